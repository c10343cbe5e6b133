import PyProof.Rows.All
import Wide.All
import OpenK.AllK
import Wide.FinOn
import HandS.Base
import HandS.Call
import HandS.List
import HandS.Comp
import HandS.Ends
import HandS.Dict
import HandS.Iter
import HandS.Text
import HandS.Words
import HandS.WordsList
import HandS.WordsDict
import HandS.Wide
import HandS.Zip
import HandS.Flow
import HandS.Flt
import KE.GoesMore
import KE.KDictZip
import PyProof.ReprRoads
import HandS.Walk
import PyProof.TupleOfSeq
import KE.GoesEnum
import HandS.Style
import PyProof.ReprLen
import HandS.IsInst
import HandS.TupAny
import PyProof.EqAt
import PyProof.NeKinds
import HandS.Codes
import HandS.Defaults
import HandS.TupMul
import HandS.Exc
import HandS.ExcOwn
import HandS.ExcInit
import HandS.ExcField
import HandS.WordsExc
import KE.KListMore
import HandS.SortOrd
import HandS.SortRule
import HandS.TupSets
import HandS.Deep
import KE.KDictPairs
import PyProof.Rows.TupDisplay
import HandS.Steps
import HandS.OwnEq
import HandS.DictComp
import HandS.DictTup
import PyProof.CollectWalk
import HandS.Conv
import HandS.Star
import PyProof.P3In
import KE.GoesZip
import KE.GoesNew
import PyProof.EqKinds
import PyProof.FactsAll.dict
import PyProof.FactsAll.subtypes
import PyProof.Rows.ReprOcc
import HandS.SortInts
import PySem.Challenge.RW_notbothout_k16_great_lines_pressed
set_option Elab.async false
set_option linter.all false
set_option maxRecDepth 100000
/-! Defs whose callers are known to show nothing (guards empty): what repr wants. -/
namespace NB
open PySem PySem.Spec PyProof.Rows L2

/-- a def's promise, wherever nothing is being shown around it -/
structure FnG (P : Program) (w : World) (K : PySem.W.Frag) (mg : Str → Option Value) (base : Heap) (k : Nat) (f : Addr) (fd : FuncData) (ps : List Str) (sp : Sp) : Prop where
  len : ∀ vs H Q E, sp vs H Q E → vs.length = ps.length
  go : ∀ (A : Around) (out : List Env) (s : Shared) (H : Hp) (ar : Args) (us : List Value) (vs : List V) (Q : VK) (E : XK),
    A.guards = some [] → Room k A → Env0 P w K mg base A out s H → BindsTo s fd ar (ps.zip us) → Vals vs us → sp vs H Q E →
    codeAny (model P w) A (.call (.ref f) ar) (CR CX0 out P w H s Q E) s

section
variable {P : Program} {w : World} {K : PySem.W.Frag} {mg : Str → Option Value} {base : Heap}

theorem FnG.of {k : Nat} {f : Addr} {fd : FuncData} {ps : List Str} {sp : Sp} (F : FnOk P w K mg base CX0 k f fd ps sp) : FnG P w K mg base k f fd ps sp :=
  ⟨F.len, fun A out s H ar us vs Q E _ => F.run A out s H ar us vs Q E⟩

theorem fnG {x qual : Str} {st : Stmt} {f : Addr} {fd : FuncData} {N ps : List Str} {k : Nat} {sp : Sp} (F : Fun K x qual st f fd)
    (S : FnScope N ps (defScope st)) (len : ∀ vs H Q E, sp vs H Q E → vs.length = ps.length)
    (body : ∀ (c : Value) (A : Around) (out : List Env) (s : Shared) (H : Hp) (vs : List V) (Q : VK) (E : XK),
      A.guards = some [] → Room k (A.deeper (envOfC qual (defScope st) s.heap.objs.size f c)) → sp vs H Q E →
      ∃ t, PSs (cxOf CX0 P w K mg base N qual (defScope st) f c A out s H E).nox (defBody st) t ∧
        t { nx := fun _ H' => Q .non H', rt := Q } (start N vs) H) :
    FnG P w K mg base (k + 1) f fd ps sp := by
  obtain ⟨oc, od, kV, doc, pm, an, c, ct, osl, rfl, lk, hc⟩ := F.ex
  refine ⟨len, fun A out s H ar us vs Q E hg hr e hb r h => ?_⟩
  have stays : ∀ b o, base.get? b = some o → s.heap.get? b = some o := fun b o q => (e.bs b o q).1
  have inH : K.In s.heap := e.mod.kin.keeps stays
  have noLim : s.heap.NoLimit := e.mod.nolimit.keeps stays
  have kinds : ∀ y ∈ ps.zip us, (defScope st).names.lookup y.1 = some .local ∨
      ((defScope st).names.lookup y.1 = some .cell ∧ ((cellsFrom (s.heap.objs.size + 1) (defScope st).names []).lookup y.1).isSome = true) := by
    intro y hy
    obtain ⟨n, v⟩ := y
    cases S.par n (List.of_mem_zip hy).1 with
    | inl q => exact .inl q
    | inr q => exact .inr ⟨q, PySem.W.cellsFrom_some _ _ _ (.inl q)⟩
  refine codeAny_call_function hr.depth (inH _ _ lk) rfl S.co S.gen rfl (PySem.W.codeRec_of inH hc) (hb _ _ _ _ ?_)
  refine wpAny_newFunctionEnv_cells S.kind kinds ?_
  rintro env rfl s1 x
  refine ⟨noLim.keeps x.toInCall.keep, codeAny_func ?_⟩
  obtain ⟨t, ht, hq⟩ := body c A out s H vs Q E hg (hr.deeper _) h
  have I := inv_start (CX := CX0) (E := E) S hr.hd e (len _ _ _ _ h) r x
  refine wpAny_mono (ht.nox.run [] s1 (start N vs) H _ I hq) ?_ fun _ _ z => z
  intro fl s' z
  cases fl with
  | ret u =>
    obtain ⟨v, σ', H', J, rv, q⟩ := z
    exact ⟨v, H', J.os, J.bare, J.base, J.hok, rv, q⟩
  | next =>
    obtain ⟨σ', H', J, q⟩ := z
    exact ⟨V.non, H', J.os, J.bare, J.base, J.hok, rfl, q⟩
  | brk => exact False.elim z.choose_spec.choose_spec.2
  | cont => exact False.elim z.choose_spec.choose_spec.2
end

section
variable {X : Cx} {k : Nat} {f : Addr} {fd : FuncData} {ps : List Str} {sp : Sp} {x : Str} {p pos : Pos} {e : Expr} {es : List Expr} {t : TA}
/-- f(..) of such a def, all arguments written -/
theorem pe_callG (hG : X.A.guards = some []) (F : FnG X.prog X.w X.K X.mg X.base k f fd ps sp) (hr : Room k X.A) (hg : Gl X x) (hm : X.mg x = some (.ref f))
    (hk : PySem.W.keepIn X.K (.ref f) = true) (hb : Binds X.K fd ps []) (ha : PA X (e :: es) t) (hdb : (x == ("__debug__" : Str)) = false := by decide)
    (he : starEach (e :: es) X.env = (false, eval e X.env) :: starEach es X.env := by rfl) (hpl : (backTo pos (starEach es X.env)).any (·.1) = false := by rfl) :
    PE X (.Call (.Name x p) (e :: es) [] pos) (tCall sp [] E0 t) := by
  refine ⟨fun pins s σ H Q I h => wpAny_Call_Name_kw (ld_glob I hg hm ?_ hdb)⟩
  refine PySem.W.callWith_K (h₀ := X.base) I.ok.mod.kin hk (thn (ha.run pos pins s σ H _ I h) ?_) he hpl
  rintro us s1 ⟨vs, H1, I1, r, q⟩
  refine ⟨I1.kIn, wpAny_call ?_⟩
  have q2 : sp vs H1 Q E0 := by
    have q' : sp (vs ++ []) H1 Q E0 := q
    rwa [List.append_nil] at q'
  have ln : us.length = ps.length := r.length.symm.trans (F.len _ _ _ _ q2)
  have bnd : BindsTo s1 fd ⟨us, []⟩ (ps.zip us) := by
    have b := hb s1 us I1.kIn (by rw [List.append_nil]; exact ln)
    rwa [List.append_nil] at b
  refine codeAny_mono (F.go X.A X.stack s1 H1 ⟨us, []⟩ us vs Q E0 hG hr I1.env0 bnd r q2) ?_
  intro rs s' z
  cases rs with
  | error e => exact False.elim z
  | ok fl =>
    cases fl with
    | ret u => exact I1.after z
    | next => exact False.elim z
    | brk => exact False.elim z
    | cont => exact False.elim z
end

section
variable {X : Cx}
/-- what repr asks of data -/
structure Showable (d : PyData) : Prop where
  sh : d.showable = true
  nd : d.hasDict = false
  dp : d.depth ≤ 60
  sz : d.shown.length ≤ sizeLine
/-- repr(x), x a list or a tuple of data -/
theorem call_reprD (hG : X.A.guards = some []) (hu : X.A.units + 64 < cLine) : CallR X (.builtin "repr") (fun xs H Q => ∃ a d, xs = [.ref a] ∧ Dp X.K H (.ref a) d ∧ Showable d ∧ Q (.str d.shown) H) := by
  intro pins s σ H xs us Q I r h
  obtain ⟨a, d, rfl, hd, S, q⟩ := h
  obtain ⟨u, rfl, ru⟩ := vals1 r
  obtain ⟨as, rd⟩ := Dp.reads I d _ u hd ru
  cases ru
  have hn := S.dp
  exact repr_of_reads' rd S.sh (PyData.noDict_hsm S.nd) hG (by omega) (fun _ _ z => z) (fun h' u tk hk => ⟨.str _, H, I.kept hk, ⟨_, rfl⟩, q⟩) S.sz
end
end NB

set_option Elab.async false
set_option linter.all false
set_option maxRecDepth 100000
set_option maxHeartbeats 1000000
/-! zip of three tuples of one length, its turns given to one name or to three. -/
namespace NB
open PySem PySem.Spec PyProof.Rows L2
open PySem.Sem (wp)

/-- a zip as it stands between two turns: a is None or the tuple given out last -/
abbrev Zat (h : Heap) (z ti to : Addr) (a b : Value) : Prop :=
  h.get? z = some { cls := .type "zip", dict := none, data := .fields #[a, b, .bool false, .ref ti, .ref to], slots := #[] }
def Out (a : Value) : Prop := a = .none ∨ ∃ T : Addr, a = rawInt T

section
variable {prog : Program} {w : World} {A : Around} {E : Value → Shared → Prop} {s : Shared} {z ti to i1 i2 i3 l1 l2 l3 : Addr} {a a1 a2 a3 : Value} {f : Bool} {xs ys zs : Array Value} {i : Nat}

theorem freeOr {Q : Bool → Shared → Prop} (ho : Out a) (hz : Zat s.heap z ti to a (.bool f))
    (h : ∀ (b : Bool) (h' : Heap) (g : Bool), Zat h' z ti to a (.bool g) → Heap.SameBut z s.heap h' → Q b { s with heap := h' }) :
    wpAny (model prog w) A (Builtin.SmallTypes.ownedTupleIsFree (.ref z)) Q E s := by
  unfold Builtin.SmallTypes.ownedTupleIsFree
  refine wpAny_bind (wpAny_field hz rfl (x := a) rfl ?_)
  rcases ho with e | ⟨T, e⟩
  · subst e
    exact wpAny_pure (h true s.heap f hz (Heap.SameBut.refl _ _))
  · subst e
    show wpAny _ _ (loadIfAlive ((T : Int).toNat) >>= _) _ _ _
    rw [Int.toNat_natCast]
    refine wpAny_bind ?_
    cases e : s.heap.get? T with
    | none =>
      have key : wpAny (model prog w) A (loadIfAlive T) (fun r s' => r = none ∧ s' = s) E s := fun _ _ _ => ⟨e, rfl⟩
      refine thn key fun r s' q => ?_
      obtain ⟨rfl, rfl⟩ := q
      exact wpAny_pure (h true _ f hz (Heap.SameBut.refl _ _))
    | some o =>
      refine PySem.W.kdx_alive e ?_
      simp only [Option.isNone_some, Bool.false_eq_true, if_false]
      refine wpAny_bind (wpAny_field hz rfl (x := .bool f) rfl ?_)
      cases f with
      | true =>
        rw [if_neg (show ¬ ((Value.bool true != Value.bool true) = true) by decide)]
        exact wpAny_pure (h false s.heap true hz (Heap.SameBut.refl _ _))
      | false =>
        rw [if_pos (show (Value.bool false != Value.bool true) = true by decide)]
        exact wpAny_bind (wpAny_setField_rec hz (by simp) fun h1 z1 s1 => wpAny_pure (h false h1 true z1 s1))

/-- the three iterators over their tuples at turn i, apart from the zip's own cells -/
abbrev St3 (h : Heap) (i1 i2 i3 l1 l2 l3 : Addr) (xs ys zs : Array Value) (i : Nat) : Prop :=
  (h.IsTupleIter i1 l1 i ∧ h.IsTuple l1 xs) ∧ (h.IsTupleIter i2 l2 i ∧ h.IsTuple l2 ys) ∧ (h.IsTupleIter i3 l3 i ∧ h.IsTuple l3 zs)

theorem keepIt {h h' : Heap} {it l : Addr} {k : Nat} {vs : Array Value} (st : h.IsTupleIter it l k ∧ h.IsTuple l vs) {x : Addr} (hs : Heap.SameBut x h h') (n1 : it ≠ x) (n2 : l ≠ x) : h'.IsTupleIter it l k ∧ h'.IsTuple l vs :=
  ⟨st.1.extBut hs.extBut n1, st.2.extBut hs.extBut n2⟩

structure Far3 (z ti to i1 i2 i3 l1 l2 l3 : Addr) : Prop where
  tiz : ti ≠ z
  toz : to ≠ z
  tito : ti ≠ to
  ti1 : ti ≠ i1
  ti2 : ti ≠ i2
  ti3 : ti ≠ i3
  to1 : to ≠ i1
  to2 : to ≠ i2
  to3 : to ≠ i3
  z1 : i1 ≠ z
  z2 : i2 ≠ z
  z3 : i3 ≠ z
  n12 : i1 ≠ i2
  n13 : i1 ≠ i3
  n23 : i2 ≠ i3
  l1n : l1 ≠ z ∧ l1 ≠ to ∧ l1 ≠ i1 ∧ l1 ≠ i2 ∧ l1 ≠ i3
  l2n : l2 ≠ z ∧ l2 ≠ to ∧ l2 ≠ i1 ∧ l2 ≠ i2 ∧ l2 ≠ i3
  l3n : l3 ≠ z ∧ l3 ≠ to ∧ l3 ≠ i1 ∧ l3 ≠ i2 ∧ l3 ≠ i3

theorem drawT {it l : Addr} {k : Nat} {vs : Array Value} {x : Value} {Q : Value → Shared → Prop} (st : s.heap.IsTupleIter it l k ∧ s.heap.IsTuple l vs) (ne : l ≠ it) (hx : vs[k]? = some x)
    (h : ∀ h', (h'.IsTupleIter it l (k + 1) ∧ h'.IsTuple l vs) → Heap.SameBut it s.heap h' → Q x { s with heap := h' }) :
    wpAny (model prog w) A (Builtin.SmallTypes.nextOf (.ref it)) Q E s :=
  RZ.nextOf_tuple_item st.1 st.2 hx fun h' q1 q2 => h h' ⟨q1, st.2.extBut q2.extBut ne⟩ q2

theorem next3 {x1 x2 x3 : Value} {Q : Value → Shared → Prop} (D : Far3 z ti to i1 i2 i3 l1 l2 l3) (ho : Out a) (hz : Zat s.heap z ti to a (.bool f))
    (hI : IsTupOf3 s.heap ti (.ref i1) (.ref i2) (.ref i3)) (hO : IsTupOf3 s.heap to a1 a2 a3) (st : St3 s.heap i1 i2 i3 l1 l2 l3 xs ys zs i)
    (hx : xs[i]? = some x1) (hy : ys[i]? = some x2) (hw : zs[i]? = some x3)
    (hQ : ∀ (h' : Heap) (a' : Value) (g : Bool) (b1 b2 b3 : Value), Out a' → Zat h' z ti to a' (.bool g) → IsTupOf3 h' to b1 b2 b3 → St3 h' i1 i2 i3 l1 l2 l3 xs ys zs (i + 1) → IsTupOf3 h' s.heap.objs.size x1 x2 x3 → h'.objs.size = s.heap.objs.size + 1 →
      (∀ c o, c ≠ z → c ≠ to → c ≠ i1 → c ≠ i2 → c ≠ i3 → s.heap.get? c = some o → h'.get? c = some o) → Q (.ref s.heap.objs.size) { s with heap := h' }) :
    wpAny (model prog w) A (Builtin.«zip.__next__» ⟨[.ref z], []⟩) (fun fin s' => ∃ v, fin = .done (.ret v) ∧ Q v s') E s := by
  obtain ⟨hp, gg, dd, tk, os⟩ := s
  show wpAny _ _ (field (.ref z) 2 >>= _) _ _ _
  refine wpAny_bind (wpAny_field hz rfl (x := .bool false) rfl ?_)
  show wpAny _ _ (field (.ref z) 3 >>= _) _ _ _
  refine wpAny_bind (wpAny_field hz rfl (x := .ref ti) rfl ?_)
  refine wpAny_bind (wpAny_seqItems hI rfl ?_)
  show wpAny _ _ (Builtin.SmallTypes.ownedTupleIsFree (.ref z) >>= _) _ _ _
  refine wpAny_bind (freeOr ho hz fun b h1 f1 hz1 hs1 => ?_)
  replace hs1 : Heap.SameBut z hp h1 := hs1
  obtain ⟨sa, sb, sc⟩ := st
  have sa1 := keepIt sa hs1 D.z1 D.l1n.1
  have sb1 := keepIt sb hs1 D.z2 D.l2n.1
  have sc1 := keepIt sc hs1 D.z3 D.l3n.1
  have hO1 : IsTupOf3 h1 to a1 a2 a3 := hs1.extBut _ _ D.toz hO
  cases b with
  | false =>
    simp only [Bool.false_eq_true, if_false]
    refine wpAny_bind ?_
    rw [← Array.forIn_toList]
    simp only [List.forIn_cons, List.forIn_nil]
    refine wpAny_bind (wpAny_bind (wpAny_holding ?_))
    show wpAny _ _ (Builtin.SmallTypes.nextOf (.ref i1) >>= _) _ _ ⟨h1, gg, dd, tk, os⟩
    refine wpAny_bind (drawT (s := ⟨h1, gg, dd, tk, os⟩) sa1 D.l1n.2.2.1 hx fun h2 sa2 hs2 => wpAny_pure (wpAny_pure ?_))
    replace hs2 : Heap.SameBut i1 h1 h2 := hs2
    have sb2 := keepIt sb1 hs2 D.n12.symm D.l2n.2.2.1
    have sc2 := keepIt sc1 hs2 D.n13.symm D.l3n.2.2.1
    refine wpAny_bind (wpAny_bind (wpAny_holding ?_))
    show wpAny _ _ (Builtin.SmallTypes.nextOf (.ref i2) >>= _) _ _ ⟨h2, gg, dd, tk, os⟩
    refine wpAny_bind (drawT (s := ⟨h2, gg, dd, tk, os⟩) sb2 D.l2n.2.2.2.1 hy fun h3 sb3 hs3 => wpAny_pure (wpAny_pure ?_))
    replace hs3 : Heap.SameBut i2 h2 h3 := hs3
    have sa3 := keepIt sa2 hs3 D.n12 D.l1n.2.2.2.1
    have sc3 := keepIt sc2 hs3 D.n23.symm D.l3n.2.2.2.1
    refine wpAny_bind (wpAny_bind (wpAny_holding ?_))
    show wpAny _ _ (Builtin.SmallTypes.nextOf (.ref i3) >>= _) _ _ ⟨h3, gg, dd, tk, os⟩
    refine wpAny_bind (drawT (s := ⟨h3, gg, dd, tk, os⟩) sc3 D.l3n.2.2.2.2 hw fun h4 sc4 hs4 => wpAny_pure (wpAny_pure (wpAny_pure ?_)))
    replace hs4 : Heap.SameBut i3 h3 h4 := hs4
    have sa4 := keepIt sa3 hs4 D.n13 D.l1n.2.2.2.2
    have sb4 := keepIt sb3 hs4 D.n23 D.l2n.2.2.2.2
    show wpAny _ _ (newTuple [x1, x2, x3] >>= _) _ _ ⟨h4, gg, dd, tk, os⟩
    refine wpAny_bind (wpAny_newTuple (wpAny_pure ⟨_, rfl, ?_⟩))
    have sz : h4.objs.size = hp.objs.size := by rw [hs4.1, hs3.1, hs2.1, hs1.1]
    have kk : ∀ c o, c ≠ z → c ≠ i1 → c ≠ i2 → c ≠ i3 → hp.get? c = some o → h4.get? c = some o := fun c o c0 c1 c2 c3 e =>
      hs4.extBut _ _ c3 (hs3.extBut _ _ c2 (hs2.extBut _ _ c1 (hs1.extBut _ _ c0 e)))
    have hz4 : Zat h4 z ti to a (.bool f1) := hs4.extBut _ _ D.z3.symm (hs3.extBut _ _ D.z2.symm (hs2.extBut _ _ D.z1.symm hz1))
    have hO4 : IsTupOf3 h4 to a1 a2 a3 := kk _ _ D.toz D.to1 D.to2 D.to3 hO
    have up : ∀ c o, h4.get? c = some o → (h4.push { cls := .type "tuple", data := .seq #[x1, x2, x3] }).get? c = some o := fun c o e => Heap.get?_push_of_some _ e
    have nw : IsTupOf3 (h4.push { cls := .type "tuple", data := .seq #[x1, x2, x3] }) h4.objs.size x1 x2 x3 := Heap.get?_push_size _ rfl
    have zw : (h4.push { cls := .type "tuple", data := .seq #[x1, x2, x3] }).objs.size = h4.objs.size + 1 := Heap.size_push ..
    show Q (.ref h4.objs.size) _
    rw [sz] at nw zw ⊢
    exact hQ _ a f1 a1 a2 a3 ho (up _ _ hz4) (up _ _ hO4)
      ⟨⟨sa4.1.at fun o e => up _ o e, sa4.2.push _⟩, ⟨sb4.1.at fun o e => up _ o e, sb4.2.push _⟩, ⟨sc4.1.at fun o e => up _ o e, sc4.2.push _⟩⟩ nw zw
      fun c o c0 _ c1 c2 c3 e => up c o (kk c o c0 c1 c2 c3 e)
  | true =>
    simp only [if_true]
    refine wpAny_bind (wpAny_rule ?_)
    refine wpAny_bind (wpAny_field (s := ⟨h1, gg, dd, tk, os⟩) hz1 rfl (x := .ref to) rfl ?_)
    refine wpAny_bind (wpAny_setField_rec (s := ⟨h1, gg, dd, tk, os⟩) hz1 (by simp) fun g0 z0 s0 => ?_)
    replace z0 : Zat g0 z ti to .ellipsis (.bool f1) := z0
    replace s0 : Heap.SameBut z h1 g0 := s0
    have ta0 := keepIt sa1 s0 D.z1 D.l1n.1
    have tb0 := keepIt sb1 s0 D.z2 D.l2n.1
    have tc0 := keepIt sc1 s0 D.z3 D.l3n.1
    have o0 : IsTupOf3 g0 to a1 a2 a3 := s0.extBut _ _ D.toz hO1
    refine wpAny_bind ?_
    simp only [List.zipIdx_cons, List.zipIdx_nil, List.forIn_cons, List.forIn_nil]
    refine wpAny_bind (wpAny_bind (wpAny_onRaise ?_))
    show wpAny _ _ (Builtin.SmallTypes.nextOf (.ref i1) >>= _) _ _ ⟨g0, gg, dd, tk, os⟩
    refine wpAny_bind (drawT (s := ⟨g0, gg, dd, tk, os⟩) ta0 D.l1n.2.2.1 hx fun p1 ta1 s1 => wpAny_pure ?_)
    replace s1 : Heap.SameBut i1 g0 p1 := s1
    have o1 : IsTupOf3 p1 to a1 a2 a3 := s1.extBut _ _ D.to1 o0
    refine wpAny_bind (wpAny_seqItems (s := ⟨p1, gg, dd, tk, os⟩) o1 rfl ?_)
    refine wpAny_bind (updateSeq_IsTupOf3 (s := ⟨p1, gg, dd, tk, os⟩) o1 fun q1 u1 r1 => wpAny_bind (wpAny_letGo (wpAny_pure ?_)))
    replace u1 : IsTupOf3 q1 to x1 a2 a3 := u1
    replace r1 : Heap.SameBut to p1 q1 := r1
    have ta2 := keepIt ta1 r1 D.to1.symm D.l1n.2.1
    have tb2 := keepIt (keepIt tb0 s1 D.n12.symm D.l2n.2.2.1) r1 D.to2.symm D.l2n.2.1
    have tc2 := keepIt (keepIt tc0 s1 D.n13.symm D.l3n.2.2.1) r1 D.to3.symm D.l3n.2.1
    refine wpAny_bind (wpAny_bind (wpAny_onRaise ?_))
    show wpAny _ _ (Builtin.SmallTypes.nextOf (.ref i2) >>= _) _ _ ⟨q1, gg, dd, tk, os⟩
    refine wpAny_bind (drawT (s := ⟨q1, gg, dd, tk, os⟩) tb2 D.l2n.2.2.2.1 hy fun p2 tb3 s2 => wpAny_pure ?_)
    replace s2 : Heap.SameBut i2 q1 p2 := s2
    have o2 : IsTupOf3 p2 to x1 a2 a3 := s2.extBut _ _ D.to2 u1
    refine wpAny_bind (wpAny_seqItems (s := ⟨p2, gg, dd, tk, os⟩) o2 rfl ?_)
    refine wpAny_bind (updateSeq_IsTupOf3 (s := ⟨p2, gg, dd, tk, os⟩) o2 fun q2 u2 r2 => wpAny_bind (wpAny_letGo (wpAny_pure ?_)))
    replace u2 : IsTupOf3 q2 to x1 x2 a3 := u2
    replace r2 : Heap.SameBut to p2 q2 := r2
    have ta4 := keepIt (keepIt ta2 s2 D.n12 D.l1n.2.2.2.1) r2 D.to1.symm D.l1n.2.1
    have tb4 := keepIt tb3 r2 D.to2.symm D.l2n.2.1
    have tc4 := keepIt (keepIt tc2 s2 D.n23.symm D.l3n.2.2.2.1) r2 D.to3.symm D.l3n.2.1
    refine wpAny_bind (wpAny_bind (wpAny_onRaise ?_))
    show wpAny _ _ (Builtin.SmallTypes.nextOf (.ref i3) >>= _) _ _ ⟨q2, gg, dd, tk, os⟩
    refine wpAny_bind (drawT (s := ⟨q2, gg, dd, tk, os⟩) tc4 D.l3n.2.2.2.2 hw fun p3 tc5 s3 => wpAny_pure ?_)
    replace s3 : Heap.SameBut i3 q2 p3 := s3
    have o3 : IsTupOf3 p3 to x1 x2 a3 := s3.extBut _ _ D.to3 u2
    refine wpAny_bind (wpAny_seqItems (s := ⟨p3, gg, dd, tk, os⟩) o3 rfl ?_)
    refine wpAny_bind (updateSeq_IsTupOf3 (s := ⟨p3, gg, dd, tk, os⟩) o3 fun q3 u3 r3 => wpAny_bind (wpAny_letGo (wpAny_pure (wpAny_pure ?_))))
    replace u3 : IsTupOf3 q3 to x1 x2 x3 := u3
    replace r3 : Heap.SameBut to p3 q3 := r3
    have ta6 := keepIt (keepIt ta4 s3 D.n13 D.l1n.2.2.2.2) r3 D.to1.symm D.l1n.2.1
    have tb6 := keepIt (keepIt tb4 s3 D.n23 D.l2n.2.2.2.2) r3 D.to2.symm D.l2n.2.1
    have tc6 := keepIt tc5 r3 D.to3.symm D.l3n.2.1
    refine wpAny_bind (wpAny_seqItems (s := ⟨q3, gg, dd, tk, os⟩) u3 rfl (wpAny_bind (wpAny_newTuple ?_)))
    have sz : q3.objs.size = hp.objs.size := by rw [r3.1, s3.1, r2.1, s2.1, r1.1, s1.1, s0.1, hs1.1]
    have hz3 : Zat q3 z ti to .ellipsis (.bool f1) := r3.extBut _ _ D.toz.symm (s3.extBut _ _ D.z3.symm (r2.extBut _ _ D.toz.symm (s2.extBut _ _ D.z2.symm (r1.extBut _ _ D.toz.symm (s1.extBut _ _ D.z1.symm z0)))))
    have kk : ∀ c o, c ≠ z → c ≠ to → c ≠ i1 → c ≠ i2 → c ≠ i3 → hp.get? c = some o → q3.get? c = some o := fun c o c0 ct c1 c2 c3 e =>
      r3.extBut _ _ ct (s3.extBut _ _ c3 (r2.extBut _ _ ct (s2.extBut _ _ c2 (r1.extBut _ _ ct (s1.extBut _ _ c1 (s0.extBut _ _ c0 (hs1.extBut _ _ c0 e)))))))
    have zlt : z < q3.objs.size := Heap.lt_size hz3
    show wpAny _ _ (Builtin.SmallTypes.ownedTupleHandOut (.ref z) (.ref q3.objs.size) >>= _) _ _ ⟨q3.push { cls := .type "tuple", data := .seq #[x1, x2, x3] }, gg, dd, tk, os⟩
    refine wpAny_bind ?_
    unfold Builtin.SmallTypes.ownedTupleHandOut
    have z5 : Zat (q3.push { cls := .type "tuple", data := .seq #[x1, x2, x3] }) z ti to .ellipsis (.bool f1) := Heap.get?_push_of_some _ hz3
    refine wpAny_bind (wpAny_setField_rec z5 (by simp) fun h7 z7 s7 => ?_)
    replace z7 : Zat h7 z ti to (rawInt q3.objs.size) (.bool f1) := z7
    replace s7 : Heap.SameBut z (q3.push { cls := .type "tuple", data := .seq #[x1, x2, x3] }) h7 := s7
    refine wpAny_setField_rec z7 (by simp) fun h8 z8 s8 => ?_
    replace z8 : Zat h8 z ti to (rawInt q3.objs.size) (.bool false) := z8
    replace s8 : Heap.SameBut z h7 h8 := s8
    have up : ∀ c o, c ≠ z → q3.get? c = some o → h8.get? c = some o := fun c o c1 e => s8.extBut _ _ c1 (s7.extBut _ _ c1 (Heap.get?_push_of_some _ e))
    have nw : IsTupOf3 h8 q3.objs.size x1 x2 x3 := s8.extBut _ _ (Nat.ne_of_gt zlt) (s7.extBut _ _ (Nat.ne_of_gt zlt) (Heap.get?_push_size _ rfl))
    have zw : h8.objs.size = q3.objs.size + 1 := by rw [s8.1, s7.1, Heap.size_push]
    have fin : ∀ {it l : Addr} {k : Nat} {vs : Array Value}, (q3.IsTupleIter it l k ∧ q3.IsTuple l vs) → it ≠ z → l ≠ z → h8.IsTupleIter it l k ∧ h8.IsTuple l vs := fun {it l k vs} st n1 n2 =>
      keepIt (keepIt ⟨st.1.at fun o e => Heap.get?_push_of_some _ e, st.2.push _⟩ s7 n1 n2) s8 n1 n2
    refine wpAny_pure ⟨_, rfl, ?_⟩
    show Q (.ref q3.objs.size) _
    rw [sz] at nw zw z8 ⊢
    exact hQ h8 _ false x1 x2 x3 (.inr ⟨_, rfl⟩) z8 (up _ _ D.toz u3) ⟨fin ta6 D.z1 D.l1n.1, fin tb6 D.z2 D.l2n.1, fin tc6 D.z3 D.l3n.1⟩ nw zw
      fun c o c0 ct c1 c2 c3 e => up c o c0 (kk c o c0 ct c1 c2 c3 e)

theorem end3 {Q : Fin → Shared → Prop} (hh : A.handled = none) (D : Far3 z ti to i1 i2 i3 l1 l2 l3) (ho : Out a) (hz : Zat s.heap z ti to a (.bool f))
    (hI : IsTupOf3 s.heap ti (.ref i1) (.ref i2) (.ref i3)) (st : s.heap.IsTupleIter i1 l1 i ∧ s.heap.IsTuple l1 xs) (hx : xs[i]? = none)
    (hE : ∀ h' e, (∀ c o, c ≠ z → c ≠ to → c ≠ i1 → c ≠ i2 → c ≠ i3 → s.heap.get? c = some o → h'.get? c = some o) → (∃ o, h'.get? e = some o ∧ o.cls = .type "StopIteration") → E (.ref e) { s with heap := h' }) :
    wpAny (model prog w) A (Builtin.«zip.__next__» ⟨[.ref z], []⟩) Q E s := by
  obtain ⟨hp, gg, dd, tk, os⟩ := s
  show wpAny _ _ (field (.ref z) 2 >>= _) _ _ _
  refine wpAny_bind (wpAny_field hz rfl (x := .bool false) rfl ?_)
  show wpAny _ _ (field (.ref z) 3 >>= _) _ _ _
  refine wpAny_bind (wpAny_field hz rfl (x := .ref ti) rfl ?_)
  refine wpAny_bind (wpAny_seqItems hI rfl ?_)
  show wpAny _ _ (Builtin.SmallTypes.ownedTupleIsFree (.ref z) >>= _) _ _ _
  refine wpAny_bind (freeOr ho hz fun b h1 f1 hz1 hs1 => ?_)
  replace hs1 : Heap.SameBut z hp h1 := hs1
  have sa1 := keepIt st hs1 D.z1 D.l1n.1
  cases b with
  | false =>
    simp only [Bool.false_eq_true, if_false]
    refine wpAny_bind ?_
    rw [← Array.forIn_toList]
    simp only [List.forIn_cons, List.forIn_nil]
    refine wpAny_bind (wpAny_bind (wpAny_holding ?_))
    show wpAny _ _ (Builtin.SmallTypes.nextOf (.ref i1) >>= _) _ _ ⟨h1, gg, dd, tk, os⟩
    refine wpAny_bind (RZ.nextOf_tuple_end (s := ⟨h1, gg, dd, tk, os⟩) hh sa1.1 sa1.2 hx fun h2 e hs2 he => ?_)
    exact hE h2 e (fun c o c0 _ c1 _ _ q => hs2 _ _ c1 (hs1.extBut _ _ c0 q)) he
  | true =>
    simp only [if_true]
    refine wpAny_bind (wpAny_rule ?_)
    refine wpAny_bind (wpAny_field (s := ⟨h1, gg, dd, tk, os⟩) hz1 rfl (x := .ref to) rfl ?_)
    refine wpAny_bind (wpAny_setField_rec (s := ⟨h1, gg, dd, tk, os⟩) hz1 (by simp) fun g0 z0 s0 => ?_)
    replace z0 : Zat g0 z ti to .ellipsis (.bool f1) := z0
    replace s0 : Heap.SameBut z h1 g0 := s0
    have ta0 := keepIt sa1 s0 D.z1 D.l1n.1
    refine wpAny_bind ?_
    simp only [List.zipIdx_cons, List.zipIdx_nil, List.forIn_cons, List.forIn_nil]
    refine wpAny_bind (wpAny_bind (wpAny_onRaise ?_))
    show wpAny _ _ (Builtin.SmallTypes.nextOf (.ref i1) >>= _) _ _ ⟨g0, gg, dd, tk, os⟩
    refine wpAny_bind (RZ.nextOf_tuple_end (s := ⟨g0, gg, dd, tk, os⟩) hh ta0.1 ta0.2 hx fun h2 e hs2 he => ?_)
    obtain ⟨oe, hoe, hce⟩ := he
    replace hs2 : Heap.ExtBut i1 g0 h2 := hs2
    replace hoe : h2.get? e = some oe := hoe
    have z2 : Zat h2 z ti to .ellipsis (.bool f1) := hs2 _ _ D.z1.symm z0
    have ne : e ≠ z := fun q => by subst q; rw [z2] at hoe; cases hoe; simp at hce
    refine wpAny_setField_rec (s := ⟨h2, gg, dd, tk, os⟩) z2 (by simp) fun h3 _ s3 => ?_
    replace s3 : Heap.SameBut z h2 h3 := s3
    exact hE h3 e (fun c o c0 _ c1 _ _ q => s3.extBut _ _ c0 (hs2 _ _ c1 (s0.extBut _ _ c0 (hs1.extBut _ _ c0 q)))) ⟨oe, s3.extBut _ _ ne hoe, hce⟩
end
end NB

set_option Elab.async false
set_option linter.all false
set_option maxRecDepth 100000
set_option maxHeartbeats 1000000
namespace NB
open PySem PySem.Spec PyProof.Rows L2

section
variable {prog : Program} {w : World} {A : Around} {E : Value → Shared → Prop} {s : Shared} {z ti to i1 i2 i3 l1 l2 l3 : Addr} {a a1 a2 a3 : Value} {f : Bool} {xs ys zs : Array Value} {i : Nat}

theorem pyNext3 {x1 x2 x3 : Value} {Q : Option Value → Shared → Prop} (D : Far3 z ti to i1 i2 i3 l1 l2 l3) (ho : Out a) (hz : Zat s.heap z ti to a (.bool f))
    (hI : IsTupOf3 s.heap ti (.ref i1) (.ref i2) (.ref i3)) (hO : IsTupOf3 s.heap to a1 a2 a3) (st : St3 s.heap i1 i2 i3 l1 l2 l3 xs ys zs i)
    (hx : xs[i]? = some x1) (hy : ys[i]? = some x2) (hw : zs[i]? = some x3)
    (hQ : ∀ (h' : Heap) (a' : Value) (g : Bool) (b1 b2 b3 : Value), Out a' → Zat h' z ti to a' (.bool g) → IsTupOf3 h' to b1 b2 b3 → St3 h' i1 i2 i3 l1 l2 l3 xs ys zs (i + 1) → IsTupOf3 h' s.heap.objs.size x1 x2 x3 → h'.objs.size = s.heap.objs.size + 1 →
      (∀ c o, c ≠ z → c ≠ to → c ≠ i1 → c ≠ i2 → c ≠ i3 → s.heap.get? c = some o → h'.get? c = some o) → Q (some (.ref s.heap.objs.size)) { s with heap := h' }) :
    wpAny (model prog w) A (pyNext (.ref z)) Q E s := by
  have ty : s.TypeIs (.ref z) "zip" := ⟨_, hz, rfl⟩
  unfold pyNext
  refine wpAny_bind (wpAny_attempt (wpAny_callSpecial?_slot (name := Str.ofString "__next__") ty F.slot_zip_next ?_))
  refine wpAny_call_entry F.slot_zip_next ty F.entry_zip_next ?_ (F.args_zip_next_1 _)
  exact next3 D ho hz hI hO st hx hy hw fun h' a' g b1 b2 b3 c1 c2 c3 c4 c5 c6 c7 => wpAny_pure (hQ h' a' g b1 b2 b3 c1 c2 c3 c4 c5 c6 c7)

theorem pyEnd3 {Q : Option Value → Shared → Prop} (hh : A.handled = none) (D : Far3 z ti to i1 i2 i3 l1 l2 l3) (ho : Out a) (hz : Zat s.heap z ti to a (.bool f))
    (hI : IsTupOf3 s.heap ti (.ref i1) (.ref i2) (.ref i3)) (st : s.heap.IsTupleIter i1 l1 i ∧ s.heap.IsTuple l1 xs) (hx : xs[i]? = none)
    (hQ : ∀ h', (∀ c o, c ≠ z → c ≠ to → c ≠ i1 → c ≠ i2 → c ≠ i3 → s.heap.get? c = some o → h'.get? c = some o) → Q none { s with heap := h' }) :
    wpAny (model prog w) A (pyNext (.ref z)) Q E s := by
  have ty : s.TypeIs (.ref z) "zip" := ⟨_, hz, rfl⟩
  unfold pyNext
  refine wpAny_bind (wpAny_attempt (wpAny_callSpecial?_slot (name := Str.ofString "__next__") ty F.slot_zip_next ?_))
  refine wpAny_call_entry F.slot_zip_next ty F.entry_zip_next (end3 hh D ho hz hI st hx fun h' e hk he => ?_) (F.args_zip_next_1 _)
  obtain ⟨o, h1, h2⟩ := he
  exact wpAny_bind (wpAny_isInstance (T := "StopIteration") (b := true) ⟨o, h1, h2⟩ isSubtype_stop (wpAny_pure (hQ _ hk)))

/-- ahead of the target's store: a target of several names lets the tuple go -/
theorem letGo3 {tg : Expr} {T : Addr} {Q : Unit → Shared → Prop} (ho : Out a) (hz : Zat s.heap z ti to a (.bool f))
    (h : ∀ (h' : Heap) (a' : Value), Out a' → Zat h' z ti to a' (.bool f) → Heap.SameBut z s.heap h' → Q () { s with heap := h' }) :
    wpAny (model prog w) A (letOwnedTupleGo tg (.ref z) (.ref T)) Q E s := by
  have same : Q () s := h s.heap a ho hz (Heap.SameBut.refl _ _)
  have main : wpAny (model prog w) A (do
      let o ← load z
      match o.cls, o.data with
      | .type n, .fields vs =>
        if ["enumerate", "zip", "dict_itemiterator", "dict_reverseitemiterator", "odict_iterator", "itertools.zip_longest", "itertools.pairwise"].contains n && vs[0]? == some (rawInt T) then
          rule "for.unpacks-the-owned-tuple"
          updateField z 0 .none
      | _, _ => pure ()) Q E s := by
    refine wpAny_bind (wpAny_load hz ?_)
    dsimp only
    split
    · refine wpAny_bind (wpAny_rule ?_)
      show wpAny _ _ (setField (.ref z) 0 .none) Q E s
      exact wpAny_setField_rec hz (by simp) fun h' z' s' => h h' .none (.inl rfl) z' s'
    · exact wpAny_pure same
  unfold letOwnedTupleGo
  cases tg <;> first
    | exact wpAny_pure same
    | exact main

theorem iter3 {Q : Value → Shared → Prop} (hz : Zat s.heap z ti to a (.bool f)) (h : Q (.ref z) s) : wpAny (model prog w) A (pyIter (.ref z)) Q E s := by
  have ty : s.TypeIs (.ref z) "zip" := ⟨_, hz, rfl⟩
  refine wpAny_pyIter_slot ty F.slot_zip_iter (wpAny_call_entry F.slot_zip_iter ty F.entry_zip_iter ?_ (F.args_zip_iter_1 _))
  show wpAny _ _ (ret (.ref z)) _ _ s
  exact wpAny_pure ⟨_, rfl, "zip", _, ty, F.slot_zip_next.lookup, h⟩
end

/-- three tuples of one length, turn by turn: a new tuple of the three items -/
def It3 (K : PySem.W.Frag) (a b c : Addr) : It :=
  ⟨fun i H => ∃ (xs ys zs : List V) (x y z : V), SqT K H a xs ∧ SqT K H b ys ∧ SqT K H c zs ∧ xs[i]? = some x ∧ ys[i]? = some y ∧ zs[i]? = some z,
    fun i H v H' => ∃ T x y z, v = .ref T ∧ H T = none ∧ H' = upd H T (.tup [x, y, z]) ∧ (∀ xs, SqT K H a xs → xs[i]? = some x) ∧ (∀ ys, SqT K H b ys → ys[i]? = some y) ∧ ∀ zs, SqT K H c zs → zs[i]? = some z,
    fun i H => ∃ xs : List V, SqT K H a xs ∧ xs.length ≤ i⟩

theorem turn3 {P : Program} {w : World} {K : PySem.W.Frag} {tg : Expr} {a b c z ti to i1 i2 i3 : Addr} (D : Far3 z ti to i1 i2 i3 a b c) :
    Turn P w K tg (It3 K a b c) [z, ti, to, i1, i2, i3] z (fun i h => (∃ v f, Out v ∧ Zat h z ti to v (.bool f)) ∧ IsTupOf3 h ti (.ref i1) (.ref i2) (.ref i3) ∧ (∃ b1 b2 b3, IsTupOf3 h to b1 b2 b3) ∧
      h.IsTupleIter i1 a i ∧ h.IsTupleIter i2 b i ∧ h.IsTupleIter i3 c i) where
  mem := by simp
  obj := fun i h st q hq => by
    obtain ⟨⟨v, f, _, hz⟩, hI, ⟨b1, b2, b3, hO⟩, ⟨o1, e1, _, d1⟩, ⟨o2, e2, _, d2⟩, ⟨o3, e3, _, d3⟩⟩ := st
    have e' : q = z ∨ q = ti ∨ q = to ∨ q = i1 ∨ q = i2 ∨ q = i3 := by simpa using hq
    rcases e' with r | r | r | r | r | r
    · rw [r]; exact ⟨_, hz, fun v q => nomatch q⟩
    · rw [r]; exact ⟨_, hI, fun v q => nomatch q⟩
    · rw [r]; exact ⟨_, hO, fun v q => nomatch q⟩
    · rw [r]; exact ⟨o1, e1, fun v q => by rw [d1] at q; cases q⟩
    · rw [r]; exact ⟨o2, e2, fun v q => by rw [d2] at q; cases q⟩
    · rw [r]; exact ⟨o3, e3, fun v q => by rw [d3] at q; cases q⟩
  keep := fun i h h' st k => by
    obtain ⟨⟨v, f, ho, hz⟩, hI, ⟨b1, b2, b3, hO⟩, h1, h2, h3⟩ := st
    exact ⟨⟨v, f, ho, k z (by simp) _ hz⟩, k ti (by simp) _ hI, ⟨b1, b2, b3, k to (by simp) _ hO⟩, h1.at fun o q => k i1 (by simp) o q, h2.at fun o q => k i2 (by simp) o q, h3.at fun o q => k i3 (by simp) o q⟩
  item := by
    intro X hP hw hK hc i pins s σ H E I hf st hg
    subst hP hw hK
    obtain ⟨⟨v, f, ho, hz⟩, hI, ⟨b1, b2, b3, hO⟩, h1, h2, h3⟩ := st
    obtain ⟨xs, ys, zs, x, y, u, qx, qy, qu, hx, hy, hu⟩ := hg
    obtain ⟨t1, r1, p1, _⟩ := I.tuple qx
    obtain ⟨t2, r2, p2, _⟩ := I.tuple qy
    obtain ⟨t3, r3, p3, _⟩ := I.tuple qu
    obtain ⟨v1, g1, rv1⟩ := r1.get hx
    obtain ⟨v2, g2, rv2⟩ := r2.get hy
    obtain ⟨v3, g3, rv3⟩ := r3.get hu
    have zl : z < s.heap.objs.size := Heap.lt_size hz
    refine pyNext3 D ho hz hI hO ⟨⟨h1, p1⟩, ⟨h2, p2⟩, ⟨h3, p3⟩⟩ (x1 := v1) (x2 := v2) (x3 := v3) (by simpa using g1) (by simpa using g2) (by simpa using g3) fun h' v' f' c1 c2 c3 ho' hz' hO' st' hT hsz hk => ?_
    refine ⟨_, rfl, letGo3 (s := { s with heap := h' }) ho' hz' fun h'' v'' ho'' hz'' sb => ?_⟩
    have hT2 : h''.get? s.heap.objs.size = some { cls := .type "tuple", data := .seq #[v1, v2, v3] } := (sb.2 _ (Nat.ne_of_gt zl)).trans hT
    have new : ObjOk X.prog X.w (upd H s.heap.objs.size (.tup [x, y, u])) h'' s.heap.objs.size (.tup [x, y, u]) :=
      ⟨by show 3 ≤ sizeLine; decide, [v1, v2, v3], .cons rv1 (.cons rv2 (.cons rv3 .nil)), ⟨_, hT2, rfl, _, rfl⟩⟩
    have I1 : Inv X pins σ (upd H s.heap.objs.size (.tup [x, y, u])) { s with heap := h'' } :=
      I.turnedNew (t' := s.toks) (ch := [z, ti, to, i1, i2, i3]) (fun q o hb e => (sb.2 q (fun q' => hb (by simp [q']))).trans
        (hk q o (fun q' => hb (by simp [q'])) (fun q' => hb (by simp [q'])) (fun q' => hb (by simp [q'])) (fun q' => hb (by simp [q'])) (fun q' => hb (by simp [q'])) e)) hf (Nat.le_refl _) new
    refine ⟨.ref s.heap.objs.size, _, I1, rfl, ⟨_, x, y, u, rfl, I.hok.fresh (Nat.le_refl _), rfl, fun l hl => by rw [I.tuple_inj hl qx]; exact hx, fun l hl => by rw [I.tuple_inj hl qy]; exact hy, fun l hl => by rw [I.tuple_inj hl qu]; exact hu⟩,
      ⟨⟨v'', f', ho'', hz''⟩, ?_, ⟨c1, c2, c3, (sb.2 _ D.toz).trans hO'⟩, st'.1.1.at fun o q => (sb.2 _ D.z1).trans q, st'.2.1.1.at fun o q => (sb.2 _ D.z2).trans q, st'.2.2.1.at fun o q => (sb.2 _ D.z3).trans q⟩, fun q hq => ?_⟩
    · exact (sb.2 _ D.tiz).trans (hk _ _ D.tiz D.tito D.ti1 D.ti2 D.ti3 hI)
    · have lt : q < s.heap.objs.size := by
        have e' : q = z ∨ q = ti ∨ q = to ∨ q = i1 ∨ q = i2 ∨ q = i3 := by simpa using hq
        rcases e' with r | r | r | r | r | r
        · rw [r]; exact zl
        · rw [r]; exact Heap.lt_size hI
        · rw [r]; exact Heap.lt_size hO
        · rw [r]; obtain ⟨_, e1, _⟩ := h1; exact Heap.lt_size e1
        · rw [r]; obtain ⟨_, e1, _⟩ := h2; exact Heap.lt_size e1
        · rw [r]; obtain ⟨_, e1, _⟩ := h3; exact Heap.lt_size e1
      rw [upd_ne (Nat.ne_of_lt lt)]
      exact (hf q hq).1
  done := by
    intro X hP hw hK hc i pins s σ H E I hf st hg
    subst hP hw hK
    obtain ⟨⟨v, f, ho, hz⟩, hI, ⟨b1, b2, b3, hO⟩, h1, h2, h3⟩ := st
    obtain ⟨xs, qx, hlen⟩ := hg
    obtain ⟨t1, r1, p1, _⟩ := I.tuple qx
    have le := r1.length
    refine pyEnd3 (I.ok.hd hc) D ho hz hI ⟨h1, p1⟩ (by simp; omega) fun h' hk => ⟨rfl, I.turnedL (t' := s.toks) (ch := [z, ti, to, i1, i2, i3]) (fun q o hb e => ?_) hf⟩
    exact hk q o (fun q' => hb (by simp [q'])) (fun q' => hb (by simp [q'])) (fun q' => hb (by simp [q'])) (fun q' => hb (by simp [q'])) (fun q' => hb (by simp [q'])) e
  self := fun A i s Q E st h => by
    obtain ⟨⟨v, f, _, hz⟩, _⟩ := st
    exact iter3 hz h

theorem far_at (n a b c : Nat) (ha : a < n) (hb : b < n) (hc : c < n) : Far3 (n + 5) (n + 3) (n + 4) n (n + 1) (n + 2) a b c := by
  constructor <;> first | (show (_ : Nat) ≠ _; omega) | (refine ⟨?_, ?_, ?_, ?_, ?_⟩ <;> (show (_ : Nat) ≠ _; omega))

def iZip3 (K : PySem.W.Frag) (ta : TA) : TI := fun σ H R => ta σ H fun vs H1 => ∃ a b c xs ys zs, vs = [.ref a, .ref b, .ref c] ∧ SqT K H1 a xs ∧ SqT K H1 b ys ∧ SqT K H1 c zs ∧ R (It3 K a b c) H1
/-- zip(e, e2, e3), tuples of one length; any target -/
theorem pi_zip3 {X : Cx} {tg e e2 e3 : Expr} {ta : TA} {p pos : Pos} (hg : Gl X "zip") (hm : X.mg "zip" = none) (ha : PA X [e, e2, e3] ta)
    (hs : starEach [e, e2, e3] X.env = (false, eval e X.env) :: starEach [e2, e3] X.env := by rfl) (hpl : (backTo pos (starEach [e2, e3] X.env)).any (·.1) = false := by rfl) :
    PI X tg (.Call (.Name "zip" p) [e, e2, e3] [] pos) (iZip3 X.K ta) := by
  refine ⟨fun pins s σ H R I h => ?_⟩
  refine Call_ (ld_blt I hg hm PyProof.Rows.boot_zip (PyProof.Rows.callWith_type1 (thn (ha.run pos pins s σ H _ I h) fun us s1 q => ?_) hs hpl))
  obtain ⟨vs, H1, I1, r1, a, b, c, xs, ys, zs, ex, q1, q2, q3, q⟩ := q
  subst ex
  cases r1 with
  | cons ra rr =>
    cases rr with
    | cons rb rr =>
      cases rr with
      | cons rc rr =>
        cases rr
        cases ra
        cases rb
        cases rc
        obtain ⟨t1, r1, p1, _⟩ := I1.tuple q1
        obtain ⟨t2, r2, p2, _⟩ := I1.tuple q2
        obtain ⟨t3, r3, p3, _⟩ := I1.tuple q3
        obtain ⟨o1, g1, _⟩ := id p1
        obtain ⟨o2, g2, _⟩ := id p2
        obtain ⟨o3, g3, _⟩ := id p3
        refine zip_begins3 (begins_tuple a t1.toArray) (begins_tuple b t2.toArray) (begins_tuple c t3.toArray) p1 p2 p3 fun h' hz hI hO e1 e2 e3 hsz hk => iter3 hz ?_
        have I2 : Inv X pins σ H1 { s1 with heap := h' } := I1.kept (t' := s1.toks) hk
        refine ⟨s1.heap.objs.size + 5, [s1.heap.objs.size + 5, s1.heap.objs.size + 3, s1.heap.objs.size + 4, s1.heap.objs.size, s1.heap.objs.size + 1, s1.heap.objs.size + 2], _, _, H1, rfl, I2, turn3 (far_at s1.heap.objs.size a b c (Heap.lt_size g1) (Heap.lt_size g2) (Heap.lt_size g3)),
          ⟨⟨.none, false, .inl rfl, hz⟩, hI, ⟨_, _, _, hO⟩, ⟨_, e1, rfl, rfl⟩, ⟨_, e2, rfl, rfl⟩, ⟨_, e3, rfl, rfl⟩⟩, fun q hq => ?_, q⟩
        have le : s1.heap.objs.size ≤ q := by
          have e' : q = s1.heap.objs.size + 5 ∨ q = s1.heap.objs.size + 3 ∨ q = s1.heap.objs.size + 4 ∨ q = s1.heap.objs.size ∨ q = s1.heap.objs.size + 1 ∨ q = s1.heap.objs.size + 2 := by simpa using hq
          rcases e' with r | r | r | r | r | r <;> rw [r] <;> first | exact Nat.le_add_right _ _ | exact Nat.le_refl _
        exact I1.fpOk le (I1.hok.fresh le)

/-- a new triple of the i-th ones -/
def Y3 (xs ys zs : List V) : Nat → Hp → V → Hp → Prop := fun i H v H' => ∃ T x y z, v = .ref T ∧ H T = none ∧ H' = upd H T (.tup [x, y, z]) ∧ xs[i]? = some x ∧ ys[i]? = some y ∧ zs[i]? = some z
theorem walk_zip3 {K : PySem.W.Frag} {a b c : Addr} {xs ys zs : List V} (h2 : ys.length = xs.length) (h3 : zs.length = xs.length) :
    Walk (It3 K a b c) xs.length (fun H => SqT K H a xs ∧ SqT K H b ys ∧ SqT K H c zs) (Y3 xs ys zs) := by
  refine ⟨fun i _ hi q => ?_, fun _ q => ⟨xs, q.1, Nat.le_refl _⟩, fun i H v H' _ q y => ?_⟩
  · exact ⟨xs, ys, zs, xs[i], ys[i]'(by omega), zs[i]'(by omega), q.1, q.2.1, q.2.2, by simp [hi], by simp [show i < ys.length by omega], by simp [show i < zs.length by omega]⟩
  · obtain ⟨T, x, y, z, e1, e2, e3, f1, f2, f3⟩ := y
    exact ⟨T, x, y, z, e1, e2, e3, f1 xs q.1, f2 ys q.2.1, f3 zs q.2.2⟩
theorem walk_zipT {K : PySem.W.Frag} {a b : Addr} {xs ys : List V} (h2 : ys.length = xs.length) :
    Walk (RZ.ItzT K a b) xs.length (fun H => SqT K H a xs ∧ SqT K H b ys) (YPair (fun i => xs[i]?) (fun i => ys[i]?)) := by
  refine ⟨fun i _ hi q => ?_, fun _ q => ⟨xs, ys, q.1, q.2, by omega⟩, fun i H v H' _ q y => ?_⟩
  · exact ⟨xs, ys, xs[i], ys[i]'(by omega), q.1, q.2, by simp [hi], by simp [show i < ys.length by omega]⟩
  · obtain ⟨T, x, u, e1, e2, e3, f1, f2⟩ := y
    exact ⟨T, x, u, e1, e2, e3, f1 xs q.1, f2 ys q.2⟩
end NB

set_option Elab.async false
set_option linter.all false
set_option maxRecDepth 100000
set_option maxHeartbeats 1000000
namespace NB
open PySem PySem.Spec PyProof.Rows L2

/-- the law's own call, its def kept to its promise where nothing is being shown -/
theorem law_end {P : Program} {w : World} {K : PySem.W.Frag} {mg mb : Str → Option Value} {k : Nat} {fa a : Addr} {fd : FuncData} {x : Str} {sp : Sp} {s : Shared} {vs : List Value} {ns : List Int}
    (hK : K.In s.heap) (hN : s.heap.Ns mainGlobals mg) (hB : s.heap.Ns builtinsNs mb) (hbb : ∀ x : Str, x ≠ "__name__" → mb x = bootBuiltins x) (lim : s.heap.NoLimit) (hg : s.gens = #[])
    (ha : s.heap.get? a = some { cls := .type "list", data := .seq vs.toArray }) (hi : IntsAre vs ns) (hl : ns.length ≤ sizeLine) (hr : Room k callerA)
    (F : ∀ base : Heap, K.In base → base.Ns mainGlobals mg → FnG P w K mg base k fa fd [x] sp) (hb : ∀ (s : Shared) (u : Value), BindsTo s fd ⟨[u], []⟩ [(x, u)])
    (hsp : ∀ H : Hp, SqL K H a (ns.map V.int) → sp [.ref a] H (fun v _ => v = .bl true) E0) :
    codeAny (model P w) callerA (.call (.ref fa) ⟨[.ref a], []⟩) (fun r s' => r = .ok (.ret (.bool true)) ∧ OldK s.heap s'.heap ∧ s'.os = s.os ∧ AllBare s'.gens) s := by
  have rv := vals_ints hi
  have lv := hi.length
  -- H: the script alone is tracked, or nothing
  suffices go : ∀ H : Hp, (∀ b, H b ≠ none → b = a ∧ K.lookup a = none ∧ ∃ o xs, H b = some (.frz o (.lst xs))) → SqL K H a (ns.map V.int) → HOk P w H s.heap →
      codeAny (model P w) callerA (.call (.ref fa) ⟨[.ref a], []⟩) (fun r s' => r = .ok (.ret (.bool true)) ∧ OldK s.heap s'.heap ∧ s'.os = s.os ∧ AllBare s'.gens) s by
    cases hk : K.lookup a with
    | some o =>
      have e := hK a o hk
      rw [ha] at e
      cases e
      refine go (fun _ => none) (fun b q => absurd rfl q) (.inr ⟨_, vs.toArray, _, hk, rfl, rfl, rfl, ?_, by simpa using rv⟩) (fun b u q => by cases (show (none : Option HO) = some u from q))
      rw [List.size_toArray, lv]
      exact hl
    | none =>
      refine go (fun b => if b = a then some (.frz { cls := .type "list", data := .seq vs.toArray } (.lst (ns.map V.int))) else none) (fun b q => ?_) (.inl (.inr ⟨_, if_pos rfl⟩)) (fun b u q => ?_)
      · by_cases h : b = a
        · exact ⟨h, hk, _, _, if_pos h⟩
        · exact absurd (if_neg h) q
      · by_cases h : b = a
        · have q' := (if_pos h).symm.trans q
          cases q'
          subst h
          exact ⟨ha, by rw [List.length_map]; exact hl, vs, _, rv, ha⟩
        · have q' := (if_neg h).symm.trans q
          cases q'
  intro H hO hS ok
  have dictFree : ∀ {b : Addr} {o : Obj} {es : Array DictEntry} {ep : Nat}, s.heap.get? b = some o → o.data = .dict es ep → H b = none := by
    intro b o es ep e d
    cases q : H b with
    | none => rfl
    | some u =>
      obtain ⟨e', _⟩ := hO b (by rw [q]; simp)
      subst e'
      rw [ha] at e
      cases e
      cases (show Data.seq vs.toArray _ = Data.dict es ep from d)
  have ns' : ∀ {b : Addr} {m : Str → Option Value}, s.heap.Ns b m → (hidT s.heap H).Ns b m := by
    rintro b m ⟨o, es, ep, e, d, r⟩
    exact ⟨o, es, ep, hidT_get e (dictFree e d), d, r⟩
  have kB : K.In (hidT s.heap H) := by
    intro b o e
    refine hidT_get (hK b o e) ?_
    cases q : H b with
    | none => rfl
    | some u =>
      obtain ⟨e', n, _⟩ := hO b (by rw [q]; simp)
      subst e'
      rw [n] at e
      cases e
  have md : Mod K mg (hidT s.heap H) := by
    obtain ⟨mc, h1, h2⟩ := lim
    exact ⟨kB, ns' hN, ⟨mb, ns' hB, hbb⟩, ⟨mc, ns' h1, h2⟩⟩
  have e0 : Env0 P w K mg (hidT s.heap H) callerA [] s H :=
    ⟨rfl, md, fun b o e => of_hidT e, Nat.le_of_eq (hidT_size _ _), trivial, fun b q => absurd (show b ∈ ([] : List Addr) from q) (by simp), ok, .of_eq hg⟩
  refine codeAny_mono ((F _ kB (ns' hN)).go callerA [] s H ⟨[.ref a], []⟩ [.ref a] [.ref a] _ _ rfl hr e0 (hb s (.ref a)) (.cons rfl .nil) (hsp H hS)) ?_
  intro r s' q
  cases r with
  | error e => exact False.elim q
  | ok fl =>
    cases fl with
    | next => exact False.elim q
    | brk => exact False.elim q
    | cont => exact False.elim q
    | ret u =>
      obtain ⟨v, H', os, bare, un, ok', r', q'⟩ := q
      have q2 : v = .bl true := q'
      subst q2
      obtain rfl : u = Value.bool true := r'
      refine ⟨rfl, OldK.of_keep fun b o e => ?_, os, bare⟩
      cases q : H b with
      | none => exact un.keep b o e q (fun z => absurd (show b ∈ ([] : List Addr) from z) (by simp)) (by simp)
      | some u =>
        obtain ⟨_, _, ob, xs, z⟩ := hO b (by rw [q]; simp)
        obtain ⟨e1, _⟩ := ok b _ z
        obtain ⟨e2, _⟩ := ok' b _ (un.frzs b ob _ z)
        rw [e] at e1
        cases e1
        exact e2

/-- what k_head leaves, from the promise of the law's def -/
theorem walkG {l : PySem.W.OpenLaw} {n k : Nat} {q : Program} {loose : List Str} {XP : (Str → Option Value) → Heap → Prop} {YP : World → Heap → Prop} {d : DefRec} {K : Params → PySem.W.Frag} {sp : World → Sp} {x : Str}
    (hn : l.most = some n) (hn2 : n ≤ sizeLine) (hdf : d.params.defaults = []) (hr : Room k callerA) (hY : ∀ (w : World) (h : Heap), YP w h → (K w.params).In h)
    (F : ∀ (w : World) (mg : Str → Option Value) (fa : Addr) (h : Heap), (K w.params).In h → h.Ns mainGlobals mg → mg d.name = some (.ref fa) →
      ∃ fd : FuncData, (∀ (s : Shared) (u : Value), BindsTo s fd ⟨[u], []⟩ [(x, u)]) ∧
        ∀ base : Heap, (K w.params).In base → base.Ns mainGlobals mg → FnG l.prog w (K w.params) mg base k fa fd [x] (sp w))
    (hsp : ∀ (w : World) (H : Hp) (a : Addr) (ns : List Int), ns.length ≤ n → SqL (K w.params) H a (ns.map V.int) → sp w [.ref a] H (fun v _ => v = .bl true) E0) :
    PySem.W.WalkO q loose XP YP l.row.toRowW d [] (fun f vs => PySem.call f vs) := by
  refine Att.attach_call hn hdf ?_
  intro w s₀ s₁ mg mb fa o pm cd doc a vs ns G Y ho hd hcd hmg hobj hints hlen hg
  have kX := hY w _ Y
  obtain ⟨fd, hb, hF⟩ := F w mg fa _ kX G.T.g hmg
  exact law_end kX G.T.g G.T.b G.T.builtins G.T.nolimit hg hobj hints (Nat.le_trans hlen hn2) hr hF hb fun H hS => hsp w H a ns hlen hS
end NB

set_option Elab.async false
set_option linter.all false
set_option maxRecDepth 100000
set_option maxHeartbeats 1000000
namespace NB
open PySem PySem.Spec PyProof.Rows L2
section
variable {prog : Program} {w : World} {A : Around} {E : Value → Shared → Prop} {s : Shared}
theorem sortedTuple {t : Addr} {vs : List Value} {ns : List Int} {Q : Value → Shared → Prop} (hl : s.heap.IsTuple t vs.toArray) (hI : IntsAre vs ns) (h64 : vs.length < 64)
    (h : ∀ (h1 h' : Heap) (p : Addr) (out : Array Value) (ep : Nat) (ns' : List Int), IntsAre out.toList ns' → ns'.Perm ns → ns'.Pairwise (· ≤ ·) → (∀ b o, s.heap.get? b = some o → h1.get? b = some o) → (∀ b o, h1.get? b = some o → h'.get? b = some o) → h1.objs.size ≤ p →
      h'.get? p = some (seqObj "list" out ep) → Q (.ref p) { s with heap := h' }) :
    wpAny (model prog w) A (call (.builtin "sorted") [.ref t]) Q E s := by
  obtain ⟨o, ho, hc, n, hd⟩ := hl
  refine Calls.call_function_entry kind_sorted plain_sorted entry_sorted (args_sorted1 _) ?_
  unfold Builtin.«sorted»
  refine wpAny_bind (m := checkCount "sorted" 1 1 _) (wpAny_pure ?_)
  refine wpAny_bind (wpAny_collect_seq t (.inr rfl) ho hc hd (fun h1 hk => ?_) (by rw [List.size_toArray, sizeLine_eq]; omega))
  refine wpAny_bind (wpAny_newList ?_)
  have e0 : (vs.toArray.toList) = vs := rfl
  have hoL : (h1.push (seqObj "list" vs.toArray 0)).get? h1.objs.size = some (seqObj "list" vs.toArray 0) := Heap.get?_push_size _ rfl
  show wpAny _ _ _ _ _ { s with heap := h1.push (seqObj "list" vs.toArray 0) }
  refine wpAny_bind (wpAny_holding (wpAny_call_entry slot_list_sort ⟨_, hoL, rfl⟩ entry_list_sort (list_sort_tree hoL hI h64 fun out ns' q1 q2 q3 => ⟨_, rfl, ?_⟩) (args_list_sort _)))
  refine wpAny_pure ⟨_, rfl, ?_⟩
  obtain ⟨ep, hat⟩ := sortedHeap_at (vs := vs) (out := out) hoL
  refine h h1 _ h1.objs.size out ep ns' q1 q2 q3 hk (fun b o q => ?_) (Nat.le_refl _) hat
  have lt := Heap.lt_size q
  rw [sortedHeap_old (Nat.ne_of_lt lt) (by rw [size_push']; exact Nat.lt_succ_of_lt lt)]
  exact Heap.get?_push_of_some _ q
end
section
variable {X : Cx}
/-- sorted(t), t a tuple of few ints -/
def rSortT (K : PySem.W.Frag) : List V → Hp → VK → Prop := fun vs H Q => ∃ (a : Addr) (ns : List Int), vs = [V.ref a] ∧ SqT K H a (ns.map V.int) ∧ ns.length < 64 ∧
  ∀ (ns' : List Int) (p : Addr), ns'.Perm ns → ns'.Pairwise (· ≤ ·) → H p = none → Q (.ref p) (upd H p (.lst (ns'.map V.int)))
theorem cr_sortT : CallR X (.builtin "sorted") (rSortT X.K) := by
  intro pins s σ H vs us Q I r h
  obtain ⟨a, ns, rfl, hs, h64, q⟩ := h
  obtain ⟨its, rv, hl, _⟩ := I.tuple hs
  rw [Vals.ref1 r]
  have hi := rv.ints
  refine sortedTuple hl hi (by rw [hi.length]; exact h64) fun h1 h' p out ep ns' q1 q2 q3 k1 k2 hp hat => ?_
  have I1 : Inv X pins σ H { s with heap := h1 } := I.kept (t' := s.toks) k1
  have hlen : (ns'.map V.int).length ≤ sizeLine := by rw [List.length_map, q2.length_eq]; exact small64 h64
  exact ⟨.ref p, upd H p (.lst (ns'.map V.int)), I1.laid (t' := s.toks) k2 hp ⟨hlen, out.toList, ep, vals_of_ints q1, hat⟩, rfl, q ns' p q2 q3 (I1.hok.fresh hp)⟩

theorem perm_sum {l l' : List Int} (h : l.Perm l') : l.sum = l'.sum := by
  induction h with
  | nil => rfl
  | cons x _ ih => simp only [List.sum_cons, ih]
  | swap x y l => simp only [List.sum_cons]; omega
  | trans _ _ i1 i2 => exact i1.trans i2
/-- the middle one of three -/
def mid3 (a b c : Int) : Int := if a ≤ b then (if b ≤ c then b else if a ≤ c then c else a) else (if a ≤ c then a else if b ≤ c then c else b)
theorem mid_of_sorted {a b c x y z : Int} (p : [x, y, z].Perm [a, b, c]) (s : [x, y, z].Pairwise (· ≤ ·)) : y = mid3 a b c := by
  have h1 : x ≤ y ∧ y ≤ z := by
    rw [List.pairwise_cons, List.pairwise_cons] at s
    exact ⟨s.1 y (by simp), s.2.1 z (by simp)⟩
  have ha : a ∈ [x, y, z] := p.symm.subset (by simp)
  have hb : b ∈ [x, y, z] := p.symm.subset (by simp)
  have hc : c ∈ [x, y, z] := p.symm.subset (by simp)
  have hs : x + y + z = a + b + c := by
    have e := perm_sum p
    simp only [List.sum_cons, List.sum_nil] at e
    omega
  simp only [List.mem_cons, List.not_mem_nil, or_false] at ha hb hc
  unfold mid3
  rcases ha with e | e | e <;> rcases hb with f | f | f <;> rcases hc with g | g | g <;> split <;> split <;> (try split) <;> omega
theorem max3 (hc : X.calm = true) : CallR X (.builtin "max") (fun xs H Q => ∃ i j k : Int, xs = [.int i, .int j, .int k] ∧ Q (.int (max (max i j) k)) H) := by
  intro pins s σ H xs us Q I r h
  obtain ⟨i, j, k, rfl, q⟩ := h
  refine call_max3Nu hc pins s σ H _ us Q I r ⟨_, _, _, _, rfl, ?_, q⟩
  have two : ∀ a b : Int, nuMax2 (.int a) (.int b) = some (.int (max a b)) := fun a b => by
    show some (if decide (a < b) = true then V.int b else V.int a) = _
    by_cases h : a < b
    · rw [if_pos (decide_eq_true h), Int.max_eq_right (Int.le_of_lt h)]
    · rw [if_neg (by simpa using h), Int.max_eq_left (by omega)]
  show (nuMax2 (.int i) (.int j)).bind (fun m => nuMax2 m (.int k)) = _
  rw [two]
  exact two _ _
theorem min3 (hc : X.calm = true) : CallR X (.builtin "min") (fun xs H Q => ∃ i j k : Int, xs = [.int i, .int j, .int k] ∧ Q (.int (min (min i j) k)) H) := by
  intro pins s σ H xs us Q I r h
  obtain ⟨i, j, k, rfl, q⟩ := h
  refine call_min3Nu hc pins s σ H _ us Q I r ⟨_, _, _, _, rfl, ?_, q⟩
  have two : ∀ a b : Int, nuMin2 (.int a) (.int b) = some (.int (min a b)) := fun a b => by
    show some (if decide (b < a) = true then V.int b else V.int a) = _
    by_cases h : b < a
    · rw [if_pos (decide_eq_true h), Int.min_eq_right (Int.le_of_lt h)]
    · rw [if_neg (by simpa using h), Int.min_eq_left (by omega)]
  show (nuMin2 (.int i) (.int j)).bind (fun m => nuMin2 m (.int k)) = _
  rw [two]
  exact two _ _
/-- a ** b: the result within 2 ^ 27 bits -/
def CPowW (i j : Int) : Prop := 0 ≤ j ∧ (Builtin.Int.intBits i : Int) * j ≤ 2 ^ 27
theorem op_powW : OpR X (binaryOp .Pow) (rI CPowW fun i j => .int (i ^ j.toNat)) := opI fun _ _ _ _ _ _ _ hc q => pow_int hc.1 hc.2 q
end
end NB

set_option Elab.async false
set_option linter.all false
set_option maxRecDepth 100000
set_option maxHeartbeats 1000000
/-! enumerate of a tuple -/
namespace NB
open PySem PySem.Spec PyProof.Rows L2

theorem enumNewT (l : Addr) (items : Array Value) : Meets (Builtin.«enumerate.__new__» ⟨[.type "enumerate", .ref l], []⟩) (fun _ R s => s.heap.IsTuple l items ∧
      R (.ok (.ret (.ref (s.heap.push { cls := .type "tuple_iterator", data := .fields #[.ref l, .int 0 0] }).objs.size)))
        { s with heap := (s.heap.push { cls := .type "tuple_iterator", data := .fields #[.ref l, .int 0 0] }).push { cls := .type "enumerate", data := .fields #[.none, .bool false, .ref s.heap.objs.size, rawInt 0, .none, .none] } }) :=
  .of_wp fun prog w A R s h => by
    obtain ⟨hp, g, d, tk, os⟩ := s
    obtain ⟨hl, h⟩ := h
    have hsub := sub_enumerate
    have hL : Heap.IsTuple (Shared.heap ⟨hp, g, d, tk, os⟩) l items := hl
    wp_walk
    refine wpAny_stack_any fun st => wpAny_pure ?_
    split
    · rename_i c _ _ _ _ _
      cases (c == Value.type "enumerate")
      · wp_walk using wpAny_pyIter_tuple hL
        exact ⟨_, rfl, h⟩
      · wp_walk using wpAny_pyIter_tuple hL
        exact ⟨_, rfl, h⟩
    · wp_walk using wpAny_pyIter_tuple hL
      exact ⟨_, rfl, h⟩
section
variable {prog : Program} {w : World} {A : Around} {E : Value → Shared → Prop} {s : Shared}
theorem enumT {l : Addr} {items : Array Value} {Q : Value → Shared → Prop} (hL : s.heap.IsTuple l items)
    (h : ∀ h', IsEnum h' (s.heap.objs.size + 1) s.heap.objs.size 0 .none → h'.IsTupleIter s.heap.objs.size l 0 → (∀ b o, s.heap.get? b = some o → h'.get? b = some o) → Q (.ref (s.heap.objs.size + 1)) { s with heap := h' }) :
    wpAny (model prog w) A (call (.type "enumerate") [.ref l]) Q E s := by
  refine callType_new F.called_enumerate (by decide) (F.typeCall_enumerate_1 _) (F.newCall_enumerate_1 _) (fun obj => F.args_object_init_2 obj _) F.entry_enumerate_new (enumNewT l items) ⟨hL, ?_⟩
  have z : (s.heap.push { cls := .type "tuple_iterator", data := .fields #[.ref l, .int 0 0] }).objs.size = s.heap.objs.size + 1 := Heap.size_push ..
  have he := Heap.get?_push_size (s.heap.push { cls := .type "tuple_iterator", data := .fields #[.ref l, .int 0 0] }) (o := { cls := .type "enumerate", data := .fields #[.none, .bool false, .ref s.heap.objs.size, rawInt 0, .none, .none] }) rfl
  show _ ∧ _
  rw [z] at he ⊢
  exact ⟨⟨_, he, rfl⟩, h _ he ⟨_, Heap.get?_push_of_some _ (Heap.get?_push_size _ rfl), rfl, rfl⟩ fun b o x => Heap.get?_push_of_some _ (Heap.get?_push_of_some _ x)⟩
end
/-- a tuple's items with their numbers, in new pairs -/
def ItE (K : PySem.W.Frag) (a : Addr) : It :=
  ⟨fun i H => ∃ (xs : List V) (x : V), SqT K H a xs ∧ xs[i]? = some x,
    fun i H v H' => ∃ T x, v = .ref T ∧ H T = none ∧ H' = upd H T (.tup [.int (i : Nat), x]) ∧ ∀ xs, SqT K H a xs → xs[i]? = some x,
    fun i H => ∃ xs : List V, SqT K H a xs ∧ xs.length = i⟩
theorem turnE {P : Program} {w : World} {K : PySem.W.Frag} {elts : List Expr} {kk : Nat} {tpos : Pos} (a e it : Addr) (n1 : e ≠ it) (n2 : a ≠ it) (n3 : e ≠ a) :
    Turn P w K (.Tuple elts kk tpos) (ItE K a) [e, it] e (fun i h => (∃ old, IsEnum h e it ((i : Nat) : Int) old) ∧ h.IsTupleIter it a i) where
  mem := by simp
  obj := fun i h st b hb => by
    obtain ⟨⟨old, he⟩, ⟨o, ho, hc, hd⟩⟩ := st
    have e' : b = e ∨ b = it := by simpa using hb
    rcases e' with z | z
    · rw [z]; exact ⟨_, he, fun v q => nomatch q⟩
    · rw [z]; exact ⟨o, ho, fun v q => by rw [hd] at q; cases q⟩
  keep := fun i h h' st k => by
    obtain ⟨⟨old, he⟩, hi⟩ := st
    exact ⟨⟨old, k e (by simp) _ he⟩, hi.at fun o q => k it (by simp) o q⟩
  item := by
    intro X hP hw hK hc i pins s σ H E I hf st hg
    subst hP hw hK
    obtain ⟨⟨old, he⟩, hit⟩ := st
    obtain ⟨xs, x, hq, hx⟩ := hg
    obtain ⟨its, rv, p, hz⟩ := I.tuple hq
    obtain ⟨u, hu, ru⟩ := rv.get hx
    have hel : e < s.heap.objs.size := Heap.lt_size he
    have hil : it < s.heap.objs.size := by obtain ⟨_, q, _⟩ := hit; exact Heap.lt_size q
    have lt : i < its.toArray.size := by
      have : i < its.length := by
        rcases Nat.lt_or_ge i its.length with q | q
        · exact q
        · rw [List.getElem?_eq_none q] at hu
          cases hu
      simpa using this
    have hD := I.ok.hd hc
    refine wpAny_pyNext_enum_itemD (Draws.tuple (A := X.A.in1) hD it a n2 its.toArray) he ⟨hit, p⟩ lt n1 (by simp; exact ⟨n1, n3⟩) fun y h' tk hy ho st' hT hsz hk => ?_
    have ey : y = u := by
      have q : its.toArray[i]? = some u := by simpa using hu
      exact Option.some.inj (hy.symm.trans q)
    subst ey
    refine ⟨_, rfl, wpAny_letOwnedTupleGo_enum (s := { s with heap := h', toks := tk + 1 }) ho fun h'' he' sb => ?_⟩
    have hT2 : h''.get? s.heap.objs.size = some { cls := .type "tuple", data := .seq #[.int i tk, y] } := (sb.2 _ (Nat.ne_of_gt hel)).trans hT
    have new : ObjOk X.prog X.w (upd H s.heap.objs.size (.tup [.int (i : Nat), x])) h'' s.heap.objs.size (.tup [.int (i : Nat), x]) :=
      ⟨by show 2 ≤ sizeLine; decide, [.int i tk, y], .cons ⟨_, rfl⟩ (.cons ru .nil), ⟨_, hT2, rfl, _, rfl⟩⟩
    have I1 : Inv X pins σ (upd H s.heap.objs.size (.tup [.int (i : Nat), x])) { s with heap := h'', toks := tk + 1 } :=
      I.turnedNew (ch := [e, it]) (fun b ob hb q => (sb.2 b (fun z => hb (by simp [z]))).trans (hk b ob (fun z => hb (by simp [z])) (fun z => hb (by simp [z])) q)) hf (Nat.le_refl _) new
    refine ⟨.ref s.heap.objs.size, _, I1, rfl, ⟨_, x, rfl, I.hok.fresh (Nat.le_refl _), rfl, fun ys hy => by rw [I.tuple_inj hy hq]; exact hx⟩, ⟨⟨y, ?_⟩, st'.1.at fun o q => (sb.2 it n1.symm).trans q⟩, fun b hb => ?_⟩
    · rw [show ((i + 1 : Nat) : Int) = (i : Int) + 1 by omega]
      exact he'
    · have hb' : b < s.heap.objs.size := by
        have e' : b = e ∨ b = it := by simpa using hb
        rcases e' with z | z
        · rw [z]; exact hel
        · rw [z]; exact hil
      rw [upd_ne (Nat.ne_of_lt hb')]
      exact (hf b hb).1
  done := by
    intro X hP hw hK hc i pins s σ H E I hf st hg
    subst hP hw hK
    obtain ⟨⟨old, he⟩, hit⟩ := st
    obtain ⟨xs, hq, hx⟩ := hg
    obtain ⟨its, rv, p, hz⟩ := I.tuple hq
    obtain ⟨f0, f1, f2, f3, f4, f5⟩ := hf it (by simp)
    have le : i = its.toArray.size := by
      have := rv.length
      simp
      omega
    subst le
    exact wpAny_pyNext_enum_endD (Draws.tuple (A := X.A.in1) (I.ok.hd hc) it a n2 its.toArray) he ⟨hit, p⟩ fun h' eb => ⟨rfl, I.turned (t' := s.toks) (fun b o hb q => eb b o hb q) f0 f1 f3 f4 f5⟩
  self := fun A i s Q E st h => by
    obtain ⟨⟨_, he⟩, _⟩ := st
    exact wpAny_pyIter_enum he h
def iEnumT (K : PySem.W.Frag) (ta : TA) : TI := fun σ H R => ta σ H fun vs H1 => ∃ a xs, vs = [.ref a] ∧ SqT K H1 a xs ∧ R (ItE K a) H1
theorem pi_enumT {X : Cx} {e : Expr} {ta : TA} {p pos tpos : Pos} {elts : List Expr} {kk : Nat} (hg : Gl X "enumerate") (hm : X.mg "enumerate" = none) (ha : PA X [e] ta) (hs : starEach [e] X.env = [(false, eval e X.env)] := by rfl) :
    PI X (.Tuple elts kk tpos) (.Call (.Name "enumerate" p) [e] [] pos) (iEnumT X.K ta) := by
  refine ⟨fun pins s σ H R I h => ?_⟩
  refine Call_ (ld_blt I hg hm boot_enumerate (PyProof.Rows.callWith_type1 (thn (ha.run pos pins s σ H _ I h) ?_) hs rfl))
  rintro us s1 ⟨vs, H1, I1, r1, a, xs, ex, hq, q⟩
  subst ex
  cases r1 with
  | cons r rr =>
    cases rr
    cases r
    obtain ⟨its, rv, p', hz⟩ := I1.tuple hq
    obtain ⟨o, g, _⟩ := id p'
    have la : a < s1.heap.objs.size := Heap.lt_size g
    refine enumT (items := its.toArray) p' fun h' he hit hk => wpAny_pyIter_enum he ?_
    have I2 : Inv X pins σ H1 { s1 with heap := h' } := I1.kept (t' := s1.toks) hk
    refine ⟨s1.heap.objs.size + 1, [s1.heap.objs.size + 1, s1.heap.objs.size], _, _, H1, rfl, I2, turnE a (s1.heap.objs.size + 1) s1.heap.objs.size (Nat.succ_ne_self _) (Nat.ne_of_lt la) (Nat.ne_of_gt (Nat.lt_succ_of_lt la)), ⟨⟨.none, he⟩, hit⟩, fun b hb => ?_, q⟩
    have e' : b = s1.heap.objs.size + 1 ∨ b = s1.heap.objs.size := by simpa using hb
    have hle : s1.heap.objs.size ≤ b := by
      rcases e' with z | z
      · rw [z]; exact Nat.le_add_right _ _
      · rw [z]; exact Nat.le_refl _
    exact I1.fpOk hle (I1.hok.fresh hle)
theorem walk_enumT {K : PySem.W.Frag} {a : Addr} {xs : List V} : Walk (ItE K a) xs.length (fun H => SqT K H a xs) (YPair (fun i => some (.int (i : Nat))) (fun i => xs[i]?)) := by
  refine ⟨fun i _ hi q => ⟨xs, xs[i], q, by simp [hi]⟩, fun _ q => ⟨xs, q, rfl⟩, fun i H v H' _ q y => ?_⟩
  obtain ⟨T, x, h1, h2, h3, h4⟩ := y
  exact ⟨T, .int (i : Nat), x, h1, h2, h3, rfl, h4 xs q⟩
end NB

set_option Elab.async false
set_option linter.all false
set_option maxRecDepth 100000
/-! t[::-1] of a tuple; repr of a truth. -/
namespace NB
open PySem PySem.Spec PyProof.Rows L2 HT

section
variable {prog : Program} {w : World} {A : Around} {E : Value → Shared → Prop} {s : Shared}
theorem adjust_back (n : Nat) : Builtin.Slice.sliceAdjust none none (-1) (n : Int) = ((n : Int) - 1, -1) := by
  unfold Builtin.Slice.sliceAdjust
  first
  | rfl
  | simp
theorem places_back (n : Nat) : Builtin.Slice.slicePlaces ((n : Int) - 1) (-1) (-1) = n := by
  unfold Builtin.Slice.slicePlaces
  have h1 : ¬ ((-1 : Int) > 0) := by decide
  simp only [h1, if_false]
  split <;> simp <;> omega
theorem sliceBack {sl : Addr} {vl vu vk : Value} {n : Nat} {Q : Int × Int × Nat → Shared → Prop} (hs : s.heap.IsSliceOf sl vl vu vk) (pl : IsPart vl none) (pu : IsPart vu none) (pk : IsPart vk (some (-1)))
    (h : Q ((n : Int) - 1, -1, n) s) : wpAny (model prog w) A (Builtin.Slice.sliceApplied (.ref sl) (pure (n : Int))) Q E s := by
  obtain ⟨os, hos, hcs, hds⟩ := id hs
  unfold Builtin.Slice.sliceApplied Builtin.Slice.sliceFields
  refine wpAny_bind (wpAny_bind (wpAny_field hos hds (x := vl) rfl (wpAny_bind (wpAny_field hos hds (x := vu) rfl (wpAny_bind (wpAny_field hos hds (x := vk) rfl (wpAny_pure ?_)))))))
  refine wpAny_bind (slicePart_ pk ?_)
  show wpAny _ _ (if ((-1 : Int) == 0) = true then _ else _) _ _ s
  rw [if_neg (by decide)]
  refine wpAny_bind (slicePart_ pl (wpAny_bind (slicePart_ pu (wpAny_bind (wpAny_pure ?_)))))
  show wpAny _ _ (match Builtin.Slice.sliceAdjust none none (-1) (n : Int) with | (lo, hi) => pure (lo, (-1 : Int), Builtin.Slice.slicePlaces lo hi (-1))) _ _ s
  rw [adjust_back n]
  show wpAny _ _ (pure ((n : Int) - 1, (-1 : Int), Builtin.Slice.slicePlaces ((n : Int) - 1) (-1) (-1))) _ _ s
  rw [places_back]
  exact wpAny_pure h
theorem pick_back (xs : Array Value) : ((List.range xs.size).filterMap fun (m : Nat) => xs[(((xs.size : Int) - 1) + (m : Int) * -1).toNat]?).toArray = xs.toList.reverse.toArray := by
  have e : ((List.range xs.size).filterMap fun (m : Nat) => xs[(((xs.size : Int) - 1) + (m : Int) * -1).toNat]?) = ((List.range xs.size).map fun k => xs.size - 1 - k).filterMap (xs[·]?) := by
    rw [List.filterMap_map]
    congr 1
    funext m
    have : (((xs.size : Int) - 1) + (m : Int) * -1).toNat = xs.size - 1 - m := by omega
    rw [this]
    rfl
  rw [e, PySem.W.krv_range, List.filterMap_reverse, PySem.W.krv_all]
theorem getItem_tuple_back {t sl : Addr} {items : Array Value} {vl vu vk : Value} {Q : Value → Shared → Prop} (ht : IsTup s.heap t items) (hs : s.heap.IsSliceOf sl vl vu vk) (pl : IsPart vl none) (pu : IsPart vu none) (pk : IsPart vk (some (-1)))
    (h : Q (.ref s.heap.objs.size) { s with heap := s.heap.push { cls := .type "tuple", data := .seq items.toList.reverse.toArray } })
    (hsz : items.size ≤ sizeLine) : wpAny (model prog w) A (getItem (.ref t) (.ref sl)) Q E s := by
  have htake : sizeOk (.seq items.toList.reverse.toArray) := by
    show items.toList.reverse.toArray.size ≤ sizeLine
    rw [List.size_toArray, List.length_reverse, Array.length_toList]
    exact hsz
  obtain ⟨os, hos, hcs, hds⟩ := id hs
  have hTs : s.TypeIs (.ref sl) "slice" := ⟨os, hos, hcs⟩
  unfold getItem
  try with_reducible refine wpAny_holding ?_
  first | refine wpAny_bind (wpAny_pure ?_) | skip
  refine wpAny_bind (wpAny_sequenceKey ht.typeIs (by decide) ?_)
  refine wpAny_bind (wpAny_callSpecial?_slot (name := Str.ofString "__getitem__") ht.typeIs PyProof.Rows.slot_tuple_getitem
    (wpAny_call_entry PyProof.Rows.slot_tuple_getitem ht.typeIs entry_tuple_getitem ?_ (args_tuple_getitem _ _)))
  show wpAny _ _ (Builtin.Tuple.tupleItemsOf (.ref t) >>= _) _ _ s
  refine wpAny_bind (tupleItemsOf_ ht ?_)
  refine wpAny_bind (wpAny_typeOf hTs ?_)
  rw [if_pos (by decide)]
  refine wpAny_bind (sliceBack hs pl pu pk ?_)
  have hno : ¬ ((((items.size : Int) - 1) == 0 && (-1 : Int) == 1 && items.size == items.size) = true) := by
    intro q
    rw [Bool.and_eq_true, Bool.and_eq_true] at q
    exact absurd q.1.2 (by decide)
  show wpAny _ _ (if (((items.size : Int) - 1) == 0 && (-1 : Int) == 1 && items.size == items.size) = true then _ else _) _ _ s
  rw [if_neg hno, pick_back]
  first
    | exact wpAny_bind (m := Builtin.Tuple.tupleExact _) (wpAny_newObj_type (wpAny_pure ⟨_, rfl, wpAny_pure h⟩) htake)
    | exact wpAny_bind (m := Builtin.Tuple.tupleExact _) (wpAny_newObj_type (wpAny_bind (wpAny_pure (wpAny_pure ⟨_, rfl, wpAny_pure h⟩))) htake)
    | exact wpAny_bind (wpAny_bind (m := Builtin.Tuple.tupleExact _) (wpAny_newObj_type (wpAny_pure (wpAny_pure ⟨_, rfl, wpAny_pure h⟩)) htake))
    | exact wpAny_bind (wpAny_bind (m := Builtin.Tuple.tupleExact _) (wpAny_newObj_type (wpAny_pure ⟨_, rfl, wpAny_pure h⟩) htake))
end

section
variable {X : Cx}
def tRevT (K : PySem.W.Frag) (te : TE) : TE := fun σ H Q => te σ H fun x H1 => ∃ a xs, x = .ref a ∧ SqT K H1 a xs ∧ ∀ p, H1 p = none → Q (.ref p) (upd H1 p (.tup xs.reverse))
theorem pe_revT {e : Expr} {te : TE} {k : Nat} {p1 p2 p3 pos : Pos} (he : PE X e te) : PE X (.Subscript e (.Slice none none (some (.UnaryOp .USub (.Constant (.int 1) k p1) p2)) p3) pos) (tRevT X.K te) := by
  refine ⟨fun pins s σ H Q I h => ?_⟩
  refine Subscript_ (thn (he.run pins s σ H _ I h) fun v s1 ⟨x, H1, I1, r1, q1⟩ => ?_)
  obtain ⟨a, xs, ex, hx, q⟩ := q1
  subst ex
  cases r1
  have hst : PO X (some (.UnaryOp .USub (.Constant (.int 1) k p1) p2)) (tPart (tUn (rU fun i => .int (-i)) (tC (.int 1)))) := po_some (pe_un un_neg pe_int)
  refine wpAny_Slice (thn (po_none.run pins s1 σ H1 (fun o H2 => o = none ∧ H2 = H1) I1 ⟨rfl, rfl⟩) fun vl s2 ⟨l, H2, I2, pl, el, e2⟩ => ?_)
  subst el e2
  refine thn (po_none.run pins s2 σ H2 (fun o H3 => o = none ∧ H3 = H2) I2 ⟨rfl, rfl⟩) fun vu s3 ⟨u, H3, I3, pu, eu, e3⟩ => ?_
  subst eu e3
  refine thn (hst.run pins s3 σ H3 (fun o H4 => o = some (-1) ∧ H4 = H3) I3 ⟨1, rfl, -1, rfl, rfl, rfl⟩) fun vs s4 ⟨o, H4, I4, ps, eo, e4⟩ => ?_
  subst eo e4
  have I5 : Inv X pins σ H4 { s4 with heap := s4.heap.push { cls := .type "slice", data := .fields #[vl, vu, vs] } } := I4.kept (t' := s4.toks) fun b ob q => Heap.get?_push_of_some _ q
  obtain ⟨its, r, ht, hz⟩ := I5.tuple hx
  have hlen := r.length
  show wpAny (model X.prog X.w) X.A (subscriptTail e (.Slice none none (some (.UnaryOp .USub (.Constant (.int 1) k p1) p2)) p3) (.ref a) (.ref s4.heap.objs.size)) (EP X pins σ Q) X.xe { s4 with heap := s4.heap.push { cls := .type "slice", data := .fields #[vl, vu, vs] } }
  refine tail_any (ops := [.ref a, .ref s4.heap.objs.size]) ht.typeIs (PyProof.Rows.slot_tuple_getitem.lookup) ?_ (by with_unfolding_all rfl)
  refine getItem_tuple_back ht (Heap.IsSliceOf.new _ vl vu vs) pl pu ps ?_ (by rw [List.size_toArray]; omega)
  refine ⟨.ref _, _, I5.laid (t' := s4.toks) (o := .tup xs.reverse) (fun b ob q => Heap.get?_push_of_some _ q) (Nat.le_refl _) ?_, rfl, q _ (I5.hok.fresh (Nat.le_refl _))⟩
  exact ⟨by rw [List.length_reverse]; exact hz, _, r.reverse, IsTup.new _ _⟩

/-- how a truth is written -/
def shB (b : Bool) : Str := if b then "True" else "False"
/-- repr(b), b a truth -/
theorem call_reprB : CallR X (.builtin "repr") (fun xs H Q => ∃ b, xs = [.bl b] ∧ Q (.str (shB b)) H) := by
  intro pins s σ H xs us Q I r h
  obtain ⟨b, rfl, q⟩ := h
  obtain ⟨u, rfl, r1⟩ := vals1 r
  cases r1
  exact P.repr_of_bool ⟨.str (shB b), H, I.tok _, ⟨_, rfl⟩, q⟩
end
end NB

set_option Elab.async false
set_option linter.all false
set_option maxRecDepth 100000
namespace NB
open PySem PySem.Spec PyProof.Rows L2
/-- data that repr writes: at most w by weight, nested at most n deep -/
structure Small (d : PyData) (w n : Nat) : Prop where
  sh : d.showable = true
  nd : d.hasDict = false
  dp : d.depth ≤ n
  lv : d.leavesShort 100 = true
  wt : d.weight ≤ w
structure SmallAll (ds : List PyData) (w n : Nat) : Prop where
  sh : PyData.showableAll ds = true
  nd : PyData.hasDictAll ds = false
  dp : PyData.depthAll ds ≤ n
  lv : PyData.leavesShortAll 100 ds = true
  wt : PyData.weightAll ds ≤ w
theorem Small.int {i : Int} (h : i.natAbs < 10 ^ 90) : Small (.int i) 310 0 := by
  have lg : i.natAbs.log2 < 300 := by
    have h2 : i.natAbs < 2 ^ 300 := Nat.lt_of_lt_of_le h (by decide)
    by_cases e : i.natAbs = 0
    · rw [e]; decide
    · exact (Nat.log2_lt e).mpr h2
  refine ⟨?_, rfl, Nat.le_refl _, ?_, ?_⟩
  · simp only [PyData.showable, decide_eq_true_eq]
    omega
  · simp only [PyData.leavesShort, decide_eq_true_eq]
    have e := int_text_length_le10 (k := 90) (by decide) h
    show (Str.ofString (toString i)).length ≤ 100
    rw [PySem.ofString_length]
    omega
  · show (if i == 0 then 0 else i.natAbs.log2 + 1) ≤ 310
    split <;> omega
theorem Small.bool (b : Bool) : Small (.bool b) 0 0 := ⟨rfl, rfl, Nat.le_refl _, rfl, Nat.le_refl _⟩
theorem Small.none : Small .none 0 0 := ⟨rfl, rfl, Nat.le_refl _, rfl, Nat.le_refl _⟩
theorem SmallAll.nil : SmallAll [] 0 0 := ⟨rfl, rfl, Nat.le_refl _, rfl, Nat.le_refl _⟩
theorem SmallAll.cons {d : PyData} {ds : List PyData} {w v n m : Nat} (h : Small d w n) (h' : SmallAll ds v m) : SmallAll (d :: ds) (w + 1 + v) (max n m) := by
  obtain ⟨a1, a2, a3, a4, a5⟩ := h
  obtain ⟨b1, b2, b3, b4, b5⟩ := h'
  refine ⟨?_, ?_, ?_, ?_, ?_⟩
  · simp only [PyData.showableAll, a1, b1, Bool.and_self]
  · simp only [PyData.hasDictAll, a2, b2, Bool.or_self]
  · simp only [PyData.depthAll]
    omega
  · simp only [PyData.leavesShortAll, a4, b4, Bool.and_self]
  · simp only [PyData.weightAll]
    omega
theorem Small.list {ds : List PyData} {w n : Nat} (h : SmallAll ds w n) : Small (.list ds) w (n + 1) := by
  obtain ⟨a1, a2, a3, a4, a5⟩ := h
  refine ⟨?_, ?_, ?_, ?_, ?_⟩
  · simpa only [PyData.showable] using a1
  · simpa only [PyData.hasDict] using a2
  · simp only [PyData.depth]
    omega
  · simpa only [PyData.leavesShort] using a4
  · simpa only [PyData.weight] using a5
theorem Small.tuple {ds : List PyData} {w n : Nat} (h : SmallAll ds w n) : Small (.tuple ds) w (n + 1) := by
  obtain ⟨a1, a2, a3, a4, a5⟩ := h
  refine ⟨?_, ?_, ?_, ?_, ?_⟩
  · simpa only [PyData.showable] using a1
  · simpa only [PyData.hasDict] using a2
  · simp only [PyData.depth]
    omega
  · simpa only [PyData.leavesShort] using a4
  · simpa only [PyData.weight] using a5
theorem SmallAll.ints : ∀ {xs : List Int}, (∀ x ∈ xs, x.natAbs < 10 ^ 90) → SmallAll (xs.map PyData.int) (311 * xs.length) 0
  | [], _ => .nil
  | x :: xs, h => by
    have c := SmallAll.cons (Small.int (h x List.mem_cons_self)) (SmallAll.ints fun y hy => h y (List.mem_cons_of_mem _ hy))
    refine ⟨c.sh, c.nd, c.dp, c.lv, Nat.le_trans c.wt ?_⟩
    rw [List.length_cons]
    omega
theorem Small.ok {d : PyData} {w n : Nat} (h : Small d w n) (hw : w ≤ 150000) (hn : n ≤ 60) : Showable d := by
  refine ⟨h.sh, h.nd, Nat.le_trans h.dp hn, ?_⟩
  have e := PyData.shown_le 100 (by decide) d h.lv
  have := h.wt
  rw [sizeLine_eq]
  have : (100 + 2) * d.weight ≤ (100 + 2) * 150000 := Nat.mul_le_mul_left _ (Nat.le_trans h.wt hw)
  omega
/-- what Dp reads of a tuple of ints -/
theorem dp_ints {K : PySem.W.Frag} {H : Hp} : ∀ xs : List Int, DpAll K H (xs.map V.int) (xs.map PyData.int)
  | [] => .nil
  | x :: xs => .cons (.int x) (dp_ints xs)
theorem dp_tup {K : PySem.W.Frag} {H : Hp} {p : Addr} {xs : List Int} (h : SqT K H p (xs.map V.int)) : Dp K H (.ref p) (.tuple (xs.map PyData.int)) := .tup h (dp_ints xs)
end NB

set_option Elab.async false
set_option linter.all false
set_option maxRecDepth 100000
set_option maxHeartbeats 1000000
/-! Data of any kind: None, truths, whole numbers, texts, lists, tuples, dicts. -/
namespace NB
open PySem PySem.Spec PyProof.Rows L2

def kD : Key → PyData
  | .inl i => .int i
  | .inr x => .str x
mutual
/-- the value v is the data d; its lists stand apart from n -/
inductive Da (n : Addr) (H : Hp) : V → PyData → Prop
  | non : Da n H .non .none
  | bl (b : Bool) : Da n H (.bl b) (.bool b)
  | int (i : Int) : Da n H (.int i) (.int i)
  | str (x : Str) : Da n H (.str x) (.str x)
  | lst {a : Addr} {xs : List V} {ds : List PyData} : H a = some (.lst xs) → a ≠ sysModules → a ≠ n → DaAll n H xs ds → Da n H (.ref a) (.list ds)
  | tup {a : Addr} {xs : List V} {ds : List PyData} : H a = some (.tup xs) → DaAll n H xs ds → Da n H (.ref a) (.tuple ds)
  | dct {a : Addr} {kvs : List (Key × V)} {ds : List (PyData × PyData)} : H a = some (.dK kvs) → DaKv n H kvs ds → Da n H (.ref a) (.dict ds)
inductive DaAll (n : Addr) (H : Hp) : List V → List PyData → Prop
  | nil : DaAll n H [] []
  | cons {v : V} {vs : List V} {d : PyData} {ds : List PyData} : Da n H v d → DaAll n H vs ds → DaAll n H (v :: vs) (d :: ds)
inductive DaKv (n : Addr) (H : Hp) : List (Key × V) → List (PyData × PyData) → Prop
  | nil : DaKv n H [] []
  | cons {k : Key} {v : V} {kvs : List (Key × V)} {d : PyData} {ds : List (PyData × PyData)} : Da n H v d → DaKv n H kvs ds → DaKv n H ((k, v) :: kvs) ((kD k, d) :: ds)
end
mutual
theorem Da.keep {n : Addr} {H H' : Hp} (hn : ∃ zs, H n = some (.lst zs)) (k : ∀ b o, b ≠ n → H b = some o → H' b = some o) : ∀ (d : PyData) (v : V), Da n H v d → Da n H' v d
  | .none, _, h => by cases h; exact .non
  | .bool b, _, h => by cases h; exact .bl b
  | .int i, _, h => by cases h; exact .int i
  | .str x, _, h => by cases h; exact .str x
  | .list ds, _, h => by
    cases h with
    | lst e n1 n2 ha => exact .lst (k _ _ n2 e) n1 n2 (DaAll.keep hn k ds _ ha)
  | .tuple ds, _, h => by
    cases h with
    | tup e ha =>
      refine .tup (k _ _ (fun z => ?_) e) (DaAll.keep hn k ds _ ha)
      obtain ⟨zs, q⟩ := hn
      rw [z, q] at e
      cases e
  | .dict ds, _, h => by
    cases h with
    | dct e ha =>
      refine .dct (k _ _ (fun z => ?_) e) (DaKv.keep hn k ds _ ha)
      obtain ⟨zs, q⟩ := hn
      rw [z, q] at e
      cases e
theorem DaAll.keep {n : Addr} {H H' : Hp} (hn : ∃ zs, H n = some (.lst zs)) (k : ∀ b o, b ≠ n → H b = some o → H' b = some o) : ∀ (ds : List PyData) (vs : List V), DaAll n H vs ds → DaAll n H' vs ds
  | [], _, h => by cases h; exact .nil
  | d :: ds, _, h => by
    cases h with
    | cons h1 h2 => exact .cons (Da.keep hn k d _ h1) (DaAll.keep hn k ds _ h2)
theorem DaKv.keep {n : Addr} {H H' : Hp} (hn : ∃ zs, H n = some (.lst zs)) (k : ∀ b o, b ≠ n → H b = some o → H' b = some o) : ∀ (ds : List (PyData × PyData)) (kvs : List (Key × V)), DaKv n H kvs ds → DaKv n H' kvs ds
  | [], _, h => by cases h; exact .nil
  | (_, d) :: ds, _, h => by
    cases h with
    | cons h1 h2 => exact .cons (Da.keep hn k d _ h1) (DaKv.keep hn k ds _ h2)
end
mutual
theorem Da.sameD {n : Addr} {H H' : Hp} (k : Same H H') : ∀ (d : PyData) (v : V), Da n H v d → Da n H' v d
  | .none, _, h => by cases h; exact .non
  | .bool b, _, h => by cases h; exact .bl b
  | .int i, _, h => by cases h; exact .int i
  | .str x, _, h => by cases h; exact .str x
  | .list ds, _, h => by
    cases h with
    | lst e n1 n2 ha => exact .lst (k _ _ e) n1 n2 (DaAll.sameD k ds _ ha)
  | .tuple ds, _, h => by
    cases h with
    | tup e ha => exact .tup (k _ _ e) (DaAll.sameD k ds _ ha)
  | .dict ds, _, h => by
    cases h with
    | dct e ha => exact .dct (k _ _ e) (DaKv.sameD k ds _ ha)
theorem DaAll.sameD {n : Addr} {H H' : Hp} (k : Same H H') : ∀ (ds : List PyData) (vs : List V), DaAll n H vs ds → DaAll n H' vs ds
  | [], _, h => by cases h; exact .nil
  | d :: ds, _, h => by
    cases h with
    | cons h1 h2 => exact .cons (Da.sameD k d _ h1) (DaAll.sameD k ds _ h2)
theorem DaKv.sameD {n : Addr} {H H' : Hp} (k : Same H H') : ∀ (ds : List (PyData × PyData)) (kvs : List (Key × V)), DaKv n H kvs ds → DaKv n H' kvs ds
  | [], _, h => by cases h; exact .nil
  | (_, d) :: ds, _, h => by
    cases h with
    | cons h1 h2 => exact .cons (Da.sameD k d _ h1) (DaKv.sameD k ds _ h2)
end
theorem Da.same {n : Addr} {H H' : Hp} {v : V} {d : PyData} (h : Da n H v d) (k : Same H H') : Da n H' v d := Da.sameD k d v h
theorem DaAll.same {n : Addr} {H H' : Hp} {vs : List V} {ds : List PyData} (h : DaAll n H vs ds) (k : Same H H') : DaAll n H' vs ds := DaAll.sameD k ds vs h
theorem DaAll.len {n : Addr} {H : Hp} {vs : List V} {ds : List PyData} (h : DaAll n H vs ds) : vs.length = ds.length := by
  induction ds generalizing vs with
  | nil => cases h; rfl
  | cons d ds ih =>
    cases h with
    | cons h1 h2 => rw [List.length_cons, List.length_cons, ih h2]
theorem DaAll.get {n : Addr} {H : Hp} {vs : List V} {ds : List PyData} (h : DaAll n H vs ds) (i : Nat) (v : V) (e : vs[i]? = some v) : ∃ d, ds[i]? = some d ∧ Da n H v d := by
  induction ds generalizing vs i with
  | nil => cases h; simp at e
  | cons d ds ih =>
    cases h with
    | cons h1 h2 =>
      cases i with
      | zero => exact ⟨d, rfl, by cases e; exact h1⟩
      | succ i => exact ih h2 i e
theorem DaAll.mem {n : Addr} {H : Hp} {vs : List V} {ds : List PyData} (h : DaAll n H vs ds) {v : V} (hv : v ∈ vs) : ∃ d ∈ ds, Da n H v d := by
  obtain ⟨i, hi, e⟩ := List.getElem_of_mem hv
  obtain ⟨d, e1, e2⟩ := h.get i v (by rw [List.getElem?_eq_getElem hi, e])
  exact ⟨d, List.mem_of_getElem? e1, e2⟩
theorem DaAll.app {n : Addr} {H : Hp} {vs us : List V} {ds es : List PyData} (h : DaAll n H vs ds) (h' : DaAll n H us es) : DaAll n H (vs ++ us) (ds ++ es) := by
  induction ds generalizing vs with
  | nil => cases h; exact h'
  | cons d ds ih =>
    cases h with
    | cons h1 h2 => exact .cons h1 (ih h2)
theorem DaAll.take {n : Addr} {H : Hp} {vs : List V} {ds : List PyData} (h : DaAll n H vs ds) (i : Nat) : DaAll n H (vs.take i) (ds.take i) := by
  induction ds generalizing vs i with
  | nil => cases h; simp only [List.take_nil]; exact .nil
  | cons d ds ih =>
    cases h with
    | cons h1 h2 =>
      cases i with
      | zero => simp only [List.take_zero]; exact .nil
      | succ i => simp only [List.take_succ_cons]; exact .cons h1 (ih h2 i)
theorem DaAll.drop {n : Addr} {H : Hp} {vs : List V} {ds : List PyData} (h : DaAll n H vs ds) (i : Nat) : DaAll n H (vs.drop i) (ds.drop i) := by
  induction ds generalizing vs i with
  | nil => cases h; simp only [List.drop_nil]; exact .nil
  | cons d ds ih =>
    cases h with
    | cons h1 h2 =>
      cases i with
      | zero => simp only [List.drop_zero]; exact .cons h1 h2
      | succ i => simp only [List.drop_succ_cons]; exact ih h2 i
theorem DaAll.ints {n : Addr} {H : Hp} : ∀ xs : List Int, DaAll n H (xs.map V.int) (xs.map PyData.int)
  | [] => .nil
  | x :: xs => .cons (.int x) (DaAll.ints xs)
/-- of which kind it is -/
def tyD : PyData → String
  | .none => "NoneType"
  | .bool _ => "bool"
  | .int _ => "int"
  | .str _ => "str"
  | .list _ => "list"
  | .tuple _ => "tuple"
  | .dict _ => "dict"
theorem Da.ty {K : PySem.W.Frag} {n : Addr} {H : Hp} {v : V} {d : PyData} (h : Da n H v d) : TyX K H v (.type (tyD d)) := by
  cases h with
  | non => exact .base .non
  | bl b => exact .base (.bl b)
  | int i => exact .base (.int i)
  | str x => exact .base (.str x)
  | lst e _ _ _ => exact .base (.lst e)
  | tup e _ => exact .base (.tup e)
  | dct e _ => exact .base (.dK e)
def isTupD : PyData → Bool
  | .tuple _ => true
  | _ => false
def isIntD : PyData → Bool
  | .int _ => true
  | .bool _ => true
  | _ => false
def isBoolD : PyData → Bool
  | .bool _ => true
  | _ => false
def isStrD : PyData → Bool
  | .str _ => true
  | _ => false
theorem kit_tup (d : PyData) : kitB (tyD d) "tuple" = some (isTupD d) := by cases d <;> (simp only [tyD, isTupD, isIntD, isBoolD, isStrD]; decide +kernel)
theorem kit_int (d : PyData) : kitB (tyD d) "int" = some (isIntD d) := by cases d <;> (simp only [tyD, isTupD, isIntD, isBoolD, isStrD]; decide +kernel)
theorem kit_bool (d : PyData) : kitB (tyD d) "bool" = some (isBoolD d) := by cases d <;> (simp only [tyD, isTupD, isIntD, isBoolD, isStrD]; decide +kernel)
theorem kit_str (d : PyData) : kitB (tyD d) "str" = some (isStrD d) := by cases d <;> (simp only [tyD, isTupD, isIntD, isBoolD, isStrD]; decide +kernel)
section
variable {X : Cx} {pins : List (Addr × Obj)} {σ : L2.St} {H : Hp} {s : Shared}
theorem key_reads {h : Heap} {k : Key} {u : Value} (e : keyIs k u = true) : Reads h u (kD k) [] := by
  rcases keyIs_shape e with ⟨i, t, rfl, rfl⟩ | ⟨x, t, rfl, rfl⟩
  · exact .int i t
  · exact .str x t
mutual
theorem Da.reads {n : Addr} (I : Inv X pins σ H s) : ∀ (d : PyData) (v : V) (u : Value), Da n H v d → RelV v u → ∃ as, Reads s.heap u d as ∧ sysModules ∉ as
  | .none, _, _, h, r => by
    cases h
    cases r
    exact ⟨_, Reads.none, List.not_mem_nil⟩
  | .bool b, _, _, h, r => by
    cases h
    cases r
    exact ⟨_, Reads.bool b, List.not_mem_nil⟩
  | .int i, _, _, h, r => by
    cases h
    obtain ⟨t, rfl⟩ := r
    exact ⟨_, Reads.int i t, List.not_mem_nil⟩
  | .str x, _, _, h, r => by
    cases h
    obtain ⟨t, rfl⟩ := r
    exact ⟨_, Reads.str x t, List.not_mem_nil⟩
  | .list ds, _, _, h, r => by
    cases h with
    | lst e n1 n2 ha =>
      cases r
      obtain ⟨its, rv, ⟨o, m, ho, hc, _, hd⟩, _⟩ := I.list (.inl (.inl e))
      obtain ⟨as, hr, hm⟩ := Da.readsAll I ds _ its ha rv
      refine ⟨_, Reads.list ho hc hd hr, fun z => ?_⟩
      rcases List.mem_cons.mp z with q | q
      · exact n1 q.symm
      · exact hm q
  | .tuple ds, _, _, h, r => by
    cases h with
    | tup e ha =>
      cases r
      obtain ⟨its, rv, ⟨o, ho, hc, m, hd⟩, _⟩ := I.tuple (.inl (.inl e))
      obtain ⟨as, hr, hm⟩ := Da.readsAll I ds _ its ha rv
      exact ⟨_, Reads.tuple ho hc hd hr, hm⟩
  | .dict ds, _, _, h, r => by
    cases h with
    | dct e ha =>
      rename_i a kvs
      cases r
      obtain ⟨_, hsys, vs, rel, o, es, ep, h1, h2, h3, _, pr, _⟩ := (show ObjOk X.prog X.w H s.heap a (.dK kvs) from I.hok a _ e)
      obtain ⟨as, bs, q1, m1, q2, m2⟩ := Da.readsKv I ds kvs vs es.toList ha rel pr
      refine ⟨_, Reads.dict h1 h2.1 h3 q1 q2, fun z => ?_⟩
      rw [List.cons_append] at z
      rcases List.mem_cons.mp z with q | q
      · exact beq_eq_false_iff_ne.mp hsys q.symm
      · rcases List.mem_append.mp q with q | q
        · exact m1 q
        · exact m2 q
theorem Da.readsAll {n : Addr} (I : Inv X pins σ H s) : ∀ (ds : List PyData) (vs : List V) (us : List Value), DaAll n H vs ds → Vals vs us → ∃ as, ReadsAll s.heap us ds as ∧ sysModules ∉ as
  | [], _, _, h, r => by
    cases h
    cases r
    exact ⟨_, ReadsAll.nil, List.not_mem_nil⟩
  | d :: ds, _, _, h, r => by
    cases h with
    | cons h1 h2 =>
      cases r with
      | cons r1 r2 =>
        obtain ⟨as, q1, m1⟩ := Da.reads I d _ _ h1 r1
        obtain ⟨bs, q2, m2⟩ := Da.readsAll I ds _ _ h2 r2
        refine ⟨_, ReadsAll.cons q1 q2, fun z => ?_⟩
        rcases List.mem_append.mp z with q | q
        · exact m1 q
        · exact m2 q
theorem Da.readsKv {n : Addr} (I : Inv X pins σ H s) : ∀ (ds : List (PyData × PyData)) (kvs : List (Key × V)) (vs : List (Key × Value)) (es : List DictEntry), DaKv n H kvs ds → KV kvs vs → Pairs (mixKind X.prog X.w) es vs →
    ∃ as bs, ReadsAll s.heap (es.map (·.key)) (ds.map (·.1)) as ∧ sysModules ∉ as ∧ ReadsAll s.heap (es.map (·.val)) (ds.map (·.2)) bs ∧ sysModules ∉ bs
  | [], _, _, _, h, r, p => by
    cases h
    cases r
    cases p
    exact ⟨_, _, ReadsAll.nil, List.not_mem_nil, ReadsAll.nil, List.not_mem_nil⟩
  | (_, d) :: ds, _, _, _, h, r, p => by
    cases h with
    | cons h1 h2 =>
      cases r with
      | cons r1 r2 =>
        cases p with
        | cons p1 p2 p3 =>
          obtain ⟨as, bs, q1, m1, q2, m2⟩ := Da.readsKv I ds _ _ _ h2 r2 p3
          obtain ⟨cs, q3, m3⟩ := Da.reads I d _ _ h1 r1.2
          refine ⟨_, _, ReadsAll.cons (key_reads (by have e := r1.1; simp only at e; show keyIs _ _ = true; rw [e]; exact p1)) q1, ?_, ReadsAll.cons (by show Reads s.heap (DictEntry.val _) d _; rw [p2]; exact q3) q2, fun z => ?_⟩
          · rw [List.nil_append]
            exact m1
          · rcases List.mem_append.mp z with q | q
            · exact m3 q
            · exact m2 q
end
end
/-- data that repr writes: at most w by weight, nested at most k deep -/
structure Sm (d : PyData) (w k : Nat) : Prop where
  sh : d.showable = true
  dp : d.depth ≤ k
  lv : d.leavesShort 100 = true
  wt : d.weight ≤ w
theorem Sm.mono {d : PyData} {w v k m : Nat} (h : Sm d w k) (hw : w ≤ v) (hk : k ≤ m) : Sm d v m := ⟨h.sh, Nat.le_trans h.dp hk, h.lv, Nat.le_trans h.wt hw⟩
/-- each of them -/
def SmE (ds : List PyData) (k : Nat) : Prop := ∀ d ∈ ds, d.showable = true ∧ d.depth ≤ k ∧ d.leavesShort 100 = true
theorem smE_iff : ∀ (ds : List PyData) (k : Nat), SmE ds k ↔ PyData.showableAll ds = true ∧ PyData.depthAll ds ≤ k ∧ PyData.leavesShortAll 100 ds = true
  | [], k => by
    refine ⟨fun _ => ⟨rfl, Nat.zero_le _, rfl⟩, fun _ d h => absurd h List.not_mem_nil⟩
  | d :: ds, k => by
    have ih := smE_iff ds k
    constructor
    · intro h
      have h1 := h d List.mem_cons_self
      have h2 := ih.mp fun e he => h e (List.mem_cons_of_mem _ he)
      refine ⟨?_, ?_, ?_⟩
      · simp only [PyData.showableAll, h1.1, h2.1, Bool.and_self]
      · simp only [PyData.depthAll]
        omega
      · simp only [PyData.leavesShortAll, h1.2.2, h2.2.2, Bool.and_self]
    · rintro ⟨h1, h2, h3⟩ e he
      simp only [PyData.showableAll, Bool.and_eq_true] at h1
      simp only [PyData.depthAll] at h2
      simp only [PyData.leavesShortAll, Bool.and_eq_true] at h3
      rcases List.mem_cons.mp he with rfl | he
      · exact ⟨h1.1, by omega, h3.1⟩
      · exact ih.mpr ⟨h1.2, by omega, h3.2⟩ e he
theorem smE_iff_depth : ∀ (ds : List PyData) (k : Nat), PyData.depthAll ds ≤ k ↔ ∀ d ∈ ds, d.depth ≤ k
  | [], k => ⟨fun _ d h => absurd h List.not_mem_nil, fun _ => Nat.zero_le _⟩
  | d :: ds, k => by
    have ih := smE_iff_depth ds k
    simp only [PyData.depthAll]
    constructor
    · intro h e he
      rcases List.mem_cons.mp he with rfl | he
      · omega
      · exact ih.mp (by omega) e he
    · intro h
      have h1 := h d List.mem_cons_self
      have h2 := ih.mpr fun e he => h e (List.mem_cons_of_mem _ he)
      omega
theorem wt_app : ∀ xs ys : List PyData, PyData.weightAll (xs ++ ys) = PyData.weightAll xs + PyData.weightAll ys
  | [], ys => by simp [PyData.weightAll]
  | x :: xs, ys => by
    rw [List.cons_append]
    simp only [PyData.weightAll, wt_app xs ys]
    omega
theorem wt_len : ∀ xs : List PyData, xs.length ≤ PyData.weightAll xs
  | [] => by simp [PyData.weightAll]
  | x :: xs => by
    have := wt_len xs
    simp only [PyData.weightAll, List.length_cons]
    omega
theorem wt_mem : ∀ {xs : List PyData} {d : PyData}, d ∈ xs → d.weight + 1 ≤ PyData.weightAll xs
  | [], d, h => absurd h List.not_mem_nil
  | x :: xs, d, h => by
    simp only [PyData.weightAll]
    rcases List.mem_cons.mp h with rfl | h
    · omega
    · have := wt_mem h
      omega
theorem Sm.tup {ds : List PyData} {w k : Nat} (h : SmE ds k) (hw : PyData.weightAll ds ≤ w) : Sm (.tuple ds) w (k + 1) := by
  obtain ⟨a, b, c⟩ := (smE_iff ds k).mp h
  refine ⟨?_, ?_, ?_, ?_⟩
  · simpa only [PyData.showable] using a
  · simp only [PyData.depth]
    omega
  · simpa only [PyData.leavesShort] using c
  · simpa only [PyData.weight] using hw
theorem Sm.lst {ds : List PyData} {w k : Nat} (h : SmE ds k) (hw : PyData.weightAll ds ≤ w) : Sm (.list ds) w (k + 1) := by
  obtain ⟨a, b, c⟩ := (smE_iff ds k).mp h
  refine ⟨?_, ?_, ?_, ?_⟩
  · simpa only [PyData.showable] using a
  · simp only [PyData.depth]
    omega
  · simpa only [PyData.leavesShort] using c
  · simpa only [PyData.weight] using hw
theorem Sm.of_tup {ds : List PyData} {w k : Nat} (h : Sm (.tuple ds) w k) : ∃ j, k = j + 1 ∧ SmE ds j ∧ PyData.weightAll ds ≤ w := by
  obtain ⟨a, b, c, e⟩ := h
  simp only [PyData.showable] at a
  simp only [PyData.depth] at b
  simp only [PyData.leavesShort] at c
  simp only [PyData.weight] at e
  refine ⟨k - 1, by omega, (smE_iff ds _).mpr ⟨a, by omega, c⟩, e⟩
theorem Sm.int {i : Int} (h : i.natAbs < 10 ^ 90) : Sm (.int i) 310 0 := by
  have s := Small.int h
  exact ⟨s.sh, s.dp, s.lv, s.wt⟩
theorem Sm.bool (b : Bool) : Sm (.bool b) 0 0 := ⟨rfl, Nat.le_refl _, rfl, Nat.le_refl _⟩
theorem Sm.none : Sm .none 0 0 := ⟨rfl, Nat.le_refl _, rfl, Nat.le_refl _⟩
theorem Sm.e {d : PyData} {w k : Nat} (h : Sm d w k) : d.showable = true ∧ d.depth ≤ k ∧ d.leavesShort 100 = true := ⟨h.sh, h.dp, h.lv⟩
theorem Sm.dict0 : Sm (.dict []) 0 1 := ⟨rfl, by decide, rfl, Nat.le_refl _⟩
theorem Sm.dict1 {x : Str} {d : PyData} {w v k : Nat} (hx : Sm (.str x) v k) (h : Sm d w k) : Sm (.dict [(.str x, d)]) (v + w + 2) (k + 1) := by
  have a := hx.wt
  have b := h.wt
  have c := hx.dp
  have e := h.dp
  refine ⟨?_, ?_, ?_, ?_⟩
  · simp only [PyData.showable, PyData.showableKv, h.sh, Bool.and_self]
  · simp only [PyData.depth, PyData.depthKv]
    omega
  · have e1 := hx.lv
    simp only [PyData.leavesShort, PyData.leavesShortKv] at e1 ⊢
    rw [e1, h.lv]
    rfl
  · simp only [PyData.weight, PyData.weightKv] at a ⊢
    omega
theorem Sm.long {d : PyData} {w k : Nat} (h : Sm d w k) (hw : w ≤ 150000) : d.shown.length ≤ sizeLine := by
  have e := PyData.shown_le 100 (by decide) d h.lv
  have := h.wt
  rw [sizeLine_eq]
  have : (100 + 2) * d.weight ≤ (100 + 2) * 150000 := Nat.mul_le_mul_left _ (Nat.le_trans h.wt hw)
  omega
section
variable {X : Cx}
/-- isinstance(x, T), x data -/
theorem call_isiD : CallR X (.builtin "isinstance") (fun xs H Q => ∃ n v d T b, xs = [v, .ty T] ∧ Da n H v d ∧ kitB (tyD d) T = some b ∧ Q (.bl b) H) := by
  intro pins s σ H xs us Q I r h
  obtain ⟨n, v, d, T, b, rfl, hd, hk, q⟩ := h
  exact call_isi pins s σ H _ us Q I r ⟨v, .ty T, _, _, b, rfl, .ty T, hd.ty, kit_ty hk, q⟩
/-- repr(x), x data -/
theorem call_reprA (hG : X.A.guards = some []) (hu : X.A.units + 64 < cLine) : CallR X (.builtin "repr") (fun xs H Q => ∃ n v d w k, xs = [v] ∧ Da n H v d ∧ Sm d w k ∧ w ≤ 150000 ∧ k ≤ 60 ∧ Q (.str d.shown) H) := by
  intro pins s σ H xs us Q I r h
  obtain ⟨n, v, d, w, k, rfl, hd, S, hw, hk, q⟩ := h
  obtain ⟨u, rfl, ru⟩ := vals1 r
  have hz := S.long hw
  have hsh := S.sh
  cases v with
  | ref a =>
    obtain ⟨as, rd, nm⟩ := Da.reads I d _ u hd ru
    cases ru
    have hn := S.dp
    exact repr_of_reads' rd S.sh (fun _ => nm) hG (by omega) (fun _ _ z => z) (fun h' u tk hk => ⟨.str _, H, I.kept hk, ⟨_, rfl⟩, q⟩) hz
  | non =>
    cases hd
    cases ru
    exact P.repr_of_none ⟨.str "None", H, I.tok _, ⟨_, rfl⟩, q⟩
  | bl b =>
    cases hd
    cases ru
    exact P.repr_of_bool ⟨.str (if b then "True" else "False"), H, I.tok _, ⟨_, rfl⟩, q⟩
  | int i =>
    cases hd
    obtain ⟨t, rfl⟩ := ru
    simp only [PyData.showable, decide_eq_true_eq] at hsh
    exact P.repr_of_int hsh ⟨.str (toString i), H, I.tok _, ⟨_, rfl⟩, q⟩
  | str x =>
    cases hd
    obtain ⟨t, rfl⟩ := ru
    exact P.repr_of_str ⟨.str (reprText x), H, I.tok _, ⟨_, rfl⟩, q⟩ hz
  | _ => cases hd
/-- t == (), t any tuple -/
theorem op_eq0 (hu : X.A.units < cLine) : OpR X (compareOp .Eq) (fun x y H Q => ∃ a b xs, x = .ref a ∧ y = .ref b ∧ SqT X.K H a xs ∧ SqT X.K H b [] ∧ Q (.bl xs.isEmpty) H) := by
  intro pins s σ H x y v u Q I rx ry h
  obtain ⟨a, b, xs, rfl, rfl, ha, hb, q⟩ := h
  cases rx
  cases ry
  obtain ⟨i1, r1, p1, _⟩ := I.tuple ha
  obtain ⟨i2, r2, p2, _⟩ := I.tuple hb
  cases r2
  refine SeqAt.eq_tupleAt (e := fun _ => true) p1 p2 hu (fun j h1 h2 => absurd h2 (by simp)) ?_
  refine ⟨.bl xs.isEmpty, H, I, ?_, q⟩
  have e := r1.length
  cases xs with
  | nil =>
    cases r1
    rfl
  | cons z zs =>
    cases r1
    simp [L2.RelV]
/-- x is y, x is not y, of truths -/
theorem op_isB : OpR X (compareOp .Is) (fun x y H Q => ∃ a b, x = .bl a ∧ y = .bl b ∧ Q (.bl (a == b)) H) := by
  intro pins s σ H x y v u Q I rx ry h
  obtain ⟨a, b, rfl, rfl, q⟩ := h
  cases rx
  cases ry
  exact wpAny_pure ⟨.bl (a == b), H, I, by cases a <;> cases b <;> rfl, q⟩
theorem op_isnotB : OpR X (compareOp .IsNot) (fun x y H Q => ∃ a b, x = .bl a ∧ y = .bl b ∧ Q (.bl (!(a == b))) H) := by
  intro pins s σ H x y v u Q I rx ry h
  obtain ⟨a, b, rfl, rfl, q⟩ := h
  cases rx
  cases ry
  exact wpAny_pure ⟨.bl (!(a == b)), H, I, by cases a <;> cases b <;> rfl, q⟩
/-- t != (), t any tuple -/
theorem op_ne0 (hu : X.A.units < cLine) : OpR X (compareOp .NotEq) (fun x y H Q => ∃ a b xs, x = .ref a ∧ y = .ref b ∧ SqT X.K H a xs ∧ SqT X.K H b [] ∧ Q (.bl (!xs.isEmpty)) H) := by
  intro pins s σ H x y v u Q I rx ry h
  obtain ⟨a, b, xs, rfl, rfl, ha, hb, q⟩ := h
  cases rx
  cases ry
  obtain ⟨i1, r1, p1, _⟩ := I.tuple ha
  obtain ⟨i2, r2, p2, _⟩ := I.tuple hb
  cases r2
  refine SeqAt.RcNeAt.tuples (e := fun _ => true) p1 p2 hu (fun j h1 h2 => absurd h2 (by simp)) X.prog X.w X.xe _ ?_
  refine ⟨.bl (!xs.isEmpty), H, I, ?_, q⟩
  cases xs with
  | nil =>
    cases r1
    rfl
  | cons z zs =>
    cases r1
    simp [L2.RelV]
/-- a written list stands apart from what the machine keeps by itself -/
def tLstN (t : TA) : TE := fun σ H Q => t σ H fun xs H1 => xs.length ≤ sizeLine ∧ ∀ p, H1 p = none → p ≠ sysModules → Q (.ref p) (upd H1 p (.lst xs))
theorem pe_lstN {es : List Expr} {pos : Pos} {t : TA} (h : PA X es t) : PE X (.List es pos) (tLstN t) := by
  refine ⟨fun pins s σ H Q I hq => ?_⟩
  refine wpAny_List_spliced (thn (h.run pos pins s σ H _ I hq) fun us s1 ⟨xs, H1, I1, r, z, q⟩ => ⟨by rw [← r.length]; exact z, ?_⟩)
  have hf : H1 s1.heap.objs.size = none := I1.hok.fresh (Nat.le_refl _)
  refine ⟨.ref s1.heap.objs.size, upd H1 s1.heap.objs.size (.lst xs), I1.laid (t' := s1.toks) (fun b u e => Heap.get?_push_of_some _ e) (Nat.le_refl _) ?_, rfl, q _ hf (Nat.ne_of_gt I1.big)⟩
  exact ⟨z, us, 0, r, Heap.get?_push_size _ rfl⟩
/-- list(t), t a tuple -/
theorem call_list_ofN : CallR X (.type "list") (fun xs H Q => ∃ p ys, xs = [.ref p] ∧ SqT X.K H p ys ∧ ∀ l, H l = none → l ≠ sysModules → Q (.ref l) (upd H l (.lst ys))) := by
  intro pins s σ H xs us Q I r h
  obtain ⟨p, ys, rfl, hq, q⟩ := h
  obtain ⟨u, rfl, rx⟩ := vals1 r
  cases rx
  have fin : ∀ (its : List Value), Vals ys its → ys.length ≤ sizeLine → ∀ (h' : Heap) (c' : Nat), (∀ b o', s.heap.get? b = some o' → h'.get? b = some o') →
      h'.get? s.heap.objs.size = some { cls := .type "list", dict := none, data := .seq its.toArray c', slots := #[] } → EP X pins σ Q (.ref s.heap.objs.size) { s with heap := h' } := fun its r' hz h' c' kp e =>
    ⟨.ref s.heap.objs.size, _, I.laid (t' := s.toks) kp (Nat.le_refl _) (show ObjOk X.prog X.w _ h' _ (.lst ys) from ⟨hz, its, c', r', e⟩), rfl, q _ (I.hok.fresh (Nat.le_refl _)) (Nat.ne_of_gt I.big)⟩
  obtain ⟨its, r', pl, hz⟩ := I.tuple hq
  have hlen := r'.length
  obtain ⟨o, ho, hc, n, hd⟩ := pl
  exact call_list_seq p (.inr rfl) ho hc hd (fun h' c' kp e => fin its r' hz h' c' kp e) (by simp only [List.size_toArray] <;> omega)
end
/-- two ways that come to the same -/
theorem join2 {c : Bool} {A B : VK → Prop} {Q : VK} (R : V → Hp → Prop) (hA : ∀ Q' : VK, (∀ v H, R v H → Q' v H) → A Q') (hB : ∀ Q' : VK, (∀ v H, R v H → Q' v H) → B Q') (hQ : ∀ v H, R v H → Q v H) : if c = true then A Q else B Q := by
  cases c
  · exact iteF (hB Q hQ)
  · exact iteT (hA Q hQ)
theorem inV_int2 (i j k : Int) : inV (V.int i) [V.int j, V.int k] = (decide (i = j) || decide (i = k)) := by
  rw [Bool.eq_iff_iff]
  simp only [inV, eqV, List.any_cons, List.any_nil, Bool.or_false, Bool.or_eq_true, beq_iff_eq, decide_eq_true_eq]
  constructor
  · rintro (h | h)
    · exact .inl h.symm
    · exact .inr h.symm
  · rintro (h | h)
    · exact .inl h.symm
    · exact .inr h.symm
theorem inV_str2 (z x y : Str) : inV (V.str z) [V.str x, V.str y] = (decide (z = x) || decide (z = y)) := by
  rw [Bool.eq_iff_iff]
  simp only [inV, eqV, List.any_cons, List.any_nil, Bool.or_false, Bool.or_eq_true, beq_iff_eq, decide_eq_true_eq]
  constructor
  · rintro (h | h)
    · exact .inl h.symm
    · exact .inr h.symm
  · rintro (h | h)
    · exact .inl h.symm
    · exact .inr h.symm
theorem wipe1 {σ : L2.St} {k : Nat} {v : Option V} {n : Str} : wipe ((wipe σ ([(n, k)].map (·.2))).set k v) ([(n, k)].map (·.2)) = wipe σ ([(n, k)].map (·.2)) := by
  show ((σ.set k none).set k v).set k none = σ.set k none
  rw [List.set_set, List.set_set]
end NB

set_option Elab.async false
set_option linter.all false
set_option maxRecDepth 100000
namespace K16
open PySem PySem.Spec PyProof.Rows L2 NB
def topS (i : Nat) : Stmt := PySem.Challenge.pw_notbothout_k16_great_lines_pressed.main.body.getD i (.Pass ⟨0, 0, 0, 0⟩)

/-- all that was tracked stands, but for what is at a -/
def But (a : Addr) (H H' : Hp) : Prop := ∀ b o, b ≠ a → H b = some o → H' b = some o
theorem But.of {a : Addr} {H H' : Hp} (h : Same H H') : But a H H' := fun b o _ e => h b o e
theorem But.trans {a : Addr} {H H1 H2 : Hp} (h : But a H H1) (h' : But a H1 H2) : But a H H2 := fun b o n e => h' b o n (h b o n e)
theorem But.seq {K : PySem.W.Frag} {a l : Addr} {H H' : Hp} {xs : List V} (h : But a H H') (n : l ≠ a) (q : SqL K H l xs) : SqL K H' l xs := by
  rcases q with (q | ⟨o, q⟩) | q
  · exact .inl (.inl (h _ _ n q))
  · exact .inl (.inr ⟨o, h _ _ n q⟩)
  · exact .inr q
theorem But.tup {K : PySem.W.Frag} {a l : Addr} {H H' : Hp} {xs : List V} (h : But a H H') (n : l ≠ a) (q : SqT K H l xs) : SqT K H' l xs := by
  rcases q with (q | ⟨o, q⟩) | q
  · exact .inl (.inl (h _ _ n q))
  · exact .inl (.inr ⟨o, h _ _ n q⟩)
  · exact .inr q
theorem sameT {K : PySem.W.Frag} {l : Addr} {H H' : Hp} {xs : List V} (h : Same H H') (q : SqT K H l xs) : SqT K H' l xs := by
  rcases q with (q | ⟨o, q⟩) | q
  · exact .inl (.inl (h _ _ q))
  · exact .inl (.inr ⟨o, h _ _ q⟩)
  · exact .inr q
theorem same_new {H : Hp} {p : Addr} {o : HO} (h : H p = none) : Same H (upd H p o) := fun b x e => by
  rw [upd_ne (ne_of_none e h)]
  exact e
/-- a cell that was free and is written stands apart from what was -/
theorem same_over {H H' : Hp} {p : Addr} {o : HO} (h : Same H H') (n : H p = none) : Same H (upd H' p o) := fun b x e => by
  rw [upd_ne (ne_of_none e n)]
  exact h b x e

theorem mapGet {α β : Type} {f : α → β} {xs : List α} {i : Nat} {y : β} (h : (xs.map f)[i]? = some y) : ∃ x, xs[i]? = some x ∧ y = f x := by
  rw [List.getElem?_map] at h
  cases e : xs[i]? with
  | none => rw [e] at h; cases h
  | some x => rw [e] at h; exact ⟨x, rfl, (Option.some.inj h).symm⟩

theorem take_map {α β : Type} (f : α → β) (xs : List α) (i : Nat) (y : α) (h : xs[i]? = some y) : (xs.take (i + 1)).map f = (xs.take i).map f ++ [f y] := by
  rw [List.take_add_one, h, List.map_append]
  rfl
theorem take_small {α : Type} {xs : List α} {i : Nat} (h : xs.length ≤ 1000) {β : Type} (f : α → β) : ((xs.take i).map f).length < sizeLine := by
  rw [List.length_map, List.length_take]
  exact Nat.lt_of_le_of_lt (Nat.min_le_right _ _) (small1000 h)

abbrev sPot : Stmt := topS 64
abbrev sTake : Stmt := topS 65
abbrev sOf : Stmt := topS 66
abbrev sStand : Stmt := topS 67
theorem scPot : FnScope ["_law_script", "_law_k", "_law_cell", "_law_great_here"] ["_law_script", "_law_k"] (defScope sPot) := ⟨rfl, rfl, rfl, by decide +kernel, rfl, by decide +kernel, by decide +kernel⟩
theorem scTake : FnScope ["_law_pot_here", "_law_many", "_law_digit", "_law_prime", "_law_mixed"] ["_law_pot_here", "_law_many"] (defScope sTake) := ⟨rfl, rfl, rfl, by decide +kernel, rfl, by decide +kernel, by decide +kernel⟩
theorem scOf : FnScope ["_law_pot_here", "_law_some"] ["_law_pot_here", "_law_some"] (defScope sOf) := ⟨rfl, rfl, rfl, by decide +kernel, rfl, by decide +kernel, by decide +kernel⟩
theorem scStand : FnScope ["_law_pot_here", "_law_tops", "_law_top"] ["_law_pot_here", "_law_tops"] (defScope sStand) := ⟨rfl, rfl, rfl, by decide +kernel, rfl, by decide +kernel, by decide +kernel⟩

/-- a pot out of which at most c numbers were taken by reckoning -/
def PotAt (H : Hp) (a : Addr) (c : Nat) : Prop := ∃ p q r : Int, H a = some (.lst [.int p, .int q, .int r]) ∧ 0 ≤ p ∧ 0 ≤ r ∧ r ≤ c
theorem PotAt.mono {H : Hp} {a : Addr} {c d : Nat} (h : PotAt H a c) (le : c ≤ d) : PotAt H a d := by
  obtain ⟨p, q, r, e, h1, h2, h3⟩ := h
  exact ⟨p, q, r, e, h1, h2, by omega⟩
theorem PotAt.keep {H H' : Hp} {a : Addr} {c : Nat} (h : PotAt H a c) (s : Same H H') : PotAt H' a c := by
  obtain ⟨p, q, r, e, h1, h2, h3⟩ := h
  exact ⟨p, q, r, s _ _ e, h1, h2, h3⟩
theorem PotAt.ne {H : Hp} {a b : Addr} {c : Nat} (h : PotAt H a c) (n : H b = none) : b ≠ a := by
  obtain ⟨p, q, r, e, _⟩ := h
  exact (ne_of_none e n).symm
theorem But.free {a b : Addr} {H H' : Hp} (h : But a H H') (ne : b ≠ a) (n : H' b = none) : H b = none := by
  cases e : H b with
  | none => rfl
  | some o =>
    rw [h b o ne e] at n
    cases n
theorem but_new {a p : Addr} {H H' : Hp} {o : HO} (h : But a H H') (n : H p = none) : But a H (upd H' p o) := fun b x ne e => by
  rw [upd_ne (ne_of_none e n)]
  exact h b x ne e
theorem but_at {a : Addr} {H H' : Hp} {o : HO} (h : But a H H') : But a H (upd H' a o) := fun b x ne e => by
  rw [upd_ne ne]
  exact h b x ne e

theorem prime_at (j : Int) (h0 : 0 ≤ j) (h4 : j < 4) : ∃ pr : Int, atI [V.int 2305843009213693951, V.int 999999999989, V.int 1000000000039, V.int 67280421310721] j = some (.int pr) ∧ 0 < pr ∧ pr < 2 ^ 62 := by
  have : j = 0 ∨ j = 1 ∨ j = 2 ∨ j = 3 := by omega
  rcases this with rfl | rfl | rfl | rfl
  · exact ⟨_, atI_nat (j := 0) rfl, by decide, by decide⟩
  · exact ⟨_, atI_nat (j := 1) rfl, by decide, by decide⟩
  · exact ⟨_, atI_nat (j := 2) rfl, by decide, by decide⟩
  · exact ⟨_, atI_nat (j := 3) rfl, by decide, by decide⟩

section
variable {P : Program} {w : World} {K : PySem.W.Frag} {mg : Str → Option Value} {base : Heap}

def spPot (K : PySem.W.Frag) : Sp := fun vs H Q _ => ∃ (a : Addr) (ns : List Int) (k : Nat), vs = [.ref a, .int k] ∧ SqL K H a (ns.map V.int) ∧ k ≤ 1000 ∧
  ∀ H' p, Same H H' → H p = none → PotAt H' p 0 → Q (.ref p) H'
theorem ok_pot {f : Addr} {fd : FuncData} {k : Nat} (F : Fun K "_law_pot" "_law_pot" sPot f fd) (ml : mg "len" = none) (ma : mg "abs" = none) (mi : mg "int" = none) : FnOk P w K mg base CX0 (k + 1) f fd ["_law_script", "_law_k"] (spPot K) := by
  refine F.ok scPot (fun vs H Q E h => ?_) (fun cdv A outer s H vs Q E hr h => ?_)
  · obtain ⟨a, ns, k, rfl, _⟩ := h
    rfl
  · obtain ⟨a, ns, k, rfl, hS, hk, q⟩ := h
    refine ⟨_, pss_cons (ps_set (i := 2) scPot.nd rfl (.inl rfl) (pe_ifExp (pt_cmpR op_lt (pv 1) (pe_callB call_len_seq (by rfl) ml PySem.boot_len (pa_cons (pv 0) pa_nil)) (nomark _)) (pe_ix ix_list (pv 0) (pv 1) (fun _ _ => rfl)) (pe_op op_add (pe_op op_mul pe_int (pv 1)) pe_int)))
      (pss_cons (ps_set (i := 3) scPot.nd rfl (.inl rfl) (pe_op op_mul (pe_op op_mod (pe_callB call_abs (by rfl) ma (by decide +kernel) (pa_cons (pv 2) pa_nil)) (pe_op op_powW (pe_op op_pow pe_int pe_int) pe_int))
          (pe_callTy call_int1 (by rfl) mi (by decide +kernel) (pa_cons (pe_cmpR op_ge (pe_callB call_abs (by rfl) ma (by decide +kernel) (pa_cons (pv 2) pa_nil)) (pe_op op_pow pe_int pe_int) (nomark _)) pa_nil))))
      (pss_one (ps_ret (pe_lst (pa_cons (pv 3) (pa_cons (pe_op op_mod (pe_op op_mul (pe_op op_add (pe_op op_add (pe_op op_mod (pv 2) pe_int) (pe_op op_mul (pe_op op_mul pe_int (pv 1)) (pv 1))) pe_int) pe_int) pe_int) (pa_cons pe_int pa_nil))))))), ?_⟩
    have k1 : -(2 ^ 64) < (k : Int) ∧ (k : Int) < 2 ^ 64 := by omega
    have big : (0 : Int) < (10 ^ (60 : Int).toNat) ^ (5 : Int).toNat := by decide +kernel
    have one : ∀ b : Bool, -(2 ^ 64) < (if b = true then (1 : Int) else 0) ∧ (if b = true then (1 : Int) else 0) < 2 ^ 64 := fun b => by cases b <;> decide
    have nn : ∀ (x : Int) (b : Bool), 0 ≤ x % (10 ^ (60 : Int).toNat) ^ (5 : Int).toNat * (if b = true then (1 : Int) else 0) := fun x b => Int.mul_nonneg (Int.emod_nonneg _ (Int.ne_of_gt big)) (by cases b <;> decide)
    refine ⟨.int k, rfl, .ref a, rfl, a, _, rfl, .inl hS, _, _, rfl, rfl, _, rfl, ite2 (fun c => ?_) (fun c => ?_)⟩
    · have c' := of_decide_eq_true c
      rw [List.length_map] at c'
      have lt : k < ns.length := by omega
      refine ⟨.ref a, rfl, .int k, rfl, a, _, k, .int ns[k], rfl, rfl, hS, atI_nat (by rw [List.getElem?_map, List.getElem?_eq_getElem lt]; rfl), ?_⟩
      refine ⟨.int ns[k], rfl, _, rfl, 10, 60, rfl, rfl, ⟨by decide, by decide, by decide⟩, _, 5, rfl, rfl, ⟨by decide, by decide +kernel⟩, _, _, rfl, rfl, big, .int ns[k], rfl, _, rfl, 10, 18, rfl, rfl, ⟨by decide, by decide, by decide⟩, _, _, rfl, rfl, .inr ⟨_, rfl, _, _, rfl, rfl, .inr (one _), ?_⟩⟩
      refine ⟨_, rfl, .int ns[k], rfl, _, 2305843009213693951, rfl, rfl, (show (0 : Int) < 2305843009213693951 by decide), .int k, rfl, 7919, k, rfl, rfl, .inl ⟨by decide, by decide⟩, .int k, rfl, _, k, rfl, rfl, .inr k1, _, _, rfl, rfl, _, 17, rfl, rfl, _, 48271, rfl, rfl, .inr ⟨by decide, by decide⟩, _, 2305843009213693921, rfl, rfl, (show (0 : Int) < 2305843009213693921 by decide), (show 3 ≤ sizeLine by decide), fun p np => ?_⟩
      exact q _ p (same_new np) np ⟨_, _, 0, upd_same, nn _ _, Int.le_refl _, Int.le_refl _⟩
    · refine ⟨.int k, rfl, 7, _, rfl, rfl, .inl ⟨by decide, by decide⟩, _, 3, rfl, rfl, ?_⟩
      refine ⟨_, rfl, _, rfl, 10, 60, rfl, rfl, ⟨by decide, by decide, by decide⟩, _, 5, rfl, rfl, ⟨by decide, by decide +kernel⟩, _, _, rfl, rfl, big, _, rfl, _, rfl, 10, 18, rfl, rfl, ⟨by decide, by decide, by decide⟩, _, _, rfl, rfl, .inr ⟨_, rfl, _, _, rfl, rfl, .inr (one _), ?_⟩⟩
      refine ⟨_, rfl, _, rfl, _, 2305843009213693951, rfl, rfl, (show (0 : Int) < 2305843009213693951 by decide), .int k, rfl, 7919, k, rfl, rfl, .inl ⟨by decide, by decide⟩, .int k, rfl, _, k, rfl, rfl, .inr k1, _, _, rfl, rfl, _, 17, rfl, rfl, _, 48271, rfl, rfl, .inr ⟨by decide, by decide⟩, _, 2305843009213693921, rfl, rfl, (show (0 : Int) < 2305843009213693921 by decide), (show 3 ≤ sizeLine by decide), fun p np => ?_⟩
      exact q _ p (same_new np) np ⟨_, _, 0, upd_same, nn _ _, Int.le_refl _, Int.le_refl _⟩

/-- a drawn number -/
def spTake : Sp := fun vs H Q _ => ∃ (a : Addr) (m : Int) (c : Nat), vs = [.ref a, .int m] ∧ PotAt H a c ∧ 1 ≤ m ∧ m < 2 ^ 200 ∧ c < 1000000 ∧
  ∀ (d : Int) H', But a H H' → PotAt H' a (c + 1) → 0 ≤ d → d < m → Q (.int d) H'
theorem ok_take {f : Addr} {fd : FuncData} {k : Nat} (F : Fun K "_law_take" "_law_take" sTake f fd) : FnOk P w K mg base CX0 (k + 1) f fd ["_law_pot_here", "_law_many"] spTake := by
  refine F.ok scTake (fun vs H Q E h => ?_) (fun cdv A outer s H vs Q E hr h => ?_)
  · obtain ⟨a, m, c, rfl, _⟩ := h
    rfl
  · obtain ⟨a, m, c, rfl, ⟨p0, p1, p2, ea, n0, n2, l2⟩, m1, m2, hc, q⟩ := h
    refine ⟨_, pss_cons (ps_if (pt_cmpR op_gt (pe_ix ix_list (pv 0) pe_int (fun _ _ => rfl)) pe_int (nomark _))
        (pss_cons (ps_set (i := 2) scTake.nd rfl (.inl rfl) (pe_op op_mod (pe_ix ix_list (pv 0) pe_int (fun _ _ => rfl)) (pv 1)))
        (pss_cons (ps_asg (pe_op op_fdivW (pe_ix ix_list (pv 0) pe_int (fun _ _ => rfl)) (pv 1)) (pg_sub (pv 0) pe_int set_list))
        (pss_one (ps_ret (pv 2))))) pss_nil)
      (pss_cons (ps_asg (pe_op op_add (pe_ix ix_list (pv 0) pe_int (fun _ _ => rfl)) pe_int) (pg_sub (pv 0) pe_int set_list))
      (pss_cons (ps_set (i := 3) scTake.nd rfl (.inl rfl) (pe_ix ix_list (pe_lst (pa_cons pe_int (pa_cons pe_int (pa_cons pe_int (pa_cons pe_int pa_nil))))) (pe_op op_mod (pe_ix ix_list (pv 0) pe_int (fun _ _ => rfl)) pe_int) (fun _ _ => rfl)))
      (pss_cons (ps_set (i := 4) scTake.nd rfl (.inl rfl) (pe_op op_mod (pe_op op_add (pe_op op_add (pe_ix ix_list (pv 0) pe_int (fun _ _ => rfl)) (pe_op op_mul (pe_op op_mul pe_int (pe_ix ix_list (pv 0) pe_int (fun _ _ => rfl))) (pe_ix ix_list (pv 0) pe_int (fun _ _ => rfl)))) (pe_op op_mul pe_int (pe_ix ix_list (pv 0) pe_int (fun _ _ => rfl)))) (pv 3)))
      (pss_cons (ps_set (i := 4) scTake.nd rfl (.inl rfl) (pe_op op_mod (pe_op op_pow (pv 4) pe_int) (pv 3)))
      (pss_one (ps_ret (pe_op op_mod (pe_op op_add (pe_op op_fdiv (pv 4) pe_int) (pe_op op_mul (pe_op op_fdiv (pv 4) pe_int) pe_int)) (pv 1)))))))), ?_⟩
    have mpos : (0 : Int) < m := by omega
    refine ⟨.ref a, rfl, a, _, 0, .int p0, rfl, rfl, .inl (.inl ea), atI_nat (j := 0) rfl, _, 0, rfl, rfl, _, rfl, ite2 (fun _ => ?_) (fun _ => ?_)⟩
    · refine ⟨.ref a, rfl, a, _, 0, .int p0, rfl, rfl, .inl (.inl ea), atI_nat (j := 0) rfl, .int m, rfl, p0, m, rfl, rfl, mpos, ?_⟩
      refine ⟨.ref a, rfl, a, _, 0, .int p0, rfl, rfl, .inl (.inl ea), atI_nat (j := 0) rfl, .int m, rfl, p0, m, rfl, rfl, wide_div (b := 200) mpos (by omega) (by decide) (by decide), ?_⟩
      refine ⟨.ref a, rfl, a, _, 0, 0, rfl, rfl, ea, rfl, ?_⟩
      refine ⟨.int (p0 % m), rfl, ?_⟩
      refine q _ _ (but_at (fun _ _ _ e => e)) ⟨p0 / m, p1, p2, upd_same, Int.ediv_nonneg n0 (by omega), n2, by omega⟩ (Int.emod_nonneg _ (by omega)) (Int.emod_lt_of_pos _ mpos)
    · refine ⟨.ref a, rfl, a, _, 2, .int p2, rfl, rfl, .inl (.inl ea), atI_nat (j := 2) rfl, p2, 1, rfl, rfl, ?_⟩
      refine ⟨.ref a, rfl, a, _, 2, 2, rfl, rfl, ea, rfl, ?_⟩
      obtain ⟨pr, epr, pp, pl⟩ := prime_at ((p2 + 1) % 4) (Int.emod_nonneg _ (by decide)) (Int.emod_lt_of_pos _ (by decide))
      have ea2 : (upd H a (.lst [.int p0, .int p1, .int (p2 + 1)])) a = some (.lst [.int p0, .int p1, .int (p2 + 1)]) := upd_same
      refine ⟨(show 4 ≤ sizeLine by decide), fun l nl => ?_⟩
      have nla : a ≠ l := ne_of_none ea2 nl
      have ea3 : (upd (upd H a (.lst [.int p0, .int p1, .int (p2 + 1)])) l (.lst [V.int 2305843009213693951, V.int 999999999989, V.int 1000000000039, V.int 67280421310721])) a = some (.lst [.int p0, .int p1, .int (p2 + 1)]) := (upd_ne nla).trans ea2
      refine ⟨.ref a, rfl, a, _, 2, .int (p2 + 1), rfl, rfl, .inl (.inl ea3), atI_nat (j := 2) rfl, p2 + 1, 4, rfl, rfl, (show (0 : Int) < 4 by decide), l, _, (p2 + 1) % 4, .int pr, rfl, rfl, .inl (.inl upd_same), epr, ?_⟩
      have b2 : -(2 ^ 64) < p2 + 1 ∧ p2 + 1 < 2 ^ 64 := by omega
      refine ⟨.ref a, rfl, a, _, 1, .int p1, rfl, rfl, .inl (.inl ea3), atI_nat (j := 1) rfl, .ref a, rfl, a, _, 2, .int (p2 + 1), rfl, rfl, .inl (.inl ea3), atI_nat (j := 2) rfl, 7919, p2 + 1, rfl, rfl, .inl ⟨by decide, by decide⟩, .ref a, rfl, a, _, 2, .int (p2 + 1), rfl, rfl, .inl (.inl ea3), atI_nat (j := 2) rfl, _, p2 + 1, rfl, rfl, .inr b2, _, _, rfl, rfl,
        .ref a, rfl, a, _, 2, .int (p2 + 1), rfl, rfl, .inl (.inl ea3), atI_nat (j := 2) rfl, 65537, p2 + 1, rfl, rfl, .inl ⟨by decide, by decide⟩, _, _, rfl, rfl, .int pr, rfl, _, pr, rfl, rfl, pp, ?_⟩
      have mx : ∀ e : Int, (e % pr).natAbs < 2 ^ 64 := fun e => by
        have h1 := Int.emod_nonneg e (Int.ne_of_gt pp)
        have h2 := Int.emod_lt_of_pos e pp
        omega
      refine ⟨_, rfl, _, 5, rfl, rfl, ⟨by decide, by decide, mx _⟩, .int pr, rfl, _, pr, rfl, rfl, pp, ?_⟩
      refine ⟨_, rfl, _, 4099, rfl, rfl, ⟨by decide, by decide⟩, _, rfl, _, 1000003, rfl, rfl, ⟨by decide, by decide⟩, _, 7, rfl, rfl, .inr ⟨by decide, by decide⟩, _, _, rfl, rfl, .int m, rfl, _, m, rfl, rfl, mpos, ?_⟩
      refine q _ _ ?_ ⟨p0, p1, p2 + 1, ea3, n0, by omega, by omega⟩ (Int.emod_nonneg _ (by omega)) (Int.emod_lt_of_pos _ mpos)
      exact but_new (but_at (fun _ _ _ e => e)) (by rw [upd_ne nla.symm] at nl; exact nl)
end

/-- a def that is known by its promise -/
structure Kn (P : Program) (w : World) (K : PySem.W.Frag) (mg : Str → Option Value) (base : Heap) (k : Nat) (x : Str) (ps : List Str) (sp : Sp) (f : Addr) (fd : FuncData) : Prop where
  ok : FnOk P w K mg base CX0 k f fd ps sp
  gl : mg x = some (.ref f)
  kp : PySem.W.keepIn K (.ref f) = true
  bi : Binds K fd ps []
theorem pe_kn {X : Cx} {k j : Nat} {x : Str} {ps : List Str} {sp : Sp} {f : Addr} {fd : FuncData} {p pos : Pos} {e : Expr} {es : List Expr} {t : TA} (C : Kn X.prog X.w X.K X.mg X.base k x ps sp f fd) (hr : Room j X.A) (hj : k ≤ j) (ha : PA X (e :: es) t) (hg : Gl X x := by rfl) (hdb : (x == ("__debug__" : Str)) = false := by decide)
    (he : starEach (e :: es) X.env = (false, eval e X.env) :: starEach es X.env := by rfl) (hpl : (backTo pos (starEach es X.env)).any (·.1) = false := by rfl) :
    PE X (.Call (.Name x p) (e :: es) [] pos) (tCall sp [] E0 t) := pe_call C.ok (hr.mono hj) hg C.gl C.kp C.bi .nil pass0 ha hdb he hpl

theorem But.tupP {K : PySem.W.Frag} {a t : Addr} {H H' : Hp} {c : Nat} {xs : List V} (b : But a H H') (p : PotAt H a c) (q : SqT K H t xs) : SqT K H' t xs := by
  obtain ⟨_, _, _, e, _⟩ := p
  rcases q with (q | ⟨o, q⟩) | q
  · exact .inl (.inl (b _ _ (ne_of q e (by intro z; cases z)) q))
  · exact .inl (.inr ⟨o, b _ _ (ne_of q e (by intro z; cases z)) q⟩)
  · exact .inr q
/-- places, or tops -/
def Pl (xs : List Int) : Prop := ∀ x ∈ xs, 0 ≤ x ∧ x < 10 ^ 30
theorem Pl.snoc {xs : List Int} {x : Int} (h : Pl xs) (h0 : 0 ≤ x) (h1 : x < 10 ^ 30) : Pl (xs ++ [x]) := fun y hy => by
  rcases List.mem_append.mp hy with q | q
  · exact h y q
  · rw [List.mem_singleton.mp q]
    exact ⟨h0, h1⟩

section
variable {P : Program} {w : World} {K : PySem.W.Frag} {mg : Str → Option Value} {base : Heap}

/-- one of some -/
def spOf (K : PySem.W.Frag) : Sp := fun vs H Q _ => ∃ (a l : Addr) (xs : List V) (c : Nat), vs = [.ref a, .ref l] ∧ PotAt H a c ∧ l ≠ a ∧ (SqL K H l xs ∨ SqT K H l xs) ∧ 1 ≤ xs.length ∧ xs.length ≤ 1000000 ∧ c < 1000000 ∧
  ∀ x H', x ∈ xs → But a H H' → PotAt H' a (c + 1) → Q x H'
theorem ok_of {f fT : Addr} {fd fdT : FuncData} {k : Nat} (F : Fun K "_law_of" "_law_of" sOf f fd) (T : Kn P w K mg base 1 "_law_take" ["_law_pot_here", "_law_many"] spTake fT fdT) (ml : mg "len" = none) : FnOk P w K mg base CX0 (k + 2) f fd ["_law_pot_here", "_law_some"] (spOf K) := by
  refine F.ok scOf (fun vs H Q E h => ?_) (fun cdv A outer s H vs Q E hr h => ?_)
  · obtain ⟨a, l, xs, c, rfl, _⟩ := h
    rfl
  · obtain ⟨a, l, xs, c, rfl, pa, ne, hl, l1, l2, hc, q⟩ := h
    refine ⟨_, pss_one (ps_ret (pe_ix ix_seq (pv 1) (pe_kn T hr (Nat.le_add_left 1 k) (pa_cons (pv 0) (pa_cons (pe_callB call_len_seq (by rfl) ml PySem.boot_len (pa_cons (pv 1) pa_nil)) pa_nil))) (fun _ _ => rfl))), ?_⟩
    refine ⟨.ref l, rfl, .ref a, rfl, .ref l, rfl, l, xs, rfl, hl, a, _, c, rfl, pa, by omega, ?_, hc, fun d H' b p' d0 dm => ?_⟩
    · have : (xs.length : Int) ≤ 1000000 := by omega
      exact Int.lt_of_le_of_lt this (by decide)
    have lt : d.toNat < xs.length := by omega
    have ei : atI xs d = some xs[d.toNat] := by
      have := atI_nat (xs := xs) (j := d.toNat) (List.getElem?_eq_getElem lt)
      rwa [Int.toNat_of_nonneg d0] at this
    have fin := q xs[d.toNat] H' (List.getElem_mem lt) b p'
    rcases hl with h | h
    · exact .inl ⟨l, xs, d, _, rfl, rfl, b.seq ne h, ei, fin⟩
    · exact .inr (.inl ⟨l, xs, d, _, rfl, rfl, b.tup ne h, ei, fin⟩)

/-- none beyond its top -/
def Le (st tops : List Int) : Prop := ∀ (i : Nat) (x t : Int), st[i]? = some x → tops[i]? = some t → x ≤ t
theorem Le.snoc {st tops : List Int} {x t : Int} (h : Le st tops) (e : tops[st.length]? = some t) (l : x ≤ t) : Le (st ++ [x]) tops := fun i y u h1 h2 => by
  rcases Nat.lt_or_ge i st.length with q | q
  · rw [List.getElem?_append_left q] at h1
    exact h i y u h1 h2
  · rw [List.getElem?_append_right q] at h1
    have e0 : i - st.length = 0 := by
      rcases Nat.eq_zero_or_pos (i - st.length) with z | z
      · exact z
      · rw [List.getElem?_eq_none (by simp only [List.length_cons, List.length_nil]; omega)] at h1
        cases h1
    have ei : i = st.length := by omega
    subst ei
    rw [e0] at h1
    cases h1
    rw [e] at h2
    cases h2
    exact l
/-- a standing -/
def spStand (K : PySem.W.Frag) : Sp := fun vs H Q _ => ∃ (a t : Addr) (tops : List Int) (c : Nat), vs = [.ref a, .ref t] ∧ PotAt H a c ∧ SqT K H t (tops.map V.int) ∧ Pl tops ∧ tops.length ≤ 12 ∧ c < 900000 ∧
  ∀ H' p st, But a H H' → PotAt H' a (c + 12) → H p = none → H' p = some (.tup (st.map V.int)) → st.length = tops.length → Pl st → Le st tops → Q (.ref p) H'
theorem ok_stand {f fT : Addr} {fd fdT : FuncData} {k : Nat} (F : Fun K "_law_standing" "_law_standing" sStand f fd) (T : Kn P w K mg base 1 "_law_take" ["_law_pot_here", "_law_many"] spTake fT fdT) (mt : mg "tuple" = none) : FnOk P w K mg base CX0 (k + 2) f fd ["_law_pot_here", "_law_tops"] (spStand K) := by
  refine F.ok scStand (fun vs H Q E h => ?_) (fun cdv A outer s H vs Q E hr h => ?_)
  · obtain ⟨a, t, tops, c, rfl, _⟩ := h
    rfl
  · obtain ⟨a, t, tops, c, rfl, pa, ht, pl, l12, hc, q⟩ := h
    refine ⟨_, pss_one (ps_ret (pe_callTy call_tuple_of (by rfl) mt (by decide +kernel) (pa_cons
      (pe_lc (own := [("_law_top", 2)]) (g := gName 2) (tt := tYes) rfl scStand.nd (pi_tup (pv 1)) (blkOk_by (N := ["_law_pot_here", "_law_tops", "_law_top"]) (sc := defScope sStand) (by decide +kernel))
        (fun _ _ _ _ _ => pg_name (i := 2) scStand.nd rfl (.inl rfl) (hf := .inr rfl)) (fun _ _ _ _ _ => pts_nil)
        (fun _ _ _ _ _ => pe_kn T hr (Nat.le_add_left 1 k) (pa_cons (pv 0) (pa_cons (pe_op op_add (pv 2) pe_int) pa_nil)))) pa_nil))), ?_⟩
    refine ⟨.ref t, rfl, t, rfl, ⟨_, ht⟩, fun D nD => lc_it (walk_tup (xs := tops.map V.int)) (fun i H' => But a H H' ∧ PotAt H' a (c + i) ∧ ∃ st : List Int, H' D = some (.lst (st.map V.int)) ∧ st.length = i ∧ Pl st ∧ Le st tops)
      ⟨but_new (fun _ _ _ e => e) nD, pa.keep (same_new nD), [], upd_same, rfl, fun _ h => absurd h List.not_mem_nil, fun i x t h => by simp at h⟩ (fun i H' _ p => p.1.tupP pa ht) (fun i v H1 H2 hi p y => ?_) (fun H' p => ?_)⟩
    · obtain ⟨b, p1, st, eD, sl, sp, sle⟩ := p
      obtain ⟨rfl, gv⟩ := y
      obtain ⟨x, ex, rfl⟩ := mapGet gv
      have hx := pl x (List.mem_of_getElem? ex)
      have hi' : i < tops.length := by simpa using hi
      refine ⟨rfl, .ref a, rfl, .int x, rfl, x, 1, rfl, rfl, a, x + 1, c + i, rfl, p1, by omega, ?_, by omega, fun d H3 b3 p3 d0 dm => ?_⟩
      · have : x + 1 ≤ 10 ^ 30 := by omega
        exact Int.lt_of_le_of_lt this (by decide)
      have nDa : D ≠ a := pa.ne nD
      refine ⟨_, b3 _ _ nDa eD, ?_, but_new (b.trans b3) nD, ?_, st ++ [d], ?_, ?_, sp.snoc d0 (by omega), sle.snoc (by rw [sl]; exact ex) (by omega)⟩
      · rw [List.length_map]
        exact small1000 (by omega)
      · obtain ⟨u, v, r, e, z⟩ := p3
        exact ⟨u, v, r, (upd_ne nDa.symm).trans e, z⟩
      · rw [upd_same, List.map_append]
        rfl
      · rw [List.length_append, sl]
        rfl
    · obtain ⟨b, p1, st, eD, sl, sp, sle⟩ := p
      rw [List.length_map] at p1 sl
      refine ⟨D, _, rfl, .inl ⟨.inl (.inl eD), fun l nl => ?_⟩⟩
      have nla : l ≠ a := p1.ne nl
      have nlH : H l = none := b.free nla nl
      refine q _ l st (but_new b nlH) (((p1.mono (by omega)).keep (same_new nl))) nlH upd_same sl sp sle
end

section
variable {P : Program} {w : World} {K : PySem.W.Frag} {mg : Str → Option Value} {base : Heap}

theorem pot_upd {H : Hp} {a p : Addr} {c : Nat} {o : HO} (h : PotAt H a c) (n : p ≠ a) : PotAt (upd H p o) a c := by
  obtain ⟨x, y, z, e, r⟩ := h
  exact ⟨x, y, z, (upd_ne n.symm).trans e, r⟩
theorem e15 : (10 : Int) ^ (15 : Int).toNat = 1000000000000000 := by decide
theorem e30 : (10 : Int) ^ (30 : Int).toNat = 10 ^ 30 := by decide

end
end K16

set_option Elab.async false
set_option linter.all false
set_option maxRecDepth 100000
set_option maxHeartbeats 1000000
/-! Own exceptions with one field: made, raised, caught, read. -/
namespace NB
open PySem PySem.Spec PyProof.Rows L2

/-- what the written part says of an own exception class, named x, with one field f -/
structure ExT (K : PySem.W.Frag) (mg : Str → Option Value) (x f : Str) (C fI : Addr) (fdI : FuncData) : Prop where
  gC : mg x = some (.ref C)
  oex : OexC K C
  noN : PySem.W.findIn K (.ref C) f = some none
  iC : PySem.W.findIn K (.ref C) "__init__" = some (some (.ref fI))
  tI : PySem.W.typeIn K (.ref fI) = some (.type "function")
  xf : XfC K C
  te : PySem.W.exmOne K (.ref C) (.ref C) = some true
  bI : Binds K fdI ["self", f] []
/-- an error of the class at S is what «except S» names -/
theorem exm_self {K : PySem.W.Frag} {S : Addr} (h1 : PySem.W.subIn K (.ref S) (.type "BaseException") = some true) (h2 : PySem.W.isClsIn K S = true) (h3 : PySem.W.typeIn K (.ref S) = some (.type "type")) (h4 : PySem.W.subIn K (.ref S) (.ref S) = some true) :
    PySem.W.exmOne K (.ref S) (.ref S) = some true := by
  have e1 : (PySem.W.subIn K (.ref S) (.type "BaseException") == some true) = true := by rw [h1] <;> rfl
  have e2 : ((PySem.W.clsIn K S).isSome && PySem.W.typeIn K (.ref S) == some (.type "type")) = true := by
    have h2' : (PySem.W.clsIn K S).isSome = true := h2
    rw [h2', h3] <;> rfl
  show (if (PySem.W.subIn K (.ref S) (.type "BaseException") == some true) = true then (if ((PySem.W.clsIn K S).isSome && PySem.W.typeIn K (.ref S) == some (.type "type")) = true then PySem.W.subIn K (.ref S) (.ref S) else none) else none) = some true
  rw [if_pos e1, if_pos e2]
  exact h4
/-- __init__(self, f): self.f = f -/
def spXI (C : Addr) (f : Str) : Sp := fun vs H Q _ => ∃ (a : Addr) (v : V), vs = [.ref a, v] ∧ H a = some (exo a C none) ∧ ∀ dx, H dx = none → dx ≠ a → Q .non (upd (upd H dx (exd dx [(f, v)])) a (exo a C (some dx)))
section
variable {P : Program} {w : World} {K : PySem.W.Frag} {mg : Str → Option Value} {base : Heap}
theorem heap_x {H : Hp} {a d : Addr} {o1 o2 o3 x : HO} (na : H a = none) (ne : d ≠ a) : upd (del (upd (upd (upd H a o1) d o2) a o3) a) d x = upd H d x := by
  funext b
  by_cases c : b = d
  · subst c
    rw [upd_same, upd_same]
  · rw [upd_ne c, upd_ne c]
    by_cases c2 : b = a
    · subst c2
      rw [del_same, na]
    · rw [del_ne c2, upd_ne c2, upd_ne c, upd_ne c2]
/-- what making one asks, behind its argument -/
theorem mkX {C : Addr} {f : Str} {v : V} {H : Hp} {Q : XK} (h : ∀ d, H d = none → Q (.ref C) (some d) (upd H d (.xd [(f, v)]))) :
    [v].length ≤ 1000 ∧ ∀ a, H a = none → spXI C f (.ref a :: ([v] ++ [])) (upd H a (exo a C none))
      (fun u H2 => u = .non ∧ ∃ (d : Addr) (fs : List (Str × V)), H2 a = some (exo a C (some d)) ∧ H2 d = some (exd d fs) ∧ H d = none ∧ Q (.ref C) (some d) (upd (del H2 a) d (.xd fs))) (fun _ _ _ => False) := by
  refine ⟨(show 1 ≤ 1000 by decide), fun a na => ⟨a, v, rfl, upd_same, fun dx ndx ne => ⟨rfl, dx, [(f, v)], upd_same, (upd_ne ne).trans upd_same, ?_, ?_⟩⟩⟩
  · rw [upd_ne ne] at ndx
    exact ndx
  · rw [heap_x na ne]
    refine h dx ?_
    rw [upd_ne ne] at ndx
    exact ndx
theorem pmk_x {X : Cx} {x f : Str} {C fI : Addr} {fdI : FuncData} {j : Nat} {e : Expr} {es : List Expr} {ta : TA} {p pos : Pos} (T : ExT X.K X.mg x f C fI fdI) (G : FnOk X.prog X.w X.K X.mg X.base CX0 1 fI fdI ["self", f] (spXI C f)) (hr : Room j X.A) (hj : 2 ≤ j) (ha : PA X (e :: es) ta) (hg : Gl X x := by rfl)
    (hdb : (x == ("__debug__" : Str)) = false := by decide) (he : starEach (e :: es) X.env = (false, eval e X.env) :: starEach es X.env := by rfl) (hpl : (backTo pos (starEach es X.env)).any (·.1) = false := by rfl) :
    PMk X (.Call (.Name x p) (e :: es) [] pos) (tMkO C (spXI C f) [] ta) := pmk_oex T.oex T.iC T.tI G (hr.mono hj) T.bI .nil pass0 hg T.gC ha hdb he hpl
/-- a def that raises nothing where its promise is so -/
theorem FnOk.noX {k : Nat} {f : Addr} {fd : FuncData} {ps : List Str} {sp sp' : Sp} (F : FnOk P w K mg base (L2.CX P w) k f fd ps sp) (h : ∀ vs H Q E, sp' vs H Q E → sp vs H Q E0) : FnOk P w K mg base CX0 k f fd ps sp' := by
  refine ⟨fun vs H Q E q => F.len vs H Q E0 (h _ _ _ _ q), fun A outer s H args us vs Q E hr he hb hv hs => codeAny_mono (F.run A outer s H args us vs Q E0 hr he hb hv (h _ _ _ _ hs)) ?_⟩
  intro r s' z
  cases r with
  | error e =>
    obtain ⟨_, _, _, _, _, _, _, _, _, _, _, _, z⟩ := (z : L2.CX P w outer H s E0 e s')
    exact z.elim
  | ok fl => cases fl <;> exact z
end
/-- a def that may raise, known by its promise -/
structure KnX (P : Program) (w : World) (K : PySem.W.Frag) (mg : Str → Option Value) (base : Heap) (k : Nat) (x : Str) (ps : List Str) (sp : Sp) (f : Addr) (fd : FuncData) : Prop where
  ok : FnOk P w K mg base (L2.CX P w) k f fd ps sp
  gl : mg x = some (.ref f)
  kp : PySem.W.keepIn K (.ref f) = true
  bi : Binds K fd ps []
section
variable {X : Cx} {k j : Nat} {x : Str} {ps : List Str} {sp : Sp} {f : Addr} {fd : FuncData} {p pos : Pos} {e : Expr} {es : List Expr} {t : TA} {W : WX} {E : XK}
/-- where it raises nothing -/
theorem pe_knX (C : KnX X.prog X.w X.K X.mg X.base k x ps sp f fd) (hr : Room j X.A) (hj : k ≤ j) (ha : PA X (e :: es) t) (hg : Gl X x := by rfl) (hdb : (x == ("__debug__" : Str)) = false := by decide)
    (he : starEach (e :: es) X.env = (false, eval e X.env) :: starEach es X.env := by rfl) (hpl : (backTo pos (starEach es X.env)).any (·.1) = false := by rfl) :
    PE X (.Call (.Name x p) (e :: es) [] pos) (tCall sp [] E0 t) := pe_call C.ok (hr.mono hj) hg C.gl C.kp C.bi .nil passL ha hdb he hpl
/-- within a try -/
theorem pe_knS (C : KnX X.prog X.w X.K X.mg X.base k x ps sp f fd) (hr : Room j X.A) (hj : k ≤ j) (tk : Takes X W) (ha : PA X (e :: es) t) (hg : Gl X x := by rfl) (hdb : (x == ("__debug__" : Str)) = false := by decide)
    (he : starEach (e :: es) X.env = (false, eval e X.env) :: starEach es X.env := by rfl) (hpl : (backTo pos (starEach es X.env)).any (·.1) = false := by rfl) :
    PE X (.Call (.Name x p) (e :: es) [] pos) (tCallS sp (WE W) t) := pe_callS C.ok (hr.mono hj) hg C.gl C.kp C.bi (fun σ => passAt tk σ) ha hdb he hpl
/-- where what it raises goes on -/
theorem pe_knP (C : KnX X.prog X.w X.K X.mg X.base k x ps sp f fd) (hr : Room j X.A) (hj : k ≤ j) (tk : Takes X (fun cls d _ H => E cls d H)) (ha : PA X (e :: es) t) (hg : Gl X x := by rfl) (hdb : (x == ("__debug__" : Str)) = false := by decide)
    (he : starEach (e :: es) X.env = (false, eval e X.env) :: starEach es X.env := by rfl) (hpl : (backTo pos (starEach es X.env)).any (·.1) = false := by rfl) :
    PE X (.Call (.Name x p) (e :: es) [] pos) (tCall sp [] E t) := pe_call C.ok (hr.mono hj) hg C.gl C.kp C.bi .nil (passes_call tk (fun _ _ _ _ h => h)) ha hdb he hpl
end
end NB

set_option Elab.async false
set_option linter.all false
set_option maxRecDepth 100000
namespace K16
open PySem PySem.Spec PyProof.Rows L2 NB

/-! ### kinds, of anything -/
def wholeD : PyData → Bool
  | .int _ => true
  | _ => false
def noneD : PyData → Bool
  | .none => true
  | _ => false
def strIs (z : Str) : PyData → Bool
  | .str x => decide (x = z)
  | _ => false
def placeD (t : Int) : PyData → Bool
  | .int i => decide (0 ≤ i) && decide (i ≤ t)
  | _ => false
def natD : PyData → Nat
  | .int i => i.toNat
  | _ => 0
def wordD (d : PyData) : Bool := strIs "from" d || strIs "to" d
def sideD (tops : List Int) : PyData → Bool
  | .tuple ds => decide (ds.length = 3) && (placeD ((tops.length : Int) - 1) (ds.getD 0 .none) && (wordD (ds.getD 1 .none) && placeD (tops.getD (natD (ds.getD 0 .none)) 0) (ds.getD 2 .none)))
  | _ => false
theorem tup_or (d : PyData) : (∃ ds, d = .tuple ds) ∨ isTupD d = false := by
  cases d with
  | tuple ds => exact .inl ⟨ds, rfl⟩
  | _ => exact .inr rfl
theorem str_or (d : PyData) : (∃ z, d = .str z) ∨ isStrD d = false := by
  cases d with
  | str z => exact .inl ⟨z, rfl⟩
  | _ => exact .inr rfl
theorem side_no {tops : List Int} {d : PyData} (h : isTupD d = false) : sideD tops d = false := by
  cases d with
  | tuple ds => cases h
  | _ => rfl
theorem word_no {d : PyData} (h : isStrD d = false) : wordD d = false := by
  cases d with
  | str z => cases h
  | _ => rfl
theorem place_int {t : Int} {d : PyData} (h : placeD t d = true) : ∃ i : Nat, d = .int i ∧ (i : Int) ≤ t := by
  cases d with
  | int i =>
    have h' : (decide (0 ≤ i) && decide (i ≤ t)) = true := h
    simp at h'
    exact ⟨i.toNat, by rw [Int.toNat_of_nonneg h'.1], by omega⟩
  | _ => cases h
theorem all_take {α : Type} (g : α → Bool) (xs : List α) (i : Nat) (y : α) (h : xs[i]? = some y) : ((xs.take (i + 1)).map g).map V.bl = ((xs.take i).map g).map V.bl ++ [V.bl (g y)] := by
  rw [List.take_add_one, h, List.map_append, List.map_append]
  rfl
theorem all_id {α : Type} (g : α → Bool) (xs : List α) : (xs.map g).all id = xs.all g := by
  rw [List.all_map]
  rfl
theorem getD_at {xs : List Int} {i : Nat} (h : i < xs.length) : xs.getD i 0 = xs[i] := by
  rw [List.getD_eq_getElem?_getD, List.getElem?_eq_getElem h]
  rfl
section
variable {P : Program} {w : World} {K : PySem.W.Frag} {mg : Str → Option Value} {base : Heap}
/-- a look at data that leaves all as it is -/
def spLook (g : PyData → Bool) : Sp := fun vs H Q _ => ∃ (n : Addr) (v : V) (d : PyData), vs = [v] ∧ Da n H v d ∧ ∀ H', Same H H' → Q (.bl (g d)) H'
def spLookI (g : Int → PyData → Bool) : Sp := fun vs H Q _ => ∃ (n : Addr) (t : Int) (v : V) (d : PyData), vs = [.int t, v] ∧ Da n H v d ∧ ∀ H', Same H H' → Q (.bl (g t d)) H'
def spLookT (g : List Int → PyData → Bool) : Sp := fun vs H Q _ => ∃ (n t : Addr) (tops : List Int) (v : V) (d : PyData), vs = [.ref t, v] ∧ H t = some (.tup (tops.map V.int)) ∧ Da n H v d ∧ ∀ H', Same H H' → Q (.bl (g tops d)) H'
abbrev a_is_whole : Stmt := topS 9
abbrev n_is_whole : List Str := ["thing"]
theorem sc_is_whole : FnScope n_is_whole ["thing"] (defScope a_is_whole) := ⟨rfl, rfl, rfl, by decide +kernel, rfl, by decide +kernel, by decide +kernel⟩
set_option maxHeartbeats 8000000 in
theorem ok_is_whole {f  : Addr} {fd  : FuncData} {k : Nat}  (F : Fun K "is_whole" "is_whole" a_is_whole f fd)   (m_bool : mg "bool" = none) (m_int : mg "int" = none) (m_isinstance : mg "isinstance" = none) : FnOk P w K mg base CX0 (k + 1) f fd ["thing"] (spLook wholeD) := by
  refine F.ok sc_is_whole (fun vs H Q E h => ?_) (fun cdv A outer s H vs Q E hr h => ?_)
  · obtain ⟨n, v, d, rfl, _⟩ := h
    rfl
  · obtain ⟨n, v, d, rfl, hd, q⟩ := h
    refine ⟨_, (pss_one (ps_ret (pe_and (pe_callB call_isiD (by rfl) m_isinstance (by decide +kernel) (pa_cons (pv 0) (pa_cons (pe_bltn (v := .ty "int") (u := .type "int") (by rfl) m_int (by decide +kernel) rfl) pa_nil))) (pe_one (pe_not (pe_callB call_isiD (by rfl) m_isinstance (by decide +kernel) (pa_cons (pv 0) (pa_cons (pe_bltn (v := .ty "bool") (u := .type "bool") (by rfl) m_bool (by decide +kernel) rfl) pa_nil)))))))), ?_⟩
    refine ⟨v, rfl, n, v, d, "int", _, rfl, hd, kit_int d, _, rfl, ?_⟩
    cases hd with
    | int i => exact iteT ⟨_, rfl, n, _, _, "bool", _, rfl, .int i, kit_bool _, _, rfl, q H (Same.refl H)⟩
    | bl b => exact iteT ⟨_, rfl, n, _, _, "bool", _, rfl, .bl b, kit_bool _, _, rfl, q H (Same.refl H)⟩
    | _ => exact iteF (q H (Same.refl H))
abbrev a_is_place : Stmt := topS 10
abbrev n_is_place : List Str := ["top", "thing"]
theorem sc_is_place : FnScope n_is_place ["top", "thing"] (defScope a_is_place) := ⟨rfl, rfl, rfl, by decide +kernel, rfl, by decide +kernel, by decide +kernel⟩
set_option maxHeartbeats 8000000 in
theorem ok_is_place {f fWh : Addr} {fd fdWh : FuncData} {k : Nat}  (F : Fun K "is_place" "is_place" a_is_place f fd) (Wh : Kn P w K mg base 1 "is_whole" ["thing"] (spLook wholeD) fWh fdWh)   : FnOk P w K mg base CX0 (k + 2) f fd ["top", "thing"] (spLookI placeD) := by
  refine F.ok sc_is_place (fun vs H Q E h => ?_) (fun cdv A outer s H vs Q E hr h => ?_)
  · obtain ⟨n, t, v, d, rfl, _⟩ := h
    rfl
  · obtain ⟨n, t, v, d, rfl, hd, q⟩ := h
    refine ⟨_, (pss_one (ps_ret (pe_and (pe_kn Wh hr (by omega) (pa_cons (pv 1) pa_nil)) (pe_one (pe_chain op_le op_le pe_int (pv 1) (pv 0)))))), ?_⟩
    refine ⟨v, rfl, n, v, d, rfl, hd, fun H1 s1 => ⟨_, rfl, ?_⟩⟩
    cases hd with
    | int i =>
      refine iteT ⟨_, rfl, 0, i, rfl, rfl, _, rfl, ite2 (fun c => ?_) (fun c => ?_)⟩
      · have := q H1 s1
        rw [show placeD t (.int i) = decide (i ≤ t) from by show (decide (0 ≤ i) && _) = _; rw [show decide (0 ≤ i) = true from c, Bool.true_and]] at this
        exact ⟨_, rfl, i, t, rfl, rfl, this⟩
      · have := q H1 s1
        rw [show placeD t (.int i) = false from by show (decide (0 ≤ i) && _) = _; rw [Bool.eq_false_iff.mpr c, Bool.false_and]] at this
        exact this
    | _ => exact iteF (q H1 s1)
abbrev a_is_side_of : Stmt := topS 12
abbrev n_is_side_of : List Str := ["tops", "thing", "number", "word", "place"]
theorem sc_is_side_of : FnScope n_is_side_of ["tops", "thing"] (defScope a_is_side_of) := ⟨rfl, rfl, rfl, by decide +kernel, rfl, by decide +kernel, by decide +kernel⟩
set_option maxHeartbeats 8000000 in
theorem ok_is_side_of {f fPc : Addr} {fd fdPc : FuncData} {k : Nat} {wa : Addr} (F : Fun K "is_side_of" "is_side_of" a_is_side_of f fd) (Pc : Kn P w K mg base 2 "is_place" ["top", "thing"] (spLookI placeD) fPc fdPc) (gv4 : mg "WORDS" = some (.ref wa)) (hW : ∀ H, SqT K H wa [.str "from", .str "to"]) (m_isinstance : mg "isinstance" = none) (m_len : mg "len" = none) (m_str : mg "str" = none) (m_tuple : mg "tuple" = none) : FnOk P w K mg base CX0 (k + 3) f fd ["tops", "thing"] (spLookT sideD) := by
  refine F.ok sc_is_side_of (fun vs H Q E h => ?_) (fun cdv A outer s H vs Q E hr h => ?_)
  · obtain ⟨n, t, tops, v, d, rfl, _⟩ := h
    rfl
  · obtain ⟨n, t, tops, v, d, rfl, et, hd, q⟩ := h
    refine ⟨_, (pss_cons (ps_if (PW.pt (pw_or (pt_not (pt_val (pe_callB call_isiD (by rfl) m_isinstance (by decide +kernel) (pa_cons (pv 1) (pa_cons (pe_bltn (v := .ty "tuple") (u := .type "tuple") (by rfl) m_tuple (by decide +kernel) rfl) pa_nil))))) (pw_or1 (pt_cmpR op_ne (pe_callB call_len_seq (by rfl) m_len (by decide +kernel) (pa_cons (pv 1) pa_nil)) pe_int (nomark _))))) (pss_one (ps_ret pe_bl)) pss_nil)
      (pss_cons (ps_asg (pv 1) (pg_tup rfl (pgs_cons (pg_name (i := 2) sc_is_side_of.nd rfl (.inl rfl)) (pgs_cons (pg_name (i := 3) sc_is_side_of.nd rfl (.inl rfl)) (pgs_cons (pg_name (i := 4) sc_is_side_of.nd rfl (.inl rfl)) pgs_nil)))))
      (pss_cons (ps_if (pt_not (pt_val (pe_kn Pc hr (by omega) (pa_cons (pe_op op_sub (pe_callB call_len_seq (by rfl) m_len (by decide +kernel) (pa_cons (pv 0) pa_nil)) pe_int) (pa_cons (pv 2) pa_nil))))) (pss_one (ps_ret pe_bl)) pss_nil)
      (pss_one (ps_ret (pe_and (pe_callB call_isiD (by rfl) m_isinstance (by decide +kernel) (pa_cons (pv 3) (pa_cons (pe_bltn (v := .ty "str") (u := .type "str") (by rfl) m_str (by decide +kernel) rfl) pa_nil))) (pe_and (pe_cmpR op_in_seq (pv 3) (pe_glob (v := .ref wa) rfl gv4 rfl) (by rfl)) (pe_one (pe_kn Pc hr (by omega) (pa_cons (pe_ix ix_tup (pv 0) (pv 2) (fun _ _ => rfl)) (pa_cons (pv 4) pa_nil))))))))))), ?_⟩
    rcases tup_or d with ⟨ds, rfl⟩ | hn
    · cases hd with
      | tup e ha =>
      rename_i a xs
      have ll := ha.len
      refine ⟨_, rfl, n, _, _, "tuple", _, rfl, .tup e ha, kit_tup _, _, rfl, iteF ⟨_, rfl, a, xs, rfl, .inr (.inl (.inl e)), rfl, _, rfl, ite2 (fun c => ?_) (fun c => ?_)⟩⟩
      · have c' : ¬ ds.length = 3 := fun z => by rw [ll, z] at c; exact absurd c (by decide)
        have : sideD tops (.tuple ds) = false := by simp [sideD, c']
        rw [this] at q
        exact q H (Same.refl H)
      · have c' : ds.length = 3 := Classical.byContradiction fun z => c (by
          have : ¬ ((xs.length : Int) = 3) := by omega
          simp [this])
        match ds, c', ha with
        | [d0, d1, d2], _, .cons h0 (.cons h1 (.cons h2 .nil)) =>
        rename_i v0 v1 v2
        have eW : sideD tops (.tuple [d0, d1, d2]) = (placeD ((tops.length : Int) - 1) d0 && (wordD d1 && placeD (tops.getD (natD d0) 0) d2)) := by simp [sideD]
        rw [eW] at q
        refine ⟨_, rfl, a, _, rfl, .inl (.inl e), rfl, _, _, rfl, _, _, rfl, _, _, rfl, rfl, ?_⟩
        refine ⟨_, rfl, t, _, rfl, .inr (.inl (.inl et)), _, 1, rfl, rfl, _, rfl, n, _, _, d0, rfl, h0, fun H1 s1 => ⟨_, rfl, ?_⟩⟩
        rw [List.length_map]
        cases hp : placeD ((tops.length : Int) - 1) d0 with
        | false =>
          rw [hp, Bool.false_and] at q
          exact iteT (q H1 s1)
        | true =>
        rw [hp, Bool.true_and] at q
        refine iteF ?_
        obtain ⟨i, rfl, hi⟩ := place_int hp
        cases h0
        have li : i < tops.length := by omega
        refine ⟨_, rfl, n, _, d1, "str", _, rfl, h1.same s1, kit_str d1, _, rfl, ?_⟩
        rcases str_or d1 with ⟨z, rfl⟩ | hs
        · refine iteT ?_
          cases h1
          have ew : wordD (.str z) = (decide (z = "from") || decide (z = "to")) := rfl
          rw [ew] at q
          refine ⟨_, rfl, wa, _, rfl, .inr (hW H1), rfl, by decide, _, rfl, ?_⟩
          show if inV (V.str z) [V.str "from", V.str "to"] = true then _ else _
          rw [inV_str2]
          cases hz : (decide (z = "from") || decide (z = "to")) with
          | false =>
            rw [hz, Bool.false_and] at q
            exact iteF (q H1 s1)
          | true =>
            rw [hz, Bool.true_and] at q
            refine iteT ⟨_, rfl, .int i, rfl, t, _, i, _, rfl, rfl, .inl (.inl (s1 _ _ et)), atI_nat (by rw [List.getElem?_map, List.getElem?_eq_getElem li]; rfl), _, rfl, n, _, _, d2, rfl, h2.same s1, fun H2 s2 => ?_⟩
            have := q H2 (s1.trans s2)
            rw [show natD (.int (i : Int)) = i from Int.toNat_natCast i, getD_at li] at this
            exact this
        · rw [hs]
          rw [word_no hs, Bool.false_and] at q
          exact iteF (q H1 s1)
    · refine ⟨_, rfl, n, _, d, "tuple", _, rfl, hd, kit_tup d, _, rfl, ?_⟩
      rw [hn]
      rw [side_no hn] at q
      exact iteT (q H (Same.refl H))
end
end K16

set_option Elab.async false
set_option linter.all false
set_option maxRecDepth 100000
namespace K16
open PySem PySem.Spec PyProof.Rows L2 NB

/-! ### what stands though lists change -/
/-- all but lists stands -/
def Keep (H H' : Hp) : Prop := ∀ b o, (∀ xs, o ≠ .lst xs) → H b = some o → H' b = some o
theorem Keep.refl (H : Hp) : Keep H H := fun _ _ _ e => e
theorem Keep.trans {H H1 H2 : Hp} (a : Keep H H1) (b : Keep H1 H2) : Keep H H2 := fun c o n e => b c o n (a c o n e)
theorem Keep.same {H H' : Hp} (h : Same H H') : Keep H H' := fun b o _ e => h b o e
theorem Keep.but {a : Addr} {H H' : Hp} {c : Nat} (h : But a H H') (p : PotAt H a c) : Keep H H' := fun b o n e => by
  obtain ⟨x, y, z, ea, _⟩ := p
  exact h b o (fun q => n _ (by rw [q, ea] at e; exact (Option.some.inj e).symm)) e
theorem Keep.upd {H : Hp} {l : Addr} {o : HO} {xs : List V} (e : H l = some (.lst xs)) : Keep H (upd H l o) := fun b x n q => by
  rw [upd_ne (fun z => n xs (by rw [z, e] at q; exact (Option.some.inj q).symm))]
  exact q
theorem Keep.tup {H H' : Hp} {p : Addr} {xs : List V} (k : Keep H H') (e : H p = some (.tup xs)) : H' p = some (.tup xs) := k _ _ (fun _ q => by cases q) e
theorem Keep.sq {K : PySem.W.Frag} {H H' : Hp} {p : Addr} {xs : List V} (k : Keep H H') (e : SqT K H p xs) : SqT K H' p xs := by
  rcases e with (q | ⟨o, q⟩) | q
  · exact .inl (.inl (k _ _ (fun _ q => by cases q) q))
  · exact .inl (.inr ⟨o, k _ _ (fun _ q => by cases q) q⟩)
  · exact .inr q

/-! ### sides, rules, plans as data and as objects -/
abbrev Sd := Nat × Bool × Int
abbrev Rl := Sd × Sd
def word (b : Bool) : Str := if b then "from" else "to"
def SideAt (H : Hp) (p : Addr) (s : Sd) : Prop := H p = some (.tup [.int s.1, .str (word s.2.1), .int s.2.2])
def RuleAt (H : Hp) (r : Addr) (q : Rl) : Prop := ∃ p1 p2, H r = some (.tup [.ref p1, .ref p2]) ∧ SideAt H p1 q.1 ∧ SideAt H p2 q.2
def RulesAt (H : Hp) (R : Addr) (rs : List Rl) : Prop := ∃ as : List Addr, H R = some (.tup (as.map V.ref)) ∧ as.length = rs.length ∧ ∀ (i : Nat) (r : Addr) (q : Rl), as[i]? = some r → rs[i]? = some q → RuleAt H r q
def PlanAt (C : Addr) (H : Hp) (x : Addr) (tops : List Int) (rs : List Rl) : Prop := ∃ dx t R, H x = some (.ins C dx [("tops", .ref t), ("rules", .ref R)]) ∧ H t = some (.tup (tops.map V.int)) ∧ RulesAt H R rs
theorem SideAt.keep {H H' : Hp} {p : Addr} {s : Sd} (h : SideAt H p s) (k : Keep H H') : SideAt H' p s := k.tup h
theorem RuleAt.keep {H H' : Hp} {p : Addr} {q : Rl} (h : RuleAt H p q) (k : Keep H H') : RuleAt H' p q := by
  obtain ⟨p1, p2, e, h1, h2⟩ := h
  exact ⟨p1, p2, k.tup e, h1.keep k, h2.keep k⟩
theorem RulesAt.keep {H H' : Hp} {R : Addr} {rs : List Rl} (h : RulesAt H R rs) (k : Keep H H') : RulesAt H' R rs := by
  obtain ⟨as, e, l, a⟩ := h
  exact ⟨as, k.tup e, l, fun i r q h1 h2 => (a i r q h1 h2).keep k⟩
theorem PlanAt.keep {C : Addr} {H H' : Hp} {x : Addr} {tops : List Int} {rs : List Rl} (h : PlanAt C H x tops rs) (k : Keep H H') : PlanAt C H' x tops rs := by
  obtain ⟨dx, t, R, e, et, er⟩ := h
  exact ⟨dx, t, R, k _ _ (fun _ q => by cases q) e, k.tup et, er.keep k⟩
/-- a side of the plan -/
def SideOk (tops : List Int) (s : Sd) : Prop := ∃ t, tops[s.1]? = some t ∧ 0 ≤ s.2.2 ∧ s.2.2 ≤ t
def RuleOk (tops : List Int) (q : Rl) : Prop := SideOk tops q.1 ∧ SideOk tops q.2
theorem word_in (b : Bool) : inV (.str (word b)) [.str "from", .str "to"] = true := by cases b <;> decide +kernel
theorem word_from : word true = "from" := rfl

abbrev kWhole : Stmt := topS 9
abbrev kPlace : Stmt := topS 10
abbrev kTops : Stmt := topS 11
abbrev kSide : Stmt := topS 12
abbrev kSides : Stmt := topS 13
abbrev kRule : Stmt := topS 14
abbrev kRules : Stmt := topS 15
abbrev kInit : Stmt := inClass (topS 62) 0
theorem scWhole : FnScope ["thing"] ["thing"] (defScope kWhole) := ⟨rfl, rfl, rfl, by decide +kernel, rfl, by decide +kernel, by decide +kernel⟩
theorem scPlace : FnScope ["top", "thing"] ["top", "thing"] (defScope kPlace) := ⟨rfl, rfl, rfl, by decide +kernel, rfl, by decide +kernel, by decide +kernel⟩
theorem scTops : FnScope ["thing", "top"] ["thing"] (defScope kTops) := ⟨rfl, rfl, rfl, by decide +kernel, rfl, by decide +kernel, by decide +kernel⟩
theorem scSide : FnScope ["tops", "thing", "number", "word", "place"] ["tops", "thing"] (defScope kSide) := ⟨rfl, rfl, rfl, by decide +kernel, rfl, by decide +kernel, by decide +kernel⟩
theorem scSides : FnScope ["tops", "thing", "side"] ["tops", "thing"] (defScope kSides) := ⟨rfl, rfl, rfl, by decide +kernel, rfl, by decide +kernel, by decide +kernel⟩
theorem scRule : FnScope ["tops", "thing"] ["tops", "thing"] (defScope kRule) := ⟨rfl, rfl, rfl, by decide +kernel, rfl, by decide +kernel, by decide +kernel⟩
theorem scRules : FnScope ["tops", "thing", "rule"] ["tops", "thing"] (defScope kRules) := ⟨rfl, rfl, rfl, by decide +kernel, rfl, by decide +kernel, by decide +kernel⟩
theorem scInit : FnScope ["self", "tops", "rules"] ["self", "tops", "rules"] (defScope kInit) := ⟨rfl, rfl, rfl, by decide +kernel, rfl, by decide +kernel, by decide +kernel⟩

section
variable {P : Program} {w : World} {K : PySem.W.Frag} {mg : Str → Option Value} {base : Heap}

def spWhole : Sp := fun vs H Q _ => ∃ i : Int, vs = [.int i] ∧ Q (.bl true) H
theorem ok_whole {f : Addr} {fd : FuncData} {k : Nat} (F : Fun K "is_whole" "is_whole" kWhole f fd) (ms : mg "isinstance" = none) (mi : mg "int" = none) (mb : mg "bool" = none) : FnOk P w K mg base CX0 (k + 1) f fd ["thing"] spWhole := by
  refine F.ok scWhole (fun vs H Q E h => ?_) (fun cdv A outer s H vs Q E hr h => ?_)
  · obtain ⟨i, rfl, _⟩ := h
    rfl
  · obtain ⟨i, rfl, q⟩ := h
    refine ⟨_, pss_one (ps_ret (pe_and (pe_callB call_isi (by rfl) ms (by decide +kernel) (pa_cons (pv 0) (pa_cons (pe_bltn (v := .ty "int") (u := .type "int") (by rfl) mi (by decide +kernel) rfl) pa_nil)))
      (pe_one (pe_not (pe_callB call_isi (by rfl) ms (by decide +kernel) (pa_cons (pv 0) (pa_cons (pe_bltn (v := .ty "bool") (u := .type "bool") (by rfl) mb (by decide +kernel) rfl) pa_nil))))))), ?_⟩
    refine ⟨.int i, rfl, _, _, _, _, true, rfl, .ty "int", .base (.int i), kit_ty (by decide +kernel), true, rfl, iteT ?_⟩
    exact ⟨.int i, rfl, _, _, _, _, false, rfl, .ty "bool", .base (.int i), kit_ty (by decide +kernel), false, rfl, q⟩

def spPlace : Sp := fun vs H Q _ => ∃ t i : Int, vs = [.int t, .int i] ∧ Q (.bl (decide (0 ≤ i) && decide (i ≤ t))) H
theorem ok_place {f fW : Addr} {fd fdW : FuncData} {k : Nat} (F : Fun K "is_place" "is_place" kPlace f fd) (W : Kn P w K mg base 1 "is_whole" ["thing"] spWhole fW fdW) : FnOk P w K mg base CX0 (k + 2) f fd ["top", "thing"] spPlace := by
  refine F.ok scPlace (fun vs H Q E h => ?_) (fun cdv A outer s H vs Q E hr h => ?_)
  · obtain ⟨t, i, rfl, _⟩ := h
    rfl
  · obtain ⟨t, i, rfl, q⟩ := h
    refine ⟨_, pss_one (ps_ret (pe_and (pe_kn W hr (by omega) (pa_cons (pv 1) pa_nil)) (pe_one (pe_chain op_le op_le pe_int (pv 1) (pv 0))))), ?_⟩
    refine ⟨.int i, rfl, i, rfl, true, rfl, iteT ?_⟩
    refine ⟨.int i, rfl, 0, i, rfl, rfl, _, rfl, ite2 (fun c => ?_) (fun c => ?_)⟩
    · rw [show decide (0 ≤ i) = true from c, Bool.true_and] at q
      exact ⟨.int t, rfl, i, t, rfl, rfl, q⟩
    · rw [Bool.eq_false_iff.mpr c, Bool.false_and] at q
      exact q

def spTops (K : PySem.W.Frag) : Sp := fun vs H Q _ => ∃ (a : Addr) (tops : List Int), vs = [.ref a] ∧ H a = some (.tup (tops.map V.int)) ∧ 1 ≤ tops.length ∧ tops.length ≤ 12 ∧ Pl tops ∧ ∀ H', Same H H' → Q (.bl true) H'
theorem ok_tops {f fP : Addr} {fd fdP : FuncData} {k : Nat} {t1 t2 : Tok} (F : Fun K "are_tops" "are_tops" kTops f fd) (Pc : Kn P w K mg base 2 "is_place" ["top", "thing"] spPlace fP fdP) (ms : mg "isinstance" = none) (mt : mg "tuple" = none) (ml : mg "len" = none) (ma : mg "all" = none)
    (g1 : mg "MOST_THINGS" = some (.int 12 t1)) (g2 : mg "BEYOND_THIRTY_FIGURES" = some (.int 1000000000000000000000000000000 t2)) : FnOk P w K mg base CX0 (k + 3) f fd ["thing"] (spTops K) := by
  refine F.ok scTops (fun vs H Q E h => ?_) (fun cdv A outer s H vs Q E hr h => ?_)
  · obtain ⟨a, tops, rfl, _⟩ := h
    rfl
  · obtain ⟨a, tops, rfl, ea, l1, l12, pl, q⟩ := h
    refine ⟨_, pss_cons (ps_if (PW.pt (pw_or (pt_not (pt_val (pe_callB call_isi (by rfl) ms (by decide +kernel) (pa_cons (pv 0) (pa_cons (pe_bltn (v := .ty "tuple") (u := .type "tuple") (by rfl) mt (by decide +kernel) rfl) pa_nil)))))
        (pw_or1 (pt_not (pt_chain op_le op_le pe_int (pe_callB call_len_seq (by rfl) ml PySem.boot_len (pa_cons (pv 0) pa_nil)) (pe_glob (v := .int 12) rfl g1 ⟨_, rfl⟩)))))) (pss_one (ps_ret pe_bl)) pss_nil)
      (pss_one (ps_ret (pe_callB (cr_all rfl) (by rfl) ma (by decide +kernel) (pa_cons
        (pe_lc (own := [("top", 1)]) (g := gName 1) (tt := tYes) (te := tCall spPlace [] E0 (tCons (tOp (rI0 fun i j => .int (i - j)) (tC (.int 1000000000000000000000000000000)) (tC (.int 1))) (tCons (tVar 1) tNil))) rfl scTops.nd (pi_tup (pv 0)) (blkOk_by (N := ["thing", "top"]) (sc := defScope kTops) (by decide +kernel))
          (fun _ _ _ _ _ => pg_name (i := 1) scTops.nd rfl (.inl rfl) (hf := .inr rfl)) (fun _ _ _ _ _ => pts_nil)
          (fun _ _ _ _ _ => pe_kn Pc hr (by omega) (pa_cons (pe_op op_sub (pe_glob (v := .int 1000000000000000000000000000000) rfl g2 ⟨_, rfl⟩) pe_int) (pa_cons (pv 1) pa_nil)))) pa_nil)))), ?_⟩
    refine ⟨.ref a, rfl, _, _, _, _, true, rfl, .ty "tuple", .base (.tup ea), kit_ty (by decide +kernel), true, rfl, iteF ?_⟩
    refine ⟨.ref a, rfl, a, _, rfl, .inr (.inl (.inl ea)), 1, _, rfl, rfl, true, ?_, iteT ⟨_, 12, rfl, rfl, true, ?_, iteF ?_⟩⟩
    · rw [List.length_map]
      exact congrArg V.bl (decide_eq_true (by omega))
    · rw [List.length_map]
      exact congrArg V.bl (decide_eq_true (by omega))
    refine ⟨.ref a, rfl, a, rfl, ⟨_, .inl (.inl ea)⟩, fun D nD => lc_it (walk_tup (xs := tops.map V.int)) (fun i H' => Same H H' ∧ H' D = some (.lst ((List.replicate i true).map V.bl))) ⟨same_new nD, upd_same⟩ (fun i H' _ p => .inl (.inl (p.1 _ _ ea))) (fun i v H1 H2 hi p y => ?_) (fun H' p => ?_)⟩
    · obtain ⟨sm, eD⟩ := p
      obtain ⟨rfl, gv⟩ := y
      obtain ⟨x, ex, rfl⟩ := mapGet gv
      have hx := pl x (List.mem_of_getElem? ex)
      have hi' : i < tops.length := by simpa using hi
      refine ⟨rfl, _, _, rfl, rfl, .int x, rfl, _, x, rfl, _, eD, by rw [List.length_map, List.length_replicate]; exact small1000 (by omega), same_over sm nD, ?_⟩
      rw [upd_same, decide_eq_true hx.1, decide_eq_true (show x ≤ 1000000000000000000000000000000 - 1 by have := hx.2; omega), List.replicate_succ', List.map_append]
      rfl
    · obtain ⟨sm, eD⟩ := p
      refine ⟨D, _, rfl, .inl (.inl eD), ?_⟩
      rw [show (List.replicate (tops.map V.int).length true).all id = true by simp]
      exact q H' sm

def spSide (K : PySem.W.Frag) : Sp := fun vs H Q _ => ∃ (t p : Addr) (tops : List Int) (sd : Sd), vs = [.ref t, .ref p] ∧ H t = some (.tup (tops.map V.int)) ∧ SideAt H p sd ∧ SideOk tops sd ∧ Q (.bl true) H
theorem ok_side {f fP wa : Addr} {fd fdP : FuncData} {k : Nat} (F : Fun K "is_side_of" "is_side_of" kSide f fd) (Pc : Kn P w K mg base 2 "is_place" ["top", "thing"] spPlace fP fdP) (ms : mg "isinstance" = none) (mt : mg "tuple" = none) (ml : mg "len" = none) (mr : mg "str" = none)
    (g1 : mg "WORDS" = some (.ref wa)) (hW : ∀ H, SqT K H wa [.str "from", .str "to"]) : FnOk P w K mg base CX0 (k + 3) f fd ["tops", "thing"] (spSide K) := by
  refine F.ok scSide (fun vs H Q E h => ?_) (fun cdv A outer s H vs Q E hr h => ?_)
  · obtain ⟨t, p, tops, sd, rfl, _⟩ := h
    rfl
  · obtain ⟨t, p, tops, ⟨n, b, pl⟩, rfl, et, ep, ⟨tp, eg, p0, p1⟩, q⟩ := h
    have ep' : H p = some (.tup [.int (n : Int), .str (word b), .int pl]) := ep
    have hn : n < tops.length := (List.getElem?_eq_some_iff.mp eg).1
    refine ⟨_, pss_cons (ps_if (PW.pt (pw_or (pt_not (pt_val (pe_callB call_isi (by rfl) ms (by decide +kernel) (pa_cons (pv 1) (pa_cons (pe_bltn (v := .ty "tuple") (u := .type "tuple") (by rfl) mt (by decide +kernel) rfl) pa_nil)))))
        (pw_or1 (pt_cmpR op_ne (pe_callB call_len_seq (by rfl) ml PySem.boot_len (pa_cons (pv 1) pa_nil)) pe_int (nomark _))))) (pss_one (ps_ret pe_bl)) pss_nil)
      (pss_cons (ps_asg (pv 1) (pg_tup (by rfl) (pgs_cons (pg_name (i := 2) scSide.nd rfl (.inl rfl)) (pgs_cons (pg_name (i := 3) scSide.nd rfl (.inl rfl)) (pgs_cons (pg_name (i := 4) scSide.nd rfl (.inl rfl)) pgs_nil)))))
      (pss_cons (ps_if (pt_not (pt_val (pe_kn Pc hr (by omega) (pa_cons (pe_op op_sub (pe_callB call_len_seq (by rfl) ml PySem.boot_len (pa_cons (pv 0) pa_nil)) pe_int) (pa_cons (pv 2) pa_nil))))) (pss_one (ps_ret pe_bl)) pss_nil)
      (pss_one (ps_ret (pe_and (pe_callB call_isi (by rfl) ms (by decide +kernel) (pa_cons (pv 3) (pa_cons (pe_bltn (v := .ty "str") (u := .type "str") (by rfl) mr (by decide +kernel) rfl) pa_nil)))
        (pe_and (pe_cmpR op_in_seq (pv 3) (pe_glob (v := .ref wa) rfl g1 rfl) (by rfl)) (pe_one (pe_kn Pc hr (by omega) (pa_cons (pe_ix ix_tup (pv 0) (pv 2) (fun _ _ => rfl)) (pa_cons (pv 4) pa_nil)))))))))), ?_⟩
    refine ⟨.ref p, rfl, _, _, _, _, true, rfl, .ty "tuple", .base (.tup ep'), kit_ty (by decide +kernel), true, rfl, iteF ?_⟩
    refine ⟨.ref p, rfl, p, _, rfl, .inr (.inl (.inl ep')), rfl, _, rfl, iteNS rfl ?_⟩
    refine ⟨.ref p, rfl, p, _, rfl, .inl (.inl ep'), rfl, _, _, rfl, _, _, rfl, _, _, rfl, rfl, ?_⟩
    refine ⟨.ref t, rfl, t, _, rfl, .inr (.inl (.inl et)), _, 1, rfl, rfl, .int n, rfl, _, n, rfl, true, ?_, iteF ?_⟩
    · rw [List.length_map, decide_eq_true (show (0 : Int) ≤ n by omega), decide_eq_true (show (n : Int) ≤ tops.length - 1 by omega)]
      rfl
    refine ⟨_, rfl, _, _, _, _, true, rfl, .ty "str", .base (.str _), kit_ty (by decide +kernel), true, rfl, iteT ?_⟩
    refine ⟨_, rfl, wa, _, rfl, .inr (hW H), rfl, by decide +kernel, true, ?_, iteT ?_⟩
    · rw [word_in]
      rfl
    refine ⟨.ref t, rfl, .int n, rfl, t, _, n, .int tp, rfl, rfl, .inl (.inl et), atI_nat (by rw [List.getElem?_map, eg]; rfl), .int pl, rfl, tp, pl, rfl, ?_⟩
    rw [decide_eq_true p0, decide_eq_true p1]
    exact q

/-- a run of truths that a comprehension makes -/
theorem all_true (n : Nat) : (List.replicate n true).all id = true := by simp
theorem more_true (n : Nat) : (List.replicate (n + 1) true).map V.bl = (List.replicate n true).map V.bl ++ [V.bl true] := by
  rw [List.replicate_succ', List.map_append]
  rfl

def spSides (K : PySem.W.Frag) : Sp := fun vs H Q _ => ∃ (t r : Addr) (tops : List Int) (as : List Addr), vs = [.ref t, .ref r] ∧ H t = some (.tup (tops.map V.int)) ∧ H r = some (.tup (as.map V.ref)) ∧ as.length ≤ 100 ∧ (∀ p ∈ as, ∃ sd, SideAt H p sd ∧ SideOk tops sd) ∧ ∀ H', Same H H' → Q (.bl true) H'
theorem ok_sides {f fP : Addr} {fd fdP : FuncData} {k : Nat} (F : Fun K "are_sides_of" "are_sides_of" kSides f fd) (Si : Kn P w K mg base 3 "is_side_of" ["tops", "thing"] (spSide K) fP fdP) (ms : mg "isinstance" = none) (mt : mg "tuple" = none) (ma : mg "all" = none) : FnOk P w K mg base CX0 (k + 4) f fd ["tops", "thing"] (spSides K) := by
  refine F.ok scSides (fun vs H Q E h => ?_) (fun cdv A outer s H vs Q E hr h => ?_)
  · obtain ⟨t, r, tops, as, rfl, _⟩ := h
    rfl
  · obtain ⟨t, r, tops, as, rfl, et, er, l, ok, q⟩ := h
    refine ⟨_, pss_one (ps_ret (pe_and (pe_callB call_isi (by rfl) ms (by decide +kernel) (pa_cons (pv 1) (pa_cons (pe_bltn (v := .ty "tuple") (u := .type "tuple") (by rfl) mt (by decide +kernel) rfl) pa_nil)))
      (pe_one (pe_callB (cr_all rfl) (by rfl) ma (by decide +kernel) (pa_cons
        (pe_lc (own := [("side", 2)]) (g := gName 2) (tt := tYes) (te := tCall (spSide K) [] E0 (tCons (tVar 0) (tCons (tVar 2) tNil))) rfl scSides.nd (pi_tup (pv 1)) (blkOk_by (N := ["tops", "thing", "side"]) (sc := defScope kSides) (by decide +kernel))
          (fun _ _ _ _ _ => pg_name (i := 2) scSides.nd rfl (.inl rfl) (hf := .inr rfl)) (fun _ _ _ _ _ => pts_nil)
          (fun _ _ _ _ _ => pe_kn Si hr (by omega) (pa_cons (pv 0) (pa_cons (pv 2) pa_nil)))) pa_nil))))), ?_⟩
    refine ⟨.ref r, rfl, _, _, _, _, true, rfl, .ty "tuple", .base (.tup er), kit_ty (by decide +kernel), true, rfl, iteT ?_⟩
    refine ⟨.ref r, rfl, r, rfl, ⟨_, .inl (.inl er)⟩, fun D nD => lc_it (walk_tup (xs := as.map V.ref)) (fun i H' => Same H H' ∧ H' D = some (.lst ((List.replicate i true).map V.bl))) ⟨same_new nD, upd_same⟩ (fun i H' _ p => .inl (.inl (p.1 _ _ er))) (fun i v H1 H2 hi p y => ?_) (fun H' p => ?_)⟩
    · obtain ⟨sm, eD⟩ := p
      obtain ⟨rfl, gv⟩ := y
      obtain ⟨x, ex, rfl⟩ := mapGet gv
      have hi' : i < as.length := by simpa using hi
      obtain ⟨sd, a1, a2⟩ := ok x (List.mem_of_getElem? ex)
      refine ⟨rfl, .ref t, rfl, .ref x, rfl, t, x, tops, sd, rfl, sm _ _ et, a1.keep (.same sm), a2, _, eD, by rw [List.length_map, List.length_replicate]; exact small1000 (by omega), same_over sm nD, ?_⟩
      rw [upd_same, more_true]
    · obtain ⟨sm, eD⟩ := p
      refine ⟨D, _, rfl, .inl (.inl eD), ?_⟩
      rw [all_true]
      exact q H' sm

def spRule (K : PySem.W.Frag) : Sp := fun vs H Q _ => ∃ (t r : Addr) (tops : List Int) (rl : Rl), vs = [.ref t, .ref r] ∧ H t = some (.tup (tops.map V.int)) ∧ RuleAt H r rl ∧ RuleOk tops rl ∧ ∀ H', Same H H' → Q (.bl true) H'
theorem ok_rule {f fP : Addr} {fd fdP : FuncData} {k : Nat} (F : Fun K "is_rule_of" "is_rule_of" kRule f fd) (Ss : Kn P w K mg base 4 "are_sides_of" ["tops", "thing"] (spSides K) fP fdP) (ml : mg "len" = none) : FnOk P w K mg base CX0 (k + 5) f fd ["tops", "thing"] (spRule K) := by
  refine F.ok scRule (fun vs H Q E h => ?_) (fun cdv A outer s H vs Q E hr h => ?_)
  · obtain ⟨t, r, tops, rl, rfl, _⟩ := h
    rfl
  · obtain ⟨t, r, tops, rl, rfl, et, ⟨p1, p2, er, h1, h2⟩, ok, q⟩ := h
    refine ⟨_, pss_one (ps_ret (pe_and (pe_kn Ss hr (by omega) (pa_cons (pv 0) (pa_cons (pv 1) pa_nil))) (pe_one (pe_cmpR op_eq (pe_callB call_len_seq (by rfl) ml PySem.boot_len (pa_cons (pv 1) pa_nil)) pe_int (nomark _))))), ?_⟩
    refine ⟨.ref t, rfl, .ref r, rfl, t, r, tops, [p1, p2], rfl, et, er, (show 2 ≤ 100 by decide), fun p hp => ?_, fun H' sm => ⟨true, rfl, iteT ?_⟩⟩
    · simp only [List.mem_cons, List.not_mem_nil, or_false] at hp
      rcases hp with e | e <;> rw [e]
      · exact ⟨_, h1, ok.1⟩
      · exact ⟨_, h2, ok.2⟩
    · exact ⟨.ref r, rfl, r, _, rfl, .inr (.inl (.inl (sm _ _ er))), rfl, q H' sm⟩

def spRules (K : PySem.W.Frag) : Sp := fun vs H Q _ => ∃ (t R : Addr) (tops : List Int) (rs : List Rl), vs = [.ref t, .ref R] ∧ H t = some (.tup (tops.map V.int)) ∧ RulesAt H R rs ∧ rs.length ≤ 40 ∧ (∀ q ∈ rs, RuleOk tops q) ∧ ∀ H', Same H H' → Q (.bl true) H'
theorem ok_rules {f fP : Addr} {fd fdP : FuncData} {k : Nat} {t1 : Tok} (F : Fun K "are_rules_of" "are_rules_of" kRules f fd) (Ru : Kn P w K mg base 5 "is_rule_of" ["tops", "thing"] (spRule K) fP fdP) (ms : mg "isinstance" = none) (mt : mg "tuple" = none) (ml : mg "len" = none) (ma : mg "all" = none)
    (g1 : mg "MOST_RULES" = some (.int 40 t1)) : FnOk P w K mg base CX0 (k + 6) f fd ["tops", "thing"] (spRules K) := by
  refine F.ok scRules (fun vs H Q E h => ?_) (fun cdv A outer s H vs Q E hr h => ?_)
  · obtain ⟨t, R, tops, rs, rfl, _⟩ := h
    rfl
  · obtain ⟨t, R, tops, rs, rfl, et, ⟨as, eR, la, ha⟩, l40, ok, q⟩ := h
    refine ⟨_, pss_cons (ps_if (PW.pt (pw_or (pt_not (pt_val (pe_callB call_isi (by rfl) ms (by decide +kernel) (pa_cons (pv 1) (pa_cons (pe_bltn (v := .ty "tuple") (u := .type "tuple") (by rfl) mt (by decide +kernel) rfl) pa_nil)))))
        (pw_or1 (pt_cmpR op_gt (pe_callB call_len_seq (by rfl) ml PySem.boot_len (pa_cons (pv 1) pa_nil)) (pe_glob (v := .int 40) rfl g1 ⟨_, rfl⟩) (nomark _))))) (pss_one (ps_ret pe_bl)) pss_nil)
      (pss_one (ps_ret (pe_callB (cr_all rfl) (by rfl) ma (by decide +kernel) (pa_cons
        (pe_lc (own := [("rule", 2)]) (g := gName 2) (tt := tYes) (te := tCall (spRule K) [] E0 (tCons (tVar 0) (tCons (tVar 2) tNil))) rfl scRules.nd (pi_tup (pv 1)) (blkOk_by (N := ["tops", "thing", "rule"]) (sc := defScope kRules) (by decide +kernel))
          (fun _ _ _ _ _ => pg_name (i := 2) scRules.nd rfl (.inl rfl) (hf := .inr rfl)) (fun _ _ _ _ _ => pts_nil)
          (fun _ _ _ _ _ => pe_kn Ru hr (by omega) (pa_cons (pv 0) (pa_cons (pv 2) pa_nil)))) pa_nil)))), ?_⟩
    refine ⟨.ref R, rfl, _, _, _, _, true, rfl, .ty "tuple", .base (.tup eR), kit_ty (by decide +kernel), true, rfl, iteF ?_⟩
    refine ⟨.ref R, rfl, R, _, rfl, .inr (.inl (.inl eR)), _, 40, rfl, rfl, false, ?_, iteF ?_⟩
    · rw [List.length_map]
      exact congrArg V.bl (decide_eq_false (by omega))
    refine ⟨.ref R, rfl, R, rfl, ⟨_, .inl (.inl eR)⟩, fun D nD => lc_it (walk_tup (xs := as.map V.ref)) (fun i H' => Same H H' ∧ H' D = some (.lst ((List.replicate i true).map V.bl))) ⟨same_new nD, upd_same⟩ (fun i H' _ p => .inl (.inl (p.1 _ _ eR))) (fun i v H1 H2 hi p y => ?_) (fun H' p => ?_)⟩
    · obtain ⟨sm, eD⟩ := p
      obtain ⟨rfl, gv⟩ := y
      obtain ⟨x, ex, rfl⟩ := mapGet gv
      have hi' : i < as.length := by simpa using hi
      have hr' : i < rs.length := by omega
      have eq : rs[i]? = some rs[i] := List.getElem?_eq_getElem hr'
      refine ⟨rfl, .ref t, rfl, .ref x, rfl, t, x, tops, rs[i], rfl, sm _ _ et, (ha i x _ ex eq).keep (.same sm), ok _ (List.getElem_mem hr'), fun H3 s3 => ?_⟩
      have sm3 := sm.trans s3
      refine ⟨_, s3 _ _ eD, by rw [List.length_map, List.length_replicate]; exact small1000 (by omega), same_over sm3 nD, ?_⟩
      rw [upd_same, more_true]
    · obtain ⟨sm, eD⟩ := p
      refine ⟨D, _, rfl, .inl (.inl eD), ?_⟩
      rw [all_true]
      exact q H' sm

/-- what is asked of the class as the top has made it -/
structure PlanTxt (K : PySem.W.Frag) (mg : Str → Option Value) (C : Addr) : Prop where
  cl : Cls K C
  nT : NoAttr K C "tops"
  nR : NoAttr K C "rules"
  mgC : mg "Plan" = some (.ref C)
theorem put_two (t R : Addr) : putF "rules" (V.ref R) (putF "tops" (V.ref t) []) = ([("tops", V.ref t), ("rules", V.ref R)] : List (Str × V)) := by
  have n : ¬ (("tops" : Str) = "rules") := by decide +kernel
  show (if ("tops" : Str) = "rules" then [(("tops" : Str), V.ref R)] else (("tops" : Str), V.ref t) :: putF "rules" (V.ref R) []) = _
  rw [if_neg n]
  rfl
def spInit (C : Addr) : Sp := fun vs H Q _ => ∃ (x dx t R : Addr) (tops : List Int) (rs : List Rl), vs = [.ref x, .ref t, .ref R] ∧ H x = some (.ins C dx []) ∧ H t = some (.tup (tops.map V.int)) ∧ RulesAt H R rs ∧ 1 ≤ tops.length ∧ tops.length ≤ 12 ∧ Pl tops ∧ rs.length ≤ 40 ∧ (∀ q ∈ rs, RuleOk tops q) ∧
  ∀ H', (∀ b o, b ≠ x → H b = some o → H' b = some o) → H' x = some (.ins C dx [("tops", .ref t), ("rules", .ref R)]) → Q .non H'
theorem ok_init {f C fT fR : Addr} {fd fdT fdR : FuncData} {k : Nat} {dvs : List V} {kws : List (Str × V)} (F : FunD K "__init__" "Plan.__init__" (defArgs kInit) (defBody kInit) (defScope kInit) dvs kws f fd) (T : PlanTxt K mg C) (To : Kn P w K mg base 3 "are_tops" ["thing"] (spTops K) fT fdT) (Ru : Kn P w K mg base 6 "are_rules_of" ["tops", "thing"] (spRules K) fR fdR) :
    FnOk P w K mg base CX0 (k + 7) f fd ["self", "tops", "rules"] (spInit C) := by
  refine F.ok scInit (fun vs H Q E h => ?_) (fun cdv A outer s H vs Q E hr h => ?_)
  · obtain ⟨x, dx, t, R, tops, rs, rfl, _⟩ := h
    rfl
  · obtain ⟨x, dx, t, R, tops, rs, rfl, ex, et, eR, l1, l12, pl, l40, ok, q⟩ := h
    refine ⟨_, pss_cons (ps_if (pt_not (pt_val (pe_kn To hr (by omega) (pa_cons (pv 1) pa_nil)))) (pss_one ps_never) pss_nil)
      (pss_cons (ps_if (pt_not (pt_val (pe_kn Ru hr (by omega) (pa_cons (pv 1) (pa_cons (pv 2) pa_nil))))) (pss_one ps_never) pss_nil)
      (pss_cons (ps_fld (pv 0) (pv 1) rfl) (pss_one (ps_fld (pv 0) (pv 2) rfl)))), ?_⟩
    refine ⟨.ref t, rfl, t, tops, rfl, et, l1, l12, pl, fun H1 s1 => ⟨true, rfl, iteF ?_⟩⟩
    refine ⟨.ref t, rfl, .ref R, rfl, t, R, tops, rs, rfl, s1 _ _ et, eR.keep (.same s1), l40, ok, fun H2 s2 => ⟨true, rfl, iteF ?_⟩⟩
    have s02 := s1.trans s2
    refine ⟨.ref t, rfl, .ref x, rfl, x, C, dx, [], rfl, s02 _ _ ex, T.cl, T.nT, (show 0 < 1000 by decide), ?_⟩
    refine ⟨.ref R, rfl, .ref x, rfl, x, C, dx, _, rfl, upd_same, T.cl, T.nR, (show 1 < 1000 by decide), ?_⟩
    refine q _ (fun b o ne e => ?_) ?_
    · rw [upd_ne ne, upd_ne ne]
      exact s02 _ _ e
    · rw [upd_same]
      exact congrArg (fun z => some (HO.ins C dx z)) (put_two t R)
/-- Plan(tops, rules) -/
theorem plan_made {C x dx : Addr} {H : Hp} {t R : Addr} {tops : List Int} {rs : List Rl} {W : VK} {E : XK} (nx : H x = none) (ndx : H dx = none) (ne : dx ≠ x) (et : H t = some (.tup (tops.map V.int))) (eR : RulesAt H R rs) (l1 : 1 ≤ tops.length) (l12 : tops.length ≤ 12) (pl : Pl tops) (l40 : rs.length ≤ 40) (ok : ∀ q ∈ rs, RuleOk tops q)
    (q : ∀ H', Same H H' → PlanAt C H' x tops rs → W .non H') : spInit C [.ref x, .ref t, .ref R] (upd (upd H dx (.own x)) x (.ins C dx [])) W E := by
  have s1 : Same H (upd (upd H dx (.own x)) x (.ins C dx [])) := (same_new ndx).trans (same_new (by rw [upd_ne ne.symm]; exact nx))
  refine ⟨x, dx, t, R, tops, rs, rfl, upd_same, s1 _ _ et, eR.keep (.same s1), l1, l12, pl, l40, ok, fun H' k ex => ?_⟩
  have s2 : Same H H' := fun b o e => k b o (ne_of_none e nx) (s1 b o e)
  exact q H' s2 ⟨dx, t, R, ex, s2 _ _ et, eR.keep (.same s2)⟩
end

abbrev kI_NoGood : Stmt := inClass (topS 3) 0
theorem sc_NoGood : FnScope ["self", "paper"] ["self", "paper"] (defScope kI_NoGood) := ⟨rfl, rfl, rfl, by decide +kernel, rfl, by decide +kernel, by decide +kernel⟩
theorem ok_NoGood {P : Program} {w : World} {K : PySem.W.Frag} {mg : Str → Option Value} {base : Heap} {f C : Addr} {fd : FuncData} (F : Fun K "__init__" "NoGood.__init__" kI_NoGood f fd) (O : OexC K C) (n : PySem.W.findIn K (.ref C) "paper" = some none) : FnOk P w K mg base CX0 1 f fd ["self", "paper"] (spXI C "paper") := by
  refine F.ok sc_NoGood (fun vs H Q E h => ?_) (fun cdv A outer s H vs Q E hr h => ?_)
  · obtain ⟨a, v, rfl, _⟩ := h
    rfl
  · obtain ⟨a, v, rfl, ea, q⟩ := h
    exact ⟨_, pss_one (ps_ost (pv 0) (pv 1)), _, rfl, _, rfl, a, C, rfl, O, n, .inl ⟨ea, fun dx n ne => q dx n ne⟩⟩
end K16

set_option Elab.async false
set_option linter.all false
set_option maxRecDepth 100000
namespace K16
open PySem PySem.Spec PyProof.Rows L2 NB

/-! ### standings -/
def inB (st : List Int) (s : Sd) : Bool := match st[s.1]? with
  | some v => if s.2.1 then decide (s.2.2 ≤ v) else decide (v ≤ s.2.2)
  | none => false
def kept (st : List Int) (q : Rl) : Bool := inB st q.1 || inB st q.2
/-- the numbers of the rules that are broken -/
def brok (st : List Int) (rs : List Rl) : List Int := rs.zipIdx.filterMap fun p => if kept st p.1 then none else some (p.2 : Int)
theorem brok_take (st : List Int) (rs : List Rl) (i : Nat) (q : Rl) (h : rs[i]? = some q) : brok st (rs.take (i + 1)) = brok st (rs.take i) ++ (if kept st q then [] else [(i : Int)]) := by
  have hi : i < rs.length := (List.getElem?_eq_some_iff.mp h).1
  have hl : (rs.take i).length = i := by rw [List.length_take]; omega
  unfold brok
  rw [List.take_add_one, h, List.zipIdx_append, List.filterMap_append, hl]
  congr 1
  show List.filterMap _ [(q, 0 + i)] = _
  simp only [List.filterMap_cons, List.filterMap_nil, Nat.zero_add]
  split <;> split <;> simp_all
theorem brok_len (st : List Int) (rs : List Rl) : (brok st rs).length ≤ rs.length := by
  unfold brok
  refine Nat.le_trans (List.length_filterMap_le _ _) ?_
  rw [List.length_zipIdx]
  exact Nat.le_refl _
theorem brok_nil (st : List Int) (rs : List Rl) : (brok st rs = []) ↔ rs.all (kept st) = true := by
  unfold brok
  rw [List.filterMap_eq_nil_iff, List.all_eq_true]
  constructor
  · intro h q hq
    obtain ⟨i, hi, e⟩ := List.getElem_of_mem hq
    have := h (q, i) (by rw [List.mem_zipIdx_iff_getElem?]; simp [hi, e])
    cases c : kept st q with
    | true => rfl
    | false => rw [c] at this; simp at this
  · rintro h ⟨q, i⟩ hq
    have hm : q ∈ rs := List.mem_of_getElem? (by rw [List.mem_zipIdx_iff_getElem?] at hq; exact hq)
    simp [h q hm]
theorem eqv_ints : ∀ xs ys : List Int, PyData.eqvAll (xs.map PyData.int) (ys.map PyData.int) = decide (xs = ys)
  | [], [] => by simp [PyData.eqvAll]
  | [], _ :: _ => by simp [PyData.eqvAll]
  | _ :: _, [] => by simp [PyData.eqvAll]
  | x :: xs, y :: ys => by
    simp only [List.map_cons, PyData.eqvAll, PyData.eqv, eqv_ints xs ys, List.cons.injEq, Bool.decide_and]
    congr 1
theorem lay_ints : ∀ xs : List Int, PyData.canLayAll0 (xs.map PyData.int) = true
  | [] => rfl
  | x :: xs => by simp only [List.map_cons, PyData.canLayAll0, PyData.canLay0, lay_ints xs, Bool.and_self]
theorem depth_ints : ∀ xs : List Int, PyData.depthAll (xs.map PyData.int) = 0
  | [] => rfl
  | x :: xs => by simp only [List.map_cons, PyData.depthAll, PyData.depth, depth_ints xs, Nat.max_self]
theorem shaped_ints (xs : List Int) : SeqAt.shaped (.tuple (xs.map PyData.int)) = true := by
  unfold SeqAt.shaped
  simp only [PyData.canLay0, lay_ints, PyData.depth, depth_ints, Bool.true_and]
  decide
theorem dps {K : PySem.W.Frag} {H : Hp} : ∀ xs : List Int, DpAll K H (xs.map V.int) (xs.map PyData.int)
  | [] => .nil
  | x :: xs => .cons (.int x) (dps xs)
theorem dpt {K : PySem.W.Frag} {H : Hp} {p : Addr} {xs : List Int} (h : H p = some (.tup (xs.map V.int))) : Dp K H (.ref p) (.tuple (xs.map PyData.int)) := .tup (.inl (.inl h)) (dps xs)

abbrev kIn : Stmt := topS 29
abbrev kKept : Stmt := topS 30
abbrev kBroken : Stmt := topS 31
abbrev kGood : Stmt := topS 32
theorem scIn : FnScope ["side", "standing", "thing", "word", "place"] ["side", "standing"] (defScope kIn) := ⟨rfl, rfl, rfl, by decide +kernel, rfl, by decide +kernel, by decide +kernel⟩
theorem scKept : FnScope ["rule", "standing", "first", "second"] ["rule", "standing"] (defScope kKept) := ⟨rfl, rfl, rfl, by decide +kernel, rfl, by decide +kernel, by decide +kernel⟩
theorem scBroken : FnScope ["plan", "standing", "number", "rule"] ["plan", "standing"] (defScope kBroken) := ⟨rfl, rfl, rfl, by decide +kernel, rfl, by decide +kernel, by decide +kernel⟩
theorem scGood : FnScope ["plan", "standing"] ["plan", "standing"] (defScope kGood) := ⟨rfl, rfl, rfl, by decide +kernel, rfl, by decide +kernel, by decide +kernel⟩
theorem w_from : decide (V.str (word true) = V.str "from") = true := by decide +kernel
theorem w_to : decide (V.str (word false) = V.str "from") = false := by decide +kernel

section
variable {P : Program} {w : World} {K : PySem.W.Frag} {mg : Str → Option Value} {base : Heap}

def spIn : Sp := fun vs H Q _ => ∃ (p t : Addr) (sd : Sd) (xs : List Int), vs = [.ref p, .ref t] ∧ SideAt H p sd ∧ H t = some (.tup (xs.map V.int)) ∧ sd.1 < xs.length ∧ Q (.bl (inB xs sd)) H
theorem ok_in {f : Addr} {fd : FuncData} {k : Nat} (F : Fun K "is_in" "is_in" kIn f fd) : FnOk P w K mg base CX0 (k + 1) f fd ["side", "standing"] spIn := by
  refine F.ok scIn (fun vs H Q E h => ?_) (fun cdv A outer s H vs Q E hr h => ?_)
  · obtain ⟨p, t, sd, xs, rfl, _⟩ := h
    rfl
  · obtain ⟨p, t, ⟨n, b, pl⟩, xs, rfl, ep, et, ln, q⟩ := h
    have ep' : H p = some (.tup [.int (n : Int), .str (word b), .int pl]) := ep
    have ln' : n < xs.length := ln
    have eg : atI (xs.map V.int) (n : Int) = some (.int xs[n]) := atI_nat (by rw [List.getElem?_map, List.getElem?_eq_getElem ln']; rfl)
    have eb : inB xs (n, b, pl) = if b then decide (pl ≤ xs[n]) else decide (xs[n] ≤ pl) := by
      unfold inB
      simp only [List.getElem?_eq_getElem ln']
    rw [eb] at q
    refine ⟨_, pss_cons (ps_asg (pv 0) (pg_tup (by rfl) (pgs_cons (pg_name (i := 2) scIn.nd rfl (.inl rfl)) (pgs_cons (pg_name (i := 3) scIn.nd rfl (.inl rfl)) (pgs_cons (pg_name (i := 4) scIn.nd rfl (.inl rfl)) pgs_nil)))))
      (pss_cons (ps_if (pt_cmpR op_eq (pv 3) pe_str (nomark _)) (pss_one (ps_ret (pe_cmpR op_ge (pe_ix ix_tup (pv 1) (pv 2) (fun _ _ => rfl)) (pv 4) (nomark _)))) pss_nil)
      (pss_one (ps_ret (pe_cmpR op_le (pe_ix ix_tup (pv 1) (pv 2) (fun _ _ => rfl)) (pv 4) (nomark _))))), ?_⟩
    refine ⟨.ref p, rfl, p, _, rfl, .inl (.inl ep'), rfl, _, _, rfl, _, _, rfl, _, _, rfl, rfl, ?_⟩
    cases b with
    | true =>
      refine ⟨_, rfl, rfl, true, congrArg V.bl w_from, iteT ?_⟩
      exact ⟨.ref t, rfl, .int n, rfl, t, _, n, _, rfl, rfl, .inl (.inl et), eg, .int pl, rfl, _, pl, rfl, rfl, q⟩
    | false =>
      refine ⟨_, rfl, rfl, false, congrArg V.bl w_to, iteF ?_⟩
      exact ⟨.ref t, rfl, .int n, rfl, t, _, n, _, rfl, rfl, .inl (.inl et), eg, .int pl, rfl, _, pl, rfl, rfl, q⟩

def Fit (xs : List Int) (q : Rl) : Prop := q.1.1 < xs.length ∧ q.2.1 < xs.length
def spKept : Sp := fun vs H Q _ => ∃ (r t : Addr) (rl : Rl) (xs : List Int), vs = [.ref r, .ref t] ∧ RuleAt H r rl ∧ H t = some (.tup (xs.map V.int)) ∧ Fit xs rl ∧ Q (.bl (kept xs rl)) H
theorem ok_kept {f fI : Addr} {fd fdI : FuncData} {k : Nat} (F : Fun K "is_kept" "is_kept" kKept f fd) (I' : Kn P w K mg base 1 "is_in" ["side", "standing"] spIn fI fdI) : FnOk P w K mg base CX0 (k + 2) f fd ["rule", "standing"] spKept := by
  refine F.ok scKept (fun vs H Q E h => ?_) (fun cdv A outer s H vs Q E hr h => ?_)
  · obtain ⟨r, t, rl, xs, rfl, _⟩ := h
    rfl
  · obtain ⟨r, t, rl, xs, rfl, ⟨p1, p2, er, h1, h2⟩, et, ft, q⟩ := h
    refine ⟨_, pss_cons (ps_asg (pv 0) (pg_tup (by rfl) (pgs_cons (pg_name (i := 2) scKept.nd rfl (.inl rfl)) (pgs_cons (pg_name (i := 3) scKept.nd rfl (.inl rfl)) pgs_nil))))
      (pss_one (ps_ret (pe_or (pe_kn I' hr (by omega) (pa_cons (pv 2) (pa_cons (pv 1) pa_nil))) (pe_one (pe_kn I' hr (by omega) (pa_cons (pv 3) (pa_cons (pv 1) pa_nil))))))), ?_⟩
    refine ⟨.ref r, rfl, r, _, rfl, .inl (.inl er), rfl, _, _, rfl, _, _, rfl, rfl, ?_⟩
    unfold kept at q
    refine ⟨.ref p1, rfl, .ref t, rfl, p1, t, rl.1, xs, rfl, h1, et, ft.1, _, rfl, ite2 (fun c => ?_) (fun c => ?_)⟩
    · rw [c, Bool.true_or] at q
      exact q
    · rw [Bool.eq_false_iff.mpr c, Bool.false_or] at q
      exact ⟨.ref p2, rfl, .ref t, rfl, p2, t, rl.2, xs, rfl, h2, et, ft.2, q⟩

theorem look_rules (t R : Addr) : ([("tops", V.ref t), ("rules", V.ref R)] : List (Str × V)).lookup ("rules" : Str) = some (V.ref R) := by
  have n : (("rules" : Str) == "tops") = false := by decide +kernel
  simp [List.lookup, n]
theorem look_tops (t R : Addr) : ([("tops", V.ref t), ("rules", V.ref R)] : List (Str × V)).lookup ("tops" : Str) = some (V.ref t) := by
  simp [List.lookup]

def spBroken (C : Addr) : Sp := fun vs H Q _ => ∃ (x t : Addr) (tops : List Int) (rs : List Rl) (xs : List Int), vs = [.ref x, .ref t] ∧ PlanAt C H x tops rs ∧ H t = some (.tup (xs.map V.int)) ∧ rs.length ≤ 40 ∧ (∀ q ∈ rs, Fit xs q) ∧
  ∀ H' p, Same H H' → H p = none → H' p = some (.tup ((brok xs rs).map V.int)) → Q (.ref p) H'
theorem ok_broken {f fI C : Addr} {fd fdI : FuncData} {k : Nat} (F : Fun K "broken" "broken" kBroken f fd) (T : PlanTxt K mg C) (Ke : Kn P w K mg base 2 "is_kept" ["rule", "standing"] spKept fI fdI) (mt : mg "tuple" = none) (me : mg "enumerate" = none) : FnOk P w K mg base CX0 (k + 3) f fd ["plan", "standing"] (spBroken C) := by
  refine F.ok scBroken (fun vs H Q E h => ?_) (fun cdv A outer s H vs Q E hr h => ?_)
  · obtain ⟨x, t, tops, rs, xs, rfl, _⟩ := h
    rfl
  · obtain ⟨x, t, tops, rs, xs, rfl, ⟨dx, tt', R, ex, ett, as, eR, la, ha⟩, et, l40, ft, q⟩ := h
    refine ⟨_, pss_one (ps_ret (pe_callTy call_tuple_of (by rfl) mt (by decide +kernel) (pa_cons
      (pe_lc (own := [("number", 2), ("rule", 3)]) (g := gTup K 2 (gCons (gName 2) (gCons (gName 3) gNil))) (tt := tNot (tB (tCall spKept [] E0 (tCons (tVar 3) (tCons (tVar 1) tNil))))) (te := tVar 2) rfl scBroken.nd (pi_enumT (by rfl) me (pa_cons (pe_fld (pv 0) rfl) pa_nil)) (blkOk_by (N := ["plan", "standing", "number", "rule"]) (sc := defScope kBroken) (by decide +kernel))
        (fun _ _ _ _ _ => pg_tup rfl (pgs_cons (pg_name (i := 2) scBroken.nd rfl (.inl rfl) (hf := .inr rfl)) (pgs_cons (pg_name (i := 3) scBroken.nd rfl (.inl rfl) (hf := .inr rfl)) pgs_nil)))
        (fun _ _ _ _ _ => pts_one (pt_not (pt_val (pe_kn Ke hr (by omega) (pa_cons (pv 3) (pa_cons (pv 1) pa_nil))))))
        (fun _ _ _ _ _ => pv 2)) pa_nil))), ?_⟩
    refine ⟨.ref x, rfl, x, C, dx, _, _, rfl, ex, T.cl, T.nR, look_rules _ _, R, _, rfl, .inl (.inl eR), fun D nD => lc_it (walk_enumT (xs := as.map V.ref)) (fun i H' => Same H H' ∧ H' D = some (.lst ((brok xs (rs.take i)).map V.int))) ⟨same_new nD, upd_same⟩ (fun i H' _ p => .inl (.inl (p.1 _ _ eR))) (fun i v H1 H2 hi p y => ?_) (fun H' p => ?_)⟩
    · obtain ⟨sm, eD⟩ := p
      obtain ⟨T', x1, x2, rfl, nT, rfl, g1, g2⟩ := y
      have e1 : x1 = .int (i : Nat) := (Option.some.inj g1).symm
      subst e1
      obtain ⟨r, er, rfl⟩ := mapGet g2
      have hi' : i < as.length := by simpa using hi
      have hr' : i < rs.length := by omega
      have eq : rs[i]? = some rs[i] := List.getElem?_eq_getElem hr'
      have nTD : D ≠ T' := ne_of_none eD nT
      have smT : Same H (upd H1 T' (.tup [V.int (i : Nat), V.ref r])) := same_over sm (sm.free nT)
      have eDT : (upd H1 T' (.tup [V.int (i : Nat), V.ref r])) D = some (.lst ((brok xs (rs.take i)).map V.int)) := (upd_ne nTD).trans eD
      refine ⟨T', _, rfl, .inl (.inl upd_same), rfl, _, _, rfl, _, _, rfl, rfl, rfl, .ref r, rfl, .ref t, rfl, r, t, rs[i], xs, rfl, (ha i r _ er eq).keep (.same smT), smT _ _ et, ft _ (List.getElem_mem hr'), _, rfl, ?_⟩
      cases c : kept xs rs[i] with
      | true =>
        refine iteF ⟨smT, ?_⟩
        rw [brok_take xs rs i _ eq, c, eDT]
        simp
      | false =>
        refine iteT ⟨_, rfl, _, eDT, ?_, same_over smT nD, ?_⟩
        · rw [List.length_map]
          refine Nat.lt_of_le_of_lt (brok_len _ _) ?_
          rw [List.length_take]
          exact small1000 (by omega)
        · rw [upd_same, brok_take xs rs i _ eq, c, List.map_append]
          rfl
    · obtain ⟨sm, eD⟩ := p
      rw [List.length_map, List.take_of_length_le (by omega)] at eD
      refine ⟨D, _, rfl, .inl ⟨.inl (.inl eD), fun l nl => ?_⟩⟩
      exact q _ l (same_over sm (sm.free nl)) (sm.free nl) upd_same

def spGood (C : Addr) : Sp := fun vs H Q _ => ∃ (x t : Addr) (tops : List Int) (rs : List Rl) (xs : List Int), vs = [.ref x, .ref t] ∧ PlanAt C H x tops rs ∧ H t = some (.tup (xs.map V.int)) ∧ rs.length ≤ 40 ∧ (∀ q ∈ rs, Fit xs q) ∧
  ∀ H', Same H H' → Q (.bl (rs.all (kept xs))) H'
theorem ok_good {f fI C : Addr} {fd fdI : FuncData} {k : Nat} (F : Fun K "is_good" "is_good" kGood f fd) (Br : Kn P w K mg base 3 "broken" ["plan", "standing"] (spBroken C) fI fdI) : FnOk P w K mg base CX0 (k + 4) f fd ["plan", "standing"] (spGood C) := by
  refine F.ok scGood (fun vs H Q E h => ?_) (fun cdv A outer s H vs Q E hr h => ?_)
  · obtain ⟨x, t, tops, rs, xs, rfl, _⟩ := h
    rfl
  · obtain ⟨x, t, tops, rs, xs, rfl, hp, et, l40, ft, q⟩ := h
    refine ⟨_, pss_one (ps_ret (pe_cmpR (op_eqD hr.units) (pe_kn Br hr (by omega) (pa_cons (pv 0) (pa_cons (pv 1) pa_nil))) (pe_tup pa_nil) (nomark _))), ?_⟩
    refine ⟨.ref x, rfl, .ref t, rfl, x, t, tops, rs, xs, rfl, hp, et, l40, ft, fun H1 p s1 np ep => ?_⟩
    refine ⟨Nat.zero_le _, fun z nz => ?_⟩
    have s2 := s1.trans (same_new (o := .tup []) nz)
    refine ⟨_, _, dpt (same_new nz _ _ ep), dpt (xs := []) upd_same, shaped_ints _, shaped_ints _, ?_⟩
    have e : PyData.eqv (.tuple ((brok xs rs).map PyData.int)) (.tuple (([] : List Int).map PyData.int)) = rs.all (kept xs) := by
      show PyData.eqv _ _ = _
      simp only [PyData.eqv]
      rw [eqv_ints, Bool.eq_iff_iff, decide_eq_true_eq]
      exact brok_nil xs rs
    rw [e]
    exact q _ s2
end
end K16

set_option Elab.async false
set_option linter.all false
set_option maxRecDepth 100000
namespace K16
open PySem PySem.Spec PyProof.Rows L2 NB

/-! ### the law's own draws -/
abbrev aSideIn : Stmt := topS 68
abbrev aRules : Stmt := topS 69
theorem scSideIn : FnScope ["_law_pot_here", "_law_tops", "_law_standing_here", "_law_thing"] ["_law_pot_here", "_law_tops", "_law_standing_here"] (defScope aSideIn) := ⟨rfl, rfl, rfl, by decide +kernel, rfl, by decide +kernel, by decide +kernel⟩
theorem scRulesL : FnScope ["_law_pot_here", "_law_tops", "_law_one", "_law_two", "_law_many", "_law_found", "_law_turn", "_law_both"] ["_law_pot_here", "_law_tops", "_law_one", "_law_two", "_law_many"] (defScope aRules) := ⟨rfl, rfl, rfl, by decide +kernel, rfl, by decide +kernel, by decide +kernel⟩

/-- a standing of the plan's tops -/
structure Std (tops : List Int) (H : Hp) (p : Addr) (st : List Int) : Prop where
  at' : H p = some (.tup (st.map V.int))
  len : st.length = tops.length
  pl : Pl st
  le : Le st tops
theorem Std.keep {tops : List Int} {H H' : Hp} {p : Addr} {st : List Int} (h : Std tops H p st) (k : Keep H H') : Std tops H' p st := ⟨k.tup h.at', h.len, h.pl, h.le⟩
abbrev refs (ps : List (Addr × List Int)) : List V := ps.map fun q => V.ref q.1
theorem words_mem {x : V} (h : x ∈ [V.str "from", V.str "to"]) : ∃ b, x = .str (word b) := by
  simp only [List.mem_cons, List.not_mem_nil, or_false] at h
  rcases h with e | e
  · exact ⟨true, e⟩
  · exact ⟨false, e⟩
theorem len_bd {tops : List Int} (l12 : tops.length ≤ 12) : (tops.length : Int) < 2 ^ 200 := Int.lt_of_le_of_lt (show (tops.length : Int) ≤ 12 by omega) (by decide)
theorem top_bd {t : Int} (h : t < 10 ^ 30) : t + 1 < 2 ^ 200 := Int.lt_of_le_of_lt (show t + 1 ≤ 10 ^ 30 by omega) (by decide)
theorem inB_from {st : List Int} {n : Nat} {pl : Int} (h : n < st.length) (l : pl ≤ st[n]) : inB st (n, true, pl) = true := by
  unfold inB
  simp [List.getElem?_eq_getElem h, l]
theorem inB_to {st : List Int} {n : Nat} {pl : Int} (h : n < st.length) (l : st[n] ≤ pl) : inB st (n, false, pl) = true := by
  unfold inB
  simp [List.getElem?_eq_getElem h, l]
theorem fit_of {tops : List Int} {q : Rl} (h : RuleOk tops q) {xs : List Int} (l : xs.length = tops.length) : Fit xs q := by
  obtain ⟨⟨t1, e1, _⟩, ⟨t2, e2, _⟩⟩ := h
  exact ⟨by rw [l]; exact (List.getElem?_eq_some_iff.mp e1).1, by rw [l]; exact (List.getElem?_eq_some_iff.mp e2).1⟩
/-- rules one by one -/
theorem rules_snoc {H H' : Hp} {as : List Addr} {rs : List Rl} {r : Addr} {q : Rl} (la : as.length = rs.length) (h : ∀ (i : Nat) (r : Addr) (q : Rl), as[i]? = some r → rs[i]? = some q → RuleAt H r q) (k : Keep H H') (e : RuleAt H' r q) :
    ∀ (i : Nat) (r' : Addr) (q' : Rl), (as ++ [r])[i]? = some r' → (rs ++ [q])[i]? = some q' → RuleAt H' r' q' := fun i r' q' h1 h2 => by
  rcases Nat.lt_or_ge i as.length with c | c
  · rw [List.getElem?_append_left c] at h1
    rw [List.getElem?_append_left (by omega)] at h2
    exact (h i r' q' h1 h2).keep k
  · rw [List.getElem?_append_right c] at h1
    rw [List.getElem?_append_right (by omega)] at h2
    have e0 : i - as.length = 0 := by
      rcases Nat.eq_zero_or_pos (i - as.length) with z | z
      · exact z
      · rw [List.getElem?_eq_none (by simp only [List.length_cons, List.length_nil]; omega)] at h1
        cases h1
    have e1 : i - rs.length = 0 := by omega
    rw [e0] at h1
    rw [e1] at h2
    cases h1
    cases h2
    exact e
theorem at_int {xs : List Int} {n : Nat} (h : n < xs.length) : atI (xs.map V.int) (n : Int) = some (.int xs[n]) := atI_nat (by rw [List.getElem?_map, List.getElem?_eq_getElem h]; rfl)
theorem ixN_nat {m n : Nat} (h : n < m) : ixN m (n : Int) = some n := by
  unfold ixN
  rw [if_pos (by omega), if_pos (by omega)]
  rfl
theorem set_ok {tops st : List Int} {n : Nat} {v : Int} (l : st.length = tops.length) (p : Pl st) (le : Le st tops) (hn : n < tops.length) (v0 : 0 ≤ v) (v1 : v ≤ tops[n]) (v2 : tops[n] < 10 ^ 30) : (st.set n v).length = tops.length ∧ Pl (st.set n v) ∧ Le (st.set n v) tops := by
  refine ⟨by rw [List.length_set, l], fun x hx => ?_, fun i x t h1 h2 => ?_⟩
  · rcases List.mem_or_eq_of_mem_set hx with h | h
    · exact p x h
    · rw [h]
      exact ⟨v0, by omega⟩
  · by_cases c : n = i
    · subst c
      rw [List.getElem?_set_self (by omega)] at h1
      cases h1
      rw [List.getElem?_eq_getElem hn] at h2
      cases h2
      exact v1
    · rw [List.getElem?_set_ne c] at h1
      exact le i x t h1 h2

section
variable {P : Program} {w : World} {K : PySem.W.Frag} {mg : Str → Option Value} {base : Heap}

def spSideIn : Sp := fun vs H Q _ => ∃ (a t s : Addr) (tops st : List Int) (c : Nat), vs = [.ref a, .ref t, .ref s] ∧ PotAt H a c ∧ H t = some (.tup (tops.map V.int)) ∧ Pl tops ∧ 1 ≤ tops.length ∧ tops.length ≤ 12 ∧ Std tops H s st ∧ c < 900000 ∧
  ∀ H' p sd, But a H H' → PotAt H' a (c + 3) → SideAt H' p sd → SideOk tops sd → inB st sd = true → Q (.ref p) H'
theorem ok_sideIn {f fT : Addr} {fd fdT : FuncData} {k : Nat} (F : Fun K "_law_side_in" "_law_side_in" aSideIn f fd) (T : Kn P w K mg base 1 "_law_take" ["_law_pot_here", "_law_many"] spTake fT fdT) (ml : mg "len" = none) : FnOk P w K mg base CX0 (k + 2) f fd ["_law_pot_here", "_law_tops", "_law_standing_here"] spSideIn := by
  refine F.ok scSideIn (fun vs H Q E h => ?_) (fun cdv A outer s H vs Q E hr h => ?_)
  · obtain ⟨a, t, s, tops, st, c, rfl, _⟩ := h
    rfl
  · obtain ⟨a, t, s', tops, st, c, rfl, pa, et, pl, l1, l12, S, hc, q⟩ := h
    refine ⟨_, pss_cons (ps_set (i := 3) scSideIn.nd rfl (.inl rfl) (pe_kn T hr (by omega) (pa_cons (pv 0) (pa_cons (pe_callB call_len_seq (by rfl) ml PySem.boot_len (pa_cons (pv 1) pa_nil)) pa_nil))))
      (pss_cons (ps_if (pt_cmpR op_eq (pe_kn T hr (by omega) (pa_cons (pv 0) (pa_cons pe_int pa_nil))) pe_int (nomark _))
        (pss_one (ps_ret (pe_tup (pa_cons (pv 3) (pa_cons pe_str (pa_cons (pe_kn T hr (by omega) (pa_cons (pv 0) (pa_cons (pe_op op_add (pe_ix ix_tup (pv 2) (pv 3) (fun _ _ => rfl)) pe_int) pa_nil))) pa_nil)))))) pss_nil)
      (pss_one (ps_ret (pe_tup (pa_cons (pv 3) (pa_cons pe_str (pa_cons (pe_op op_add (pe_ix ix_tup (pv 2) (pv 3) (fun _ _ => rfl)) (pe_kn T hr (by omega) (pa_cons (pv 0) (pa_cons (pe_op op_add (pe_op op_sub (pe_ix ix_tup (pv 1) (pv 3) (fun _ _ => rfl)) (pe_ix ix_tup (pv 2) (pv 3) (fun _ _ => rfl))) pe_int) pa_nil)))) pa_nil))))))), ?_⟩
    refine ⟨.ref a, rfl, .ref t, rfl, t, _, rfl, .inr (.inl (.inl et)), a, _, _, rfl, pa, by rw [List.length_map]; omega, by rw [List.length_map]; exact len_bd l12, by omega, fun n H1 b1 p1 n0 n1 => ?_⟩
    rw [List.length_map] at n1
    obtain ⟨n, rfl⟩ : ∃ m : Nat, n = m := ⟨n.toNat, by omega⟩
    have hn : n < tops.length := by omega
    have hs : n < st.length := by rw [S.len]; exact hn
    have ht := pl tops[n] (List.getElem_mem hn)
    have hv := S.pl st[n] (List.getElem_mem hs)
    have hle := S.le n _ _ (List.getElem?_eq_getElem hs) (List.getElem?_eq_getElem hn)
    refine ⟨.ref a, rfl, a, 2, _, rfl, p1, by decide, by decide, by omega, fun z H2 b2 p2 z0 z1 => ⟨rfl, _, rfl, ite2 (fun _ => ?_) (fun _ => ?_)⟩⟩
    · have k2 := (Keep.but b1 pa).trans (Keep.but b2 p1)
      refine ⟨.int n, rfl, .ref a, rfl, .ref s', rfl, .int n, rfl, s', _, n, _, rfl, rfl, .inl (.inl (k2.tup S.at')), at_int hs, _, 1, rfl, rfl, a, _, _, rfl, p2, by omega, top_bd hv.2, by omega, fun d H3 b3 p3 d0 d1 => ?_⟩
      refine ⟨(show 3 ≤ sizeLine by decide), fun p np => ?_⟩
      have npa : p ≠ a := p3.ne np
      have bA := (b1.trans b2).trans b3
      exact q _ p (n, true, d) (but_new bA (bA.free npa np)) (pot_upd (p3.mono (by omega)) npa) upd_same ⟨tops[n], List.getElem?_eq_getElem hn, d0, by show d ≤ tops[n]; omega⟩ (inB_from hs (by omega))
    · have k2 := (Keep.but b1 pa).trans (Keep.but b2 p1)
      refine ⟨.int n, rfl, .ref s', rfl, .int n, rfl, s', _, n, _, rfl, rfl, .inl (.inl (k2.tup S.at')), at_int hs, .ref a, rfl, .ref t, rfl, .int n, rfl, t, _, n, _, rfl, rfl, .inl (.inl (k2.tup et)), at_int hn, .ref s', rfl, .int n, rfl, s', _, n, _, rfl, rfl, .inl (.inl (k2.tup S.at')), at_int hs, _, _, rfl, rfl, _, 1, rfl, rfl, a, _, _, rfl, p2, by omega, top_bd (by omega), by omega, fun d H3 b3 p3 d0 d1 => ?_⟩
      refine ⟨_, d, rfl, rfl, (show 3 ≤ sizeLine by decide), fun p np => ?_⟩
      have npa : p ≠ a := p3.ne np
      have bA := (b1.trans b2).trans b3
      exact q _ p (n, false, st[n] + d) (but_new bA (bA.free npa np)) (pot_upd (p3.mono (by omega)) npa) upd_same ⟨tops[n], List.getElem?_eq_getElem hn, by show 0 ≤ st[n] + d; omega, by show st[n] + d ≤ tops[n]; omega⟩ (inB_to hs (by omega))

def spRulesL : Sp := fun vs H Q _ => ∃ (a t o1 o2 : Addr) (tops st1 st2 : List Int) (m : Int) (c : Nat), vs = [.ref a, .ref t, .ref o1, .ref o2, .int m] ∧ PotAt H a c ∧ H t = some (.tup (tops.map V.int)) ∧ Pl tops ∧ 1 ≤ tops.length ∧ tops.length ≤ 12 ∧ Std tops H o1 st1 ∧ Std tops H o2 st2 ∧ 0 ≤ m ∧ m ≤ 16 ∧ c < 800000 ∧
  ∀ H' R rs, But a H H' → PotAt H' a (c + 112) → RulesAt H' R rs → (rs.length : Int) ≤ m → (∀ q ∈ rs, RuleOk tops q ∧ kept st1 q = true ∧ kept st2 q = true) → Q (.ref R) H'
theorem ok_rulesL {f fT fS : Addr} {fd fdT fdS : FuncData} {k : Nat} (F : Fun K "_law_rules" "_law_rules" aRules f fd) (T : Kn P w K mg base 1 "_law_take" ["_law_pot_here", "_law_many"] spTake fT fdT)
    (S : Kn P w K mg base 2 "_law_side_in" ["_law_pot_here", "_law_tops", "_law_standing_here"] spSideIn fS fdS) (mr : mg "range" = none) (mt : mg "tuple" = none) : FnOk P w K mg base CX0 (k + 3) f fd ["_law_pot_here", "_law_tops", "_law_one", "_law_two", "_law_many"] spRulesL := by
  refine F.ok scRulesL (fun vs H Q E h => ?_) (fun cdv A outer s H vs Q E hr h => ?_)
  · obtain ⟨a, t, o1, o2, tops, st1, st2, m, c, rfl, _⟩ := h
    rfl
  · obtain ⟨a, t, o1, o2, tops, st1, st2, m, c, rfl, pa, et, pl, l1, l12, S1, S2, m0, m16, hc, q⟩ := h
    refine ⟨_, pss_cons (ps_set (i := 5) scRulesL.nd rfl (.inl rfl) (pe_lst pa_nil))
      (pss_cons (ps_for PassesOwn.never rfl (pi_range1 (by rfl) mr (pa_cons (pv 4) pa_nil)) (pg_name (i := 6) scRulesL.nd rfl (.inl rfl))
        (pss_cons (ps_set (i := 7) scRulesL.nd rfl (.inl rfl) (pe_tup (pa_cons (pe_kn S hr (by omega) (pa_cons (pv 0) (pa_cons (pv 1) (pa_cons (pv 2) pa_nil)))) (pa_cons (pe_kn S hr (by omega) (pa_cons (pv 0) (pa_cons (pv 1) (pa_cons (pv 3) pa_nil)))) pa_nil))))
        (pss_one (ps_expr (pe_bm PySem.F.plainAttrs_list PySem.F.slot_list_append PySem.F.type_list_append mt_append (pv 5) (pa_cons (pe_ifExp (pt_cmpR op_eq (pe_kn T hr (by omega) (pa_cons (pv 0) (pa_cons pe_int pa_nil))) pe_int (nomark _)) (pe_revT (pv 7)) (pv 7)) pa_nil))))))
      (pss_one (ps_ret (pe_callTy call_tuple_of (by rfl) mt (by decide +kernel) (pa_cons (pv 5) pa_nil))))), ?_⟩
    refine ⟨Nat.zero_le _, fun l nl => ?_⟩
    have nla : l ≠ a := pa.ne nl
    refine ⟨.int m, rfl, m, rfl, by omega, by omega, for_it walk_range (fun i σ H' => (∃ u v, σ = [some (.ref a), some (.ref t), some (.ref o1), some (.ref o2), some (.int m), some (.ref l), u, v]) ∧ But a H H' ∧ PotAt H' a (c + 7 * i) ∧ ∃ (as : List Addr) (rs : List Rl), H' l = some (.lst (as.map V.ref)) ∧ as.length = i ∧ as.length = rs.length ∧ (∀ (j : Nat) (r : Addr) (q : Rl), as[j]? = some r → rs[j]? = some q → RuleAt H' r q) ∧ ∀ q ∈ rs, RuleOk tops q ∧ kept st1 q = true ∧ kept st2 q = true)
      ⟨⟨none, none, rfl⟩, but_new (fun _ _ _ e => e) nl, pot_upd pa nla, [], [], upd_same, rfl, rfl, fun j r q h => by simp at h, fun _ h => absurd h List.not_mem_nil⟩ (fun _ _ _ _ _ => trivial) (fun i v σ H2 H3 hi p y => ?_) (fun σ H2 p => ?_)⟩
    · obtain ⟨⟨u, v', rfl⟩, b2, p2, as, rs, el2, li, la, ra, rok⟩ := p
      obtain ⟨rfl, rfl⟩ := y
      have i16 : i < 16 := by omega
      have k2 := Keep.but b2 pa
      refine ⟨.ref a, rfl, .ref t, rfl, .ref o1, rfl, a, t, o1, tops, st1, _, rfl, p2, k2.tup et, pl, l1, l12, S1.keep k2, by omega, fun H4 x1 s1 b4 p4 e1 ok1 in1 => ?_⟩
      have k4 := k2.trans (Keep.but b4 p2)
      refine ⟨.ref a, rfl, .ref t, rfl, .ref o2, rfl, a, t, o2, tops, st2, _, rfl, p4, k4.tup et, pl, l1, l12, S2.keep k4, by omega, fun H5 x2 s2 b5 p5 e2 ok2 in2 => ?_⟩
      refine ⟨(show 2 ≤ sizeLine by decide), fun g ng => ?_⟩
      have nga : g ≠ a := p5.ne ng
      have p6 := pot_upd (o := .tup [.ref x1, .ref x2]) p5 nga
      have e1' := e1.keep (Keep.but b5 p4)
      have b06 : But a H3 (upd H5 g (.tup [.ref x1, .ref x2])) := (b4.trans b5).trans (But.of (same_new ng))
      have k56 : Keep H5 (upd H5 g (.tup [.ref x1, .ref x2])) := .same (same_new ng)
      have e1'' := e1'.keep k56
      have e2'' := e2.keep k56
      have eg6 : (upd H5 g (.tup [.ref x1, .ref x2])) g = some (.tup [.ref x1, .ref x2]) := upd_same
      generalize (upd H5 g (.tup [.ref x1, .ref x2])) = H6 at p6 b06 e1'' e2'' eg6 ⊢
      have el6 : H6 l = some (.lst (as.map V.ref)) := b06 _ _ nla el2
      refine ⟨.ref l, rfl, .inl ⟨rfl, _, .inl (.inl el6)⟩, .ref a, rfl, a, 2, _, rfl, p6, by decide, by decide, by omega, fun z H7 b7 p7 z0 z1 => ⟨rfl, _, rfl, ite2 (fun _ => ?_) (fun _ => ?_)⟩⟩
      · have k7 := Keep.but b7 p6
        have b37 := b06.trans b7
        refine ⟨.ref g, rfl, g, _, rfl, .inl (.inl (k7.tup eg6)), fun r nr => ?_⟩
        have nra : r ≠ a := p7.ne nr
        have el7 : H7 l = some (.lst (as.map V.ref)) := b37 _ _ nla el2
        have nlr : l ≠ r := ne_of_none el7 nr
        have el8 : (upd H7 r (.tup [V.ref x1, V.ref x2].reverse)) l = some (.lst (as.map V.ref)) := (upd_ne nlr).trans el7
        have bH := (b2.trans b37)
        refine ⟨l, _, _, rfl, rfl, el8, by rw [List.length_map]; exact small1000 (by omega), ⟨_, _, rfl⟩, but_new (but_new bH (bH.free nra nr)) nl, pot_upd (pot_upd (p7.mono (by omega)) nra) nla, as ++ [r], rs ++ [(s2, s1)], ?_, by rw [List.length_append, li]; rfl, by rw [List.length_append, List.length_append, la]; rfl, ?_, fun y hy => ?_⟩
        · rw [upd_same, List.map_append]
          rfl
        · have k78 : Keep H7 (upd (upd H7 r (.tup [V.ref x1, V.ref x2].reverse)) l (.lst (as.map V.ref ++ [.ref r]))) := (Keep.same (same_new nr)).trans (.upd el8)
          refine rules_snoc la ra (((Keep.but b37 p2)).trans k78) ⟨x2, x1, ?_, (e2''.keep k7).keep k78, (e1''.keep k7).keep k78⟩
          rw [upd_ne nlr.symm, upd_same]
          rfl
        · rcases List.mem_append.mp hy with h | h
          · exact rok y h
          · rw [List.mem_singleton.mp h]
            refine ⟨⟨ok2, ok1⟩, ?_, ?_⟩
            · show (inB st1 s2 || inB st1 s1) = true
              rw [in1, Bool.or_true]
            · show (inB st2 s2 || inB st2 s1) = true
              rw [in2, Bool.true_or]
      · have k7 := Keep.but b7 p6
        have b37 := b06.trans b7
        have el7 : H7 l = some (.lst (as.map V.ref)) := b37 _ _ nla el2
        have bH := (b2.trans b37)
        refine ⟨.ref g, rfl, l, _, _, rfl, rfl, el7, by rw [List.length_map]; exact small1000 (by omega), ⟨_, _, rfl⟩, but_new bH nl, pot_upd (p7.mono (by omega)) nla, as ++ [g], rs ++ [(s1, s2)], ?_, by rw [List.length_append, li]; rfl, by rw [List.length_append, List.length_append, la]; rfl, ?_, fun y hy => ?_⟩
        · rw [upd_same, List.map_append]
          rfl
        · have k78 : Keep H7 (upd H7 l (.lst (as.map V.ref ++ [.ref g]))) := .upd el7
          exact rules_snoc la ra (((Keep.but b37 p2)).trans k78) ⟨x1, x2, (k7.trans k78).tup eg6, (e1''.keep k7).keep k78, (e2''.keep k7).keep k78⟩
        · rcases List.mem_append.mp hy with h | h
          · exact rok y h
          · rw [List.mem_singleton.mp h]
            refine ⟨⟨ok1, ok2⟩, ?_, ?_⟩
            · show (inB st1 s1 || inB st1 s2) = true
              rw [in1, Bool.true_or]
            · show (inB st2 s1 || inB st2 s2) = true
              rw [in2, Bool.or_true]
    · obtain ⟨⟨u, v', rfl⟩, b2, p2, as, rs, el2, li, la, ra, rok⟩ := p
      refine ⟨.ref l, rfl, l, _, rfl, .inl ⟨.inl (.inl el2), fun R nR => ?_⟩⟩
      have nRa : R ≠ a := p2.ne nR
      exact q _ R rs (but_new b2 (b2.free nRa nR)) (pot_upd (p2.mono (by omega)) nRa) ⟨as, upd_same, la, fun j r q h1 h2 => (ra j r q h1 h2).keep (.same (same_new nR))⟩ (by omega) rok

end
end K16

set_option Elab.async false
set_option linter.all false
set_option maxRecDepth 100000
namespace K16
open PySem PySem.Spec PyProof.Rows L2 NB

abbrev aBtw : Stmt := topS 71
abbrev aPlan : Stmt := topS 72
abbrev nBtw : List Str := ["_law_pot_here", "_law_tops", "_law_one", "_law_two", "_law_going", "_law_i", "_law_j", "_law_near", "_law_further", "_law_leaving", "_law_coming", "_law_thing"]
abbrev nPlan : List Str := ["_law_pot_here", "_law_tops", "_law_many", "_law_one", "_law_two", "_law_found", "_law_goal", "_law_turn", "_law_rule"]
theorem scBtw : FnScope nBtw ["_law_pot_here", "_law_tops", "_law_one", "_law_two"] (defScope aBtw) := ⟨rfl, rfl, rfl, by decide +kernel, rfl, by decide +kernel, by decide +kernel⟩
theorem scPlanL : FnScope nPlan ["_law_pot_here", "_law_tops", "_law_many"] (defScope aPlan) := ⟨rfl, rfl, rfl, by decide +kernel, rfl, by decide +kernel, by decide +kernel⟩
theorem eqv_nilL (xs : List Int) : PyData.eqv (.list (xs.map PyData.int)) (.list []) = decide (xs = []) := by
  have := eqv_ints xs []
  simp only [PyData.eqv]
  exact this
theorem shaped_ints_l (xs : List Int) : SeqAt.shaped (.list (xs.map PyData.int)) = true := by
  unfold SeqAt.shaped
  simp only [PyData.canLay0, lay_ints, PyData.depth, depth_ints, Bool.true_and]
  decide

section
variable {P : Program} {w : World} {K : PySem.W.Frag} {mg : Str → Option Value} {base : Heap}

def Few (xs : List Int) : Prop := ∀ x ∈ xs, 0 ≤ x ∧ x ≤ 3
theorem Few.pl {xs : List Int} (h : Few xs) : Pl xs := fun x hx => ⟨(h x hx).1, Int.lt_of_le_of_lt (h x hx).2 (by decide)⟩
def spBtw : Sp := fun vs H Q _ => ∃ (a t o1 o2 : Addr) (tops st1 st2 : List Int) (c : Nat), vs = [.ref a, .ref t, .ref o1, .ref o2] ∧ PotAt H a c ∧ H t = some (.tup (tops.map V.int)) ∧ Pl tops ∧ 1 ≤ tops.length ∧ tops.length ≤ 12 ∧ Std tops H o1 st1 ∧ Std tops H o2 st2 ∧ c < 900000 ∧
  (∀ H', But a H H' → PotAt H' a (c + 5) → Q .non H') ∧ ∀ H' r rl, But a H H' → PotAt H' a (c + 5) → RuleAt H' r rl → RuleOk tops rl → kept st1 rl = true → kept st2 rl = true → Q (.ref r) H'
set_option maxHeartbeats 4000000 in
theorem ok_btw {f fT fO : Addr} {fd fdT fdO : FuncData} {k : Nat} (F : Fun K "_law_between_rule" "_law_between_rule" aBtw f fd) (T : Kn P w K mg base 1 "_law_take" ["_law_pot_here", "_law_many"] spTake fT fdT)
    (O : Kn P w K mg base 2 "_law_of" ["_law_pot_here", "_law_some"] (spOf K) fO fdO) (mr : mg "range" = none) (ml : mg "len" = none) (mA : mg "abs" = none) : FnOk P w K mg base CX0 (k + 3) f fd ["_law_pot_here", "_law_tops", "_law_one", "_law_two"] spBtw := by
  refine F.ok scBtw (fun vs H Q E h => ?_) (fun cdv A outer s H vs Q E hr h => ?_)
  · obtain ⟨a, t, o1, o2, tops, st1, st2, c, rfl, _⟩ := h
    rfl
  · obtain ⟨a, t, o1, o2, tops, st1, st2, c, rfl, pa, et, pl, l1, l12, S1, S2, hc, q1, q2⟩ := h
    refine ⟨_, pss_cons (ps_setLc (i := 4) (own := [("_law_thing", 11)]) (g := gName 11) (tt := tTest (tOp rNe (tOp (rIxT K) (tVar 2) (tVar 11)) (tOp (rIxT K) (tVar 3) (tVar 11)))) (te := tVar 11) rfl scBtw.nd rfl rfl (sw_true rfl rfl rfl (by decide +kernel)) (pi_range1 (by rfl) mr (pa_cons (pe_callB call_len_seq (by rfl) ml PySem.boot_len (pa_cons (pv 1) pa_nil)) pa_nil)) (blkOk_by (N := nBtw) (sc := defScope aBtw) (by decide +kernel))
            (fun _ _ _ _ _ => pg_name (i := 11) scBtw.nd rfl (.inl rfl) (hf := .inr rfl)) (fun _ _ _ _ _ => pts_one (pt_cmpR (r := rNe) op_ne (pe_ix (r := rIxT K) ix_tup (pv 2) (pv 11) (fun _ _ => rfl)) (pe_ix (r := rIxT K) ix_tup (pv 3) (pv 11) (fun _ _ => rfl)) (nomark _))) (fun _ _ _ _ _ => pv 11))
      (pss_cons (ps_if (pt_cmpR (op_eqD hr.units) (pv 4) (pe_lst pa_nil) (nomark _)) (pss_one (ps_ret pe_non)) pss_nil)
      (pss_cons (ps_par (i := 5) (j := 6) (by rfl) scBtw.nd rfl rfl (by decide) rfl rfl (pa_cons (pe_kn O hr (by omega) (pa_cons (pv 0) (pa_cons (pv 4) pa_nil))) (pa_cons (pe_kn O hr (by omega) (pa_cons (pv 0) (pa_cons (pv 4) pa_nil))) pa_nil)) (by rfl))
      (pss_cons (ps_set (i := 7) scBtw.nd rfl (.inl rfl) (pe_kn T hr (by omega) (pa_cons (pv 0) (pa_cons (pe_callB call_abs (by rfl) mA (by decide +kernel) (pa_cons (pe_op op_sub (pe_ix ix_tup (pv 3) (pv 5) (fun _ _ => rfl)) (pe_ix ix_tup (pv 2) (pv 5) (fun _ _ => rfl))) pa_nil)) pa_nil))))
      (pss_cons (ps_set (i := 8) scBtw.nd rfl (.inl rfl) (pe_op op_add pe_int (pe_kn T hr (by omega) (pa_cons (pv 0) (pa_cons (pe_callB call_abs (by rfl) mA (by decide +kernel) (pa_cons (pe_op op_sub (pe_ix ix_tup (pv 3) (pv 6) (fun _ _ => rfl)) (pe_ix ix_tup (pv 2) (pv 6) (fun _ _ => rfl))) pa_nil)) pa_nil)))))
      (pss_cons (ps_par (i := 9) (j := 10) (by rfl) scBtw.nd rfl rfl (by decide) rfl rfl (pa_cons (pe_tup (pa_cons (pv 5) (pa_cons pe_str (pa_cons (pe_op op_sub (pe_ix ix_tup (pv 2) (pv 5) (fun _ _ => rfl)) (pv 7)) pa_nil)))) (pa_cons (pe_tup (pa_cons (pv 6) (pa_cons pe_str (pa_cons (pe_op op_sub (pe_ix ix_tup (pv 2) (pv 6) (fun _ _ => rfl)) (pv 8)) pa_nil)))) pa_nil)) (by rfl))
      (pss_cons (ps_if (pt_cmpR op_gt (pe_ix ix_tup (pv 3) (pv 5) (fun _ _ => rfl)) (pe_ix ix_tup (pv 2) (pv 5) (fun _ _ => rfl)) (nomark _)) (pss_one (ps_set (i := 9) scBtw.nd rfl (.inl rfl) (pe_tup (pa_cons (pv 5) (pa_cons pe_str (pa_cons (pe_op op_add (pe_ix ix_tup (pv 2) (pv 5) (fun _ _ => rfl)) (pv 7)) pa_nil)))))) pss_nil)
      (pss_cons (ps_if (pt_cmpR op_gt (pe_ix ix_tup (pv 3) (pv 6) (fun _ _ => rfl)) (pe_ix ix_tup (pv 2) (pv 6) (fun _ _ => rfl)) (nomark _)) (pss_one (ps_set (i := 10) scBtw.nd rfl (.inl rfl) (pe_tup (pa_cons (pv 6) (pa_cons pe_str (pa_cons (pe_op op_add (pe_ix ix_tup (pv 2) (pv 6) (fun _ _ => rfl)) (pv 8)) pa_nil)))))) pss_nil)
      (pss_one (ps_ret (pe_ifExp (pt_cmpR op_eq (pe_kn T hr (by omega) (pa_cons (pv 0) (pa_cons pe_int pa_nil))) pe_int (nomark _)) (pe_tup (pa_cons (pv 9) (pa_cons (pv 10) pa_nil))) (pe_tup (pa_cons (pv 10) (pa_cons (pv 9) pa_nil))))))))))))), ?_⟩
    refine ⟨.ref t, rfl, t, _, rfl, .inr (.inl (.inl et)), _, rfl, by omega, by rw [List.length_map]; omega, fun D nD => lc_it walk_range (fun i H' => Same H H' ∧ ∃ gs : List Int, H' D = some (.lst (gs.map V.int)) ∧ gs.length ≤ i ∧ ∀ g ∈ gs, ∃ n : Nat, g = n ∧ n < tops.length ∧ st1[n]? ≠ st2[n]?)
      ⟨same_new nD, [], upd_same, Nat.le_refl _, fun _ h => absurd h List.not_mem_nil⟩ (fun _ _ _ _ => trivial) (fun i v H1 H2 hi p y => ?_) (fun H1 p => ?_)⟩
    · obtain ⟨s1, gs, eD, lg, hg⟩ := p
      obtain ⟨rfl, rfl⟩ := y
      rw [List.length_map] at hi
      have hi' : i < tops.length := by omega
      have h1 : i < st1.length := by rw [S1.len]; exact hi'
      have h2 : i < st2.length := by rw [S2.len]; exact hi'
      refine ⟨rfl, _, rfl, _, rfl, o1, _, (i : Int), _, rfl, by show V.int (0 + (i : Int)) = _; rw [Int.zero_add], .inl (.inl (s1 _ _ S1.at')), at_int h1, _, rfl, _, rfl, o2, _, (i : Int), _, rfl, by show V.int (0 + (i : Int)) = _; rw [Int.zero_add], .inl (.inl (s1 _ _ S2.at')), at_int h2, rfl, _, rfl, ?_⟩
      by_cases e : V.int st1[i] = V.int st2[i]
      · refine iteNS e ⟨s1, gs, eD, by omega, hg⟩
      · rw [decide_eq_false e]
        refine iteT ⟨_, rfl, _, eD, by rw [List.length_map]; exact small1000 (by omega), same_over s1 nD, gs ++ [(i : Int)], ?_, by rw [List.length_append]; show gs.length + 1 ≤ i + 1; omega, fun y hy => ?_⟩
        · rw [upd_same, List.map_append]
          show some (HO.lst (gs.map V.int ++ [V.int (0 + (i : Int))])) = _
          rw [Int.zero_add]
          rfl
        · rcases List.mem_append.mp hy with h | h
          · exact hg y h
          · rw [List.mem_singleton.mp h]
            refine ⟨i, rfl, hi', fun z => e ?_⟩
            rw [List.getElem?_eq_getElem h1, List.getElem?_eq_getElem h2] at z
            rw [Option.some.inj z]
    obtain ⟨s1, gs, eD, lg, hg⟩ := p
    have nDa : D ≠ a := pa.ne nD
    have pa1 := pa.keep s1
    refine ⟨.ref D, rfl, Nat.zero_le _, fun e ne => ?_⟩
    refine ⟨_, _, .lst (.inl (.inl (same_new ne _ _ eD))) (dps _), .lst (.inl (.inl upd_same)) .nil, shaped_ints_l _, rfl, _, rfl, ?_⟩
    rw [eqv_nilL]
    have s2 := s1.trans (same_new (o := .lst []) ne)
    by_cases hgs : gs = []
    · rw [decide_eq_true hgs]
      exact iteT (q1 _ (But.of s2) ((pa.keep s2).mono (by omega)))
    · rw [decide_eq_false hgs]
      refine iteF ?_
      have eD2 := same_new (o := .lst []) ne _ _ eD
      have g1 : 1 ≤ gs.length := by
        cases gs with
        | nil => exact absurd rfl hgs
        | cons _ _ => simp
      rw [List.length_map] at lg
      refine ⟨.ref a, rfl, .ref D, rfl, a, D, _, _, rfl, pa.keep s2, nDa, .inl (.inl (.inl eD2)), by rw [List.length_map]; exact g1, by rw [List.length_map]; omega, by omega, fun v1 H3 hv1 b3 p3 => ?_⟩
      have eD3 : H3 D = some (.lst (gs.map V.int)) := b3 _ _ nDa eD2
      refine ⟨.ref a, rfl, .ref D, rfl, a, D, _, _, rfl, p3, nDa, .inl (.inl (.inl eD3)), by rw [List.length_map]; exact g1, by rw [List.length_map]; omega, by omega, fun v2 H4 hv2 b4 p4 => ⟨_, _, rfl, ?_⟩⟩
      obtain ⟨gi, hgi, rfl⟩ := List.mem_map.mp hv1
      obtain ⟨gj, hgj, rfl⟩ := List.mem_map.mp hv2
      obtain ⟨n, rfl, hn, nen⟩ := hg gi hgi
      obtain ⟨m, rfl, hm, nem⟩ := hg gj hgj
      have n1 : n < st1.length := by rw [S1.len]; exact hn
      have n2 : n < st2.length := by rw [S2.len]; exact hn
      have m1 : m < st1.length := by rw [S1.len]; exact hm
      have m2 : m < st2.length := by rw [S2.len]; exact hm
      have nn : st2[n] ≠ st1[n] := fun z => nen (by rw [List.getElem?_eq_getElem n1, List.getElem?_eq_getElem n2, z])
      have mm : st2[m] ≠ st1[m] := fun z => nem (by rw [List.getElem?_eq_getElem m1, List.getElem?_eq_getElem m2, z])
      have bn1 := S1.pl st1[n] (List.getElem_mem n1)
      have bn2 := S2.pl st2[n] (List.getElem_mem n2)
      have bm1 := S1.pl st1[m] (List.getElem_mem m1)
      have bm2 := S2.pl st2[m] (List.getElem_mem m2)
      have tn1 := S1.le n _ _ (List.getElem?_eq_getElem n1) (List.getElem?_eq_getElem hn)
      have tn2 := S2.le n _ _ (List.getElem?_eq_getElem n2) (List.getElem?_eq_getElem hn)
      have tm1 := S1.le m _ _ (List.getElem?_eq_getElem m1) (List.getElem?_eq_getElem hm)
      have tm2 := S2.le m _ _ (List.getElem?_eq_getElem m2) (List.getElem?_eq_getElem hm)
      have ab : ∀ u v : Int, u ≠ v → 0 ≤ u ∧ u < 10 ^ 30 → 0 ≤ v ∧ v < 10 ^ 30 → 1 ≤ (if u - v < 0 then -(u - v) else u - v) ∧ (if u - v < 0 then -(u - v) else u - v) < 2 ^ 200 := fun u v h hu hv => by
        have big : (10 : Int) ^ 30 < 2 ^ 200 := by decide
        split <;> omega
      have b04 : But a H H4 := (But.of s2).trans (b3.trans b4)
      have k4 := Keep.but b04 pa
      refine ⟨.ref a, rfl, .ref o2, rfl, .int n, rfl, o2, _, n, _, rfl, rfl, .inl (.inl (k4.tup S2.at')), at_int n2, .ref o1, rfl, .int n, rfl, o1, _, n, _, rfl, rfl, .inl (.inl (k4.tup S1.at')), at_int n1, _, _, rfl, rfl, _, rfl, a, _, _, rfl, p4, (ab _ _ nn bn2 bn1).1, (ab _ _ nn bn2 bn1).2, by omega, fun d H5 b5 p5 d0 d1 => ?_⟩
      have b05 := b04.trans b5
      have k5 := Keep.but b05 pa
      refine ⟨.ref a, rfl, .ref o2, rfl, .int m, rfl, o2, _, m, _, rfl, rfl, .inl (.inl (k5.tup S2.at')), at_int m2, .ref o1, rfl, .int m, rfl, o1, _, m, _, rfl, rfl, .inl (.inl (k5.tup S1.at')), at_int m1, _, _, rfl, rfl, _, rfl, a, _, _, rfl, p5, (ab _ _ mm bm2 bm1).1, (ab _ _ mm bm2 bm1).2, by omega, fun g H6 b6 p6 g0 g1' => ?_⟩
      have b06 := b05.trans b6
      have k6 := Keep.but b06 pa
      have e16 := k6.tup S1.at'
      have e26 := k6.tup S2.at'
      refine ⟨1, g, rfl, rfl, .int n, rfl, .ref o1, rfl, .int n, rfl, o1, _, n, _, rfl, rfl, .inl (.inl e16), at_int n1, .int d, rfl, _, _, rfl, rfl, (show 3 ≤ sizeLine by decide), fun x nx => ?_⟩
      have s7 : Same H6 (upd H6 x (.tup [.int n, .str "from", .int (st1[n] - d)])) := same_new nx
      refine ⟨.int m, rfl, .ref o1, rfl, .int m, rfl, o1, _, m, _, rfl, rfl, .inl (.inl (s7 _ _ e16)), at_int m1, _, rfl, _, _, rfl, rfl, (show 3 ≤ sizeLine by decide), fun y ny => ⟨_, _, rfl, ?_⟩⟩
      have s8 := s7.trans (same_new (o := .tup [.int m, .str "to", .int (st1[m] - (1 + g))]) ny)
      have ex8 : (upd (upd H6 x (.tup [.int n, .str "from", .int (st1[n] - d)])) y (.tup [.int m, .str "to", .int (st1[m] - (1 + g))])) x = some (.tup [.int n, .str "from", .int (st1[n] - d)]) := same_new ny _ _ upd_same
      have ey8 : (upd (upd H6 x (.tup [.int n, .str "from", .int (st1[n] - d)])) y (.tup [.int m, .str "to", .int (st1[m] - (1 + g))])) y = some (.tup [.int m, .str "to", .int (st1[m] - (1 + g))]) := upd_same
      generalize (upd (upd H6 x (.tup [.int n, .str "from", .int (st1[n] - d)])) y (.tup [.int m, .str "to", .int (st1[m] - (1 + g))])) = H8 at s8 ex8 ey8 ⊢
      have b08 := b06.trans (But.of s8)
      have p8 := p6.keep s8
      -- what comes last
      have last : ∀ (H9 : Hp) (x' y' : Addr) (u v : Sd) (n9 : L2.St), But a H H9 → PotAt H9 a (c + 4) → SideAt H9 x' u → SideAt H9 y' v → SideOk tops u → SideOk tops v → inB st1 u = true → inB st2 v = true → n9[0]? = some (some (.ref a)) → n9[9]? = some (some (.ref x')) → n9[10]? = some (some (.ref y')) →
          tIf (tTest (tOp rEq (tCall spTake [] E0 (tCons (tVar 0) (tCons (tC (.int 2)) tNil))) (tC (.int 0)))) (tTup (tCons (tVar 9) (tCons (tVar 10) tNil))) (tTup (tCons (tVar 10) (tCons (tVar 9) tNil))) n9 H9 Q := fun H9 x' y' u v n9 b9 p9 eu ev ou ov iu iv i0 i9 i10 => by
        refine ⟨.ref a, i0, a, 2, _, rfl, p9, by decide, by decide, by omega, fun z H10 b10 p10 z0 z1 => ⟨rfl, _, rfl, ite2 (fun _ => ?_) (fun _ => ?_)⟩⟩
        · refine ⟨.ref x', i9, .ref y', i10, (show 2 ≤ sizeLine by decide), fun r nr => ?_⟩
          have nra : r ≠ a := p10.ne nr
          have b0 := b9.trans b10
          have k10 := (Keep.but b10 p9).trans (.same (same_new (o := .tup [.ref x', .ref y']) nr))
          exact q2 _ r (u, v) (but_new b0 (b0.free nra nr)) (pot_upd (p10.mono (by omega)) nra) ⟨x', y', upd_same, eu.keep k10, ev.keep k10⟩ ⟨ou, ov⟩ (by show (inB st1 u || inB st1 v) = true; rw [iu, Bool.true_or]) (by show (inB st2 u || inB st2 v) = true; rw [iv, Bool.or_true])
        · refine ⟨.ref y', i10, .ref x', i9, (show 2 ≤ sizeLine by decide), fun r nr => ?_⟩
          have nra : r ≠ a := p10.ne nr
          have b0 := b9.trans b10
          have k10 := (Keep.but b10 p9).trans (.same (same_new (o := .tup [.ref y', .ref x']) nr))
          exact q2 _ r (v, u) (but_new b0 (b0.free nra nr)) (pot_upd (p10.mono (by omega)) nra) ⟨y', x', upd_same, ev.keep k10, eu.keep k10⟩ ⟨ov, ou⟩ (by show (inB st1 v || inB st1 u) = true; rw [iu, Bool.or_true]) (by show (inB st2 v || inB st2 u) = true; rw [iv, Bool.true_or])
      refine ⟨.ref o2, rfl, .int n, rfl, o2, _, n, _, rfl, rfl, .inl (.inl (s8 _ _ e26)), at_int n2, .ref o1, rfl, .int n, rfl, o1, _, n, _, rfl, rfl, .inl (.inl (s8 _ _ e16)), at_int n1, _, _, rfl, rfl, _, rfl, ite2 (fun c1 => ?_) (fun c1 => ?_)⟩
      · have c1' := of_decide_eq_true c1
        refine ⟨.int n, rfl, .ref o1, rfl, .int n, rfl, o1, _, n, _, rfl, rfl, .inl (.inl (s8 _ _ e16)), at_int n1, .int d, rfl, _, _, rfl, rfl, (show 3 ≤ sizeLine by decide), fun x2 nx2 => ?_⟩
        have nx2a : x2 ≠ a := p8.ne nx2
        have s9 : Same H8 (upd H8 x2 (.tup [.int n, .str "to", .int (st1[n] + d)])) := same_new nx2
        have hu : SideOk tops (n, false, st1[n] + d) := ⟨tops[n], List.getElem?_eq_getElem hn, by show 0 ≤ st1[n] + d; omega, by
          show st1[n] + d ≤ tops[n]
          revert d1
          split <;> intro d1 <;> omega⟩
        have iu : inB st1 (n, false, st1[n] + d) = true := inB_to n1 (by omega)
        refine ⟨.ref o2, rfl, .int m, rfl, o2, _, m, _, rfl, rfl, .inl (.inl (s9 _ _ (s8 _ _ e26))), at_int m2, .ref o1, rfl, .int m, rfl, o1, _, m, _, rfl, rfl, .inl (.inl (s9 _ _ (s8 _ _ e16))), at_int m1, _, _, rfl, rfl, _, rfl, ite2 (fun c2 => ?_) (fun c2 => ?_)⟩
        · have c2' := of_decide_eq_true c2
          refine ⟨.int m, rfl, .ref o1, rfl, .int m, rfl, o1, _, m, _, rfl, rfl, .inl (.inl (s9 _ _ (s8 _ _ e16))), at_int m1, _, rfl, _, _, rfl, rfl, (show 3 ≤ sizeLine by decide), fun y2 ny2 => ?_⟩
          have s10 := same_new (o := .tup [.int m, .str "from", .int (st1[m] + (1 + g))]) ny2
          refine last _ x2 y2 (n, false, st1[n] + d) (m, true, st1[m] + (1 + g)) _ (b08.trans (But.of (s9.trans s10))) ((p8.keep (s9.trans s10)).mono (by omega)) (s10 _ _ upd_same) upd_same hu ⟨tops[m], List.getElem?_eq_getElem hm, by show 0 ≤ st1[m] + (1 + g); omega, by
            show st1[m] + (1 + g) ≤ tops[m]
            revert g1'
            split <;> intro g1' <;> omega⟩ iu (inB_from m2 (by
            revert g1'
            split <;> intro g1' <;> omega)) rfl rfl rfl
        · have c2' := of_decide_eq_false (Bool.eq_false_iff.mpr c2)
          refine last _ x2 y (n, false, st1[n] + d) (m, false, st1[m] - (1 + g)) _ (b08.trans (But.of s9)) ((p8.keep s9).mono (by omega)) upd_same (s9 _ _ ey8) hu ⟨tops[m], List.getElem?_eq_getElem hm, by
            show 0 ≤ st1[m] - (1 + g)
            revert g1'
            split <;> intro g1' <;> omega, by show st1[m] - (1 + g) ≤ tops[m]; omega⟩ iu (inB_to m2 (by
            revert g1'
            split <;> intro g1' <;> omega)) rfl rfl rfl
      · have c1' := of_decide_eq_false (Bool.eq_false_iff.mpr c1)
        have hu : SideOk tops (n, true, st1[n] - d) := ⟨tops[n], List.getElem?_eq_getElem hn, by
          show 0 ≤ st1[n] - d
          revert d1
          split <;> intro d1 <;> omega, by show st1[n] - d ≤ tops[n]; omega⟩
        have iu : inB st1 (n, true, st1[n] - d) = true := inB_from n1 (by omega)
        refine ⟨.ref o2, rfl, .int m, rfl, o2, _, m, _, rfl, rfl, .inl (.inl (s8 _ _ e26)), at_int m2, .ref o1, rfl, .int m, rfl, o1, _, m, _, rfl, rfl, .inl (.inl (s8 _ _ e16)), at_int m1, _, _, rfl, rfl, _, rfl, ite2 (fun c2 => ?_) (fun c2 => ?_)⟩
        · have c2' := of_decide_eq_true c2
          refine ⟨.int m, rfl, .ref o1, rfl, .int m, rfl, o1, _, m, _, rfl, rfl, .inl (.inl (s8 _ _ e16)), at_int m1, _, rfl, _, _, rfl, rfl, (show 3 ≤ sizeLine by decide), fun y2 ny2 => ?_⟩
          have s10 := same_new (o := .tup [.int m, .str "from", .int (st1[m] + (1 + g))]) ny2
          refine last _ x y2 (n, true, st1[n] - d) (m, true, st1[m] + (1 + g)) _ (b08.trans (But.of s10)) ((p8.keep s10).mono (by omega)) (s10 _ _ ex8) upd_same hu ⟨tops[m], List.getElem?_eq_getElem hm, by show 0 ≤ st1[m] + (1 + g); omega, by
            show st1[m] + (1 + g) ≤ tops[m]
            revert g1'
            split <;> intro g1' <;> omega⟩ iu (inB_from m2 (by
            revert g1'
            split <;> intro g1' <;> omega)) rfl rfl rfl
        · have c2' := of_decide_eq_false (Bool.eq_false_iff.mpr c2)
          refine last _ x y (n, true, st1[n] - d) (m, false, st1[m] - (1 + g)) _ b08 (p8.mono (by omega)) ex8 ey8 hu ⟨tops[m], List.getElem?_eq_getElem hm, by
            show 0 ≤ st1[m] - (1 + g)
            revert g1'
            split <;> intro g1' <;> omega, by show st1[m] - (1 + g) ≤ tops[m]; omega⟩ iu (inB_to m2 (by
            revert g1'
            split <;> intro g1' <;> omega)) rfl rfl rfl
end
end K16

set_option Elab.async false
set_option linter.all false
set_option maxRecDepth 100000
namespace K16
open PySem PySem.Spec PyProof.Rows L2 NB

theorem rules_cat {H : Hp} {as bs : List Addr} {rs ss : List Rl} (la : as.length = rs.length) (f : ∀ (i : Nat) (r : Addr) (q : Rl), as[i]? = some r → rs[i]? = some q → RuleAt H r q) (g : ∀ (i : Nat) (r : Addr) (q : Rl), bs[i]? = some r → ss[i]? = some q → RuleAt H r q) :
    ∀ (i : Nat) (r : Addr) (q : Rl), (as ++ bs)[i]? = some r → (rs ++ ss)[i]? = some q → RuleAt H r q := fun i r q h1 h2 => by
  rcases Nat.lt_or_ge i as.length with c | c
  · rw [List.getElem?_append_left c] at h1
    rw [List.getElem?_append_left (by omega)] at h2
    exact f i r q h1 h2
  · rw [List.getElem?_append_right c] at h1
    rw [List.getElem?_append_right (by omega), ← la] at h2
    exact g _ r q h1 h2
section
variable {P : Program} {w : World} {K : PySem.W.Frag} {mg : Str → Option Value} {base : Heap}
def spPlanL : Sp := fun vs H Q _ => ∃ (a t : Addr) (tops : List Int) (m : Int) (c : Nat), vs = [.ref a, .ref t, .int m] ∧ PotAt H a c ∧ H t = some (.tup (tops.map V.int)) ∧ Pl tops ∧ 1 ≤ tops.length ∧ tops.length ≤ 12 ∧ 0 ≤ m ∧ m ≤ 16 ∧ c < 700000 ∧
  ∀ H' g R o1 o2 st1 st2 rs, But a H H' → PotAt H' a (c + 2000) → H' g = some (.tup [.ref R, .ref o1, .ref o2]) → RulesAt H' R rs → (rs.length : Int) ≤ m → Std tops H' o1 st1 → Std tops H' o2 st2 → (∀ q ∈ rs, RuleOk tops q ∧ kept st1 q = true ∧ kept st2 q = true) → Q (.ref g) H'
theorem ok_planL {f fT fS fB fR : Addr} {fd fdT fdS fdB fdR : FuncData} {k : Nat} (F : Fun K "_law_plan" "_law_plan" aPlan f fd) (T : Kn P w K mg base 1 "_law_take" ["_law_pot_here", "_law_many"] spTake fT fdT) (St : Kn P w K mg base 2 "_law_standing" ["_law_pot_here", "_law_tops"] (spStand K) fS fdS)
    (Bt : Kn P w K mg base 3 "_law_between_rule" ["_law_pot_here", "_law_tops", "_law_one", "_law_two"] spBtw fB fdB) (Ru : Kn P w K mg base 3 "_law_rules" ["_law_pot_here", "_law_tops", "_law_one", "_law_two", "_law_many"] spRulesL fR fdR) (mr : mg "range" = none) (mL : mg "list" = none) (mt : mg "tuple" = none) : FnOk P w K mg base CX0 (k + 4) f fd ["_law_pot_here", "_law_tops", "_law_many"] spPlanL := by
  refine F.ok scPlanL (fun vs H Q E h => ?_) (fun cdv A outer s H vs Q E hr h => ?_)
  · obtain ⟨a, t, tops, m, c, rfl, _⟩ := h
    rfl
  · obtain ⟨a, t, tops, m, c, rfl, pa, et, pl, l1, l12, m0, m16, hc, q⟩ := h
    refine ⟨_, pss_cons (ps_par (i := 3) (j := 4) (by rfl) scPlanL.nd rfl rfl (by decide) rfl rfl (pa_cons (pe_kn St hr (by omega) (pa_cons (pv 0) (pa_cons (pv 1) pa_nil))) (pa_cons (pe_kn St hr (by omega) (pa_cons (pv 0) (pa_cons (pv 1) pa_nil))) pa_nil)) (by rfl))
      (pss_cons (ps_par (i := 5) (j := 6) (by rfl) scPlanL.nd rfl rfl (by decide) rfl rfl (pa_cons (pe_lst pa_nil) (pa_cons (pe_kn T hr (by omega) (pa_cons (pv 0) (pa_cons (pe_op op_add (pv 2) pe_int) pa_nil))) pa_nil)) (by rfl))
      (pss_cons (ps_for PassesOwn.never rfl (pi_range1 (by rfl) mr (pa_cons (pv 6) pa_nil)) (pg_name (i := 7) scPlanL.nd rfl (.inl rfl))
        (pss_cons (ps_set (i := 8) scPlanL.nd rfl (.inl rfl) pe_non)
        (pss_cons (ps_if (pt_cmpR op_eq (pe_kn T hr (by omega) (pa_cons (pv 0) (pa_cons pe_int pa_nil))) pe_int (nomark _)) (pss_one (ps_set (i := 8) scPlanL.nd rfl (.inl rfl) (pe_kn Bt hr (by omega) (pa_cons (pv 0) (pa_cons (pv 1) (pa_cons (pv 3) (pa_cons (pv 4) pa_nil))))))) pss_nil)
        (pss_one (ps_expr (pe_bm PySem.F.plainAttrs_list PySem.F.slot_list_extend PySem.F.type_list_extend mt_extend (pv 5) (pa_cons (pe_ifExp (pt_cmpR op_notN (pv 8) pe_non (nomark _)) (pe_lst (pa_cons (pv 8) pa_nil)) (pe_callTy call_list_of (by rfl) mL (by decide +kernel) (pa_cons (pe_kn Ru hr (by omega) (pa_cons (pv 0) (pa_cons (pv 1) (pa_cons (pv 3) (pa_cons (pv 4) (pa_cons pe_int pa_nil)))))) pa_nil))) pa_nil)))))))
      (pss_one (ps_ret (pe_tup (pa_cons (pe_callTy call_tuple_of (by rfl) mt (by decide +kernel) (pa_cons (pv 5) pa_nil)) (pa_cons (pv 3) (pa_cons (pv 4) pa_nil)))))))), ?_⟩
    refine ⟨.ref a, rfl, .ref t, rfl, a, t, tops, _, rfl, pa, .inl (.inl et), pl, l12, by omega, fun H1 o1 st1 b1 p1 n1 e1 ln1 pl1 le1 => ?_⟩
    have k1 := Keep.but b1 pa
    refine ⟨.ref a, rfl, .ref t, rfl, a, t, tops, _, rfl, p1, .inl (.inl (k1.tup et)), pl, l12, by omega, fun H2 o2 st2 b2 p2 n2 e2 ln2 pl2 le2 => ⟨_, _, rfl, ?_⟩⟩
    have k12 := Keep.but b2 p1
    have S1 : Std tops H2 o1 st1 := Std.keep ⟨e1, ln1, pl1, le1⟩ k12
    have S2 : Std tops H2 o2 st2 := ⟨e2, ln2, pl2, le2⟩
    have et2 := k12.tup (k1.tup et)
    refine ⟨Nat.zero_le _, fun l nl => ?_⟩
    have nla : l ≠ a := p2.ne nl
    have b02 := b1.trans b2
    have nlH : H l = none := b02.free nla nl
    have s3 : Same H2 (upd H2 l (.lst [])) := same_new nl
    refine ⟨.ref a, rfl, .int m, rfl, m, 1, rfl, rfl, a, _, _, rfl, p2.keep s3, by omega, Int.lt_of_le_of_lt (show m + 1 ≤ 17 by omega) (by decide), by omega, fun d H4 b4 p4 d0 d1 => ⟨_, _, rfl, ?_⟩⟩
    have b04 : But a H H4 := (b02.trans (But.of s3)).trans b4
    have k24 : Keep H2 H4 := (Keep.same s3).trans (Keep.but b4 (p2.keep s3))
    have el4 : H4 l = some (.lst (([] : List Addr).map V.ref)) := b4 _ _ nla upd_same
    refine ⟨.int d, rfl, d, rfl, by omega, by omega, for_it walk_range (fun i σ H' => (∃ u7 u8, σ = [some (.ref a), some (.ref t), some (.int m), some (.ref o1), some (.ref o2), some (.ref l), some (.int d), u7, u8]) ∧ But a H H' ∧ (Std tops H' o1 st1 ∧ Std tops H' o2 st2) ∧ PotAt H' a (c + 30 + 118 * i) ∧ ∃ (as : List Addr) (rs : List Rl), H' l = some (.lst (as.map V.ref)) ∧ as.length ≤ i ∧ as.length = rs.length ∧ (∀ (j : Nat) (r : Addr) (q : Rl), as[j]? = some r → rs[j]? = some q → RuleAt H' r q) ∧ ∀ q ∈ rs, RuleOk tops q ∧ kept st1 q = true ∧ kept st2 q = true)
      ⟨⟨none, none, rfl⟩, b04, ⟨S1.keep k24, S2.keep k24⟩, p4.mono (by omega), [], [], el4, Nat.le_refl _, rfl, fun j r q h => by simp at h, fun _ h => absurd h List.not_mem_nil⟩ (fun _ _ _ _ _ => trivial) (fun i v σ H5 H6 hi p y => ?_) (fun σ H5 p => ?_)⟩
    · obtain ⟨⟨u7, u8, rfl⟩, b5, ⟨S1', S2'⟩, p5, as, rs, el, li, la, ra, rok⟩ := p
      obtain ⟨rfl, rfl⟩ := y
      have i16 : i < 16 := by omega
      have k5 := Keep.but b5 pa
      have et5 := k5.tup et
      refine ⟨.ref a, rfl, a, 2, _, rfl, p5, by decide, by decide, by omega, fun z H7 b7 p7 z0 z1 => ⟨rfl, _, rfl, ite2 (fun _ => ?_) (fun _ => ?_)⟩⟩
      · have k7 := Keep.but b7 p5
        refine ⟨.ref a, rfl, .ref t, rfl, .ref o1, rfl, .ref o2, rfl, a, t, o1, o2, tops, st1, st2, _, rfl, p7, k7.tup et5, pl, l1, l12, S1'.keep k7, S2'.keep k7, by omega, fun H8 b8 p8 => ?_, fun H8 r rl b8 p8 er ok kp1 kp2 => ?_⟩
        · have b78 := b7.trans b8
          refine ⟨.ref l, rfl, .inl ⟨rfl, _, .inl (.inl (b78 _ _ nla el))⟩, .non, rfl, rfl, _, rfl, iteNS rfl ?_⟩
          have k8 := Keep.but b78 p5
          refine ⟨.ref a, rfl, .ref t, rfl, .ref o1, rfl, .ref o2, rfl, a, t, o1, o2, tops, st1, st2, 1, _, rfl, p8, k8.tup et5, pl, l1, l12, S1'.keep k8, S2'.keep k8, by decide, by decide, by omega, fun H9 R ss b9 p9 hR lR rk => ?_⟩
          have b59 := b78.trans b9
          have el9 : H9 l = some (.lst (as.map V.ref)) := b59 _ _ nla el
          obtain ⟨as2, eR, la2, f2⟩ := hR
          refine ⟨R, _, rfl, .inr (.inl (.inl eR)), fun l2 nl2 => ?_⟩
          have nl2a : l2 ≠ a := p9.ne nl2
          have nll : l ≠ l2 := ne_of_none el9 nl2
          have el10 : (upd H9 l2 (.lst (as2.map V.ref))) l = some (.lst (as.map V.ref)) := (upd_ne nll).trans el9
          have bH := b5.trans b59
          refine ⟨l, l2, _, _, rfl, rfl, el10, upd_same, by rw [List.length_map, List.length_map]; exact Nat.le_of_lt (small1000 (by omega)), ⟨_, _, rfl⟩, but_new (but_new bH (bH.free nl2a nl2)) nlH, ⟨(S1'.keep (Keep.but b59 p5)).keep ((Keep.same (same_new nl2)).trans (.upd el10)), (S2'.keep (Keep.but b59 p5)).keep ((Keep.same (same_new nl2)).trans (.upd el10))⟩, pot_upd (pot_upd (p9.mono (by omega)) nl2a) nla, as ++ as2, rs ++ ss, ?_, by rw [List.length_append]; omega, by rw [List.length_append, List.length_append, la, la2], ?_, fun y hy => ?_⟩
          · rw [upd_same, List.map_append]
          · have kE : Keep H9 (upd (upd H9 l2 (.lst (as2.map V.ref))) l (.lst (as.map V.ref ++ as2.map V.ref))) := (Keep.same (same_new nl2)).trans (.upd el10)
            exact rules_cat la (fun i r q h1 h2 => (ra i r q h1 h2).keep ((Keep.but b59 p5).trans kE)) (fun i r q h1 h2 => (f2 i r q h1 h2).keep kE)
          · rcases List.mem_append.mp hy with h | h
            · exact rok y h
            · exact rk y h
        · have b78 := b7.trans b8
          have el8 : H8 l = some (.lst (as.map V.ref)) := b78 _ _ nla el
          refine ⟨.ref l, rfl, .inl ⟨rfl, _, .inl (.inl el8)⟩, .ref r, rfl, rfl, _, rfl, ?_⟩
          rw [show decide (V.ref r = V.non) = false from decide_eq_false (fun z => by cases z)]
          refine iteT ⟨.ref r, rfl, (show 1 ≤ sizeLine by decide), fun l2 nl2 => ?_⟩
          have nl2a : l2 ≠ a := p8.ne nl2
          have nll : l ≠ l2 := ne_of_none el8 nl2
          have el10 : (upd H8 l2 (.lst [.ref r])) l = some (.lst (as.map V.ref)) := (upd_ne nll).trans el8
          have bH := b5.trans b78
          refine ⟨l, l2, _, _, rfl, rfl, el10, upd_same, by rw [List.length_map]; exact Nat.le_of_lt (small1000 (show as.length + 1 ≤ 1000 by omega)), ⟨_, _, rfl⟩, but_new (but_new bH (bH.free nl2a nl2)) nlH, ⟨(S1'.keep (Keep.but b78 p5)).keep ((Keep.same (same_new nl2)).trans (.upd el10)), (S2'.keep (Keep.but b78 p5)).keep ((Keep.same (same_new nl2)).trans (.upd el10))⟩, pot_upd (pot_upd (p8.mono (by omega)) nl2a) nla, as ++ [r], rs ++ [rl], ?_, by rw [List.length_append]; show as.length + 1 ≤ i + 1; omega, by rw [List.length_append, List.length_append, la]; rfl, ?_, fun y hy => ?_⟩
          · rw [upd_same, List.map_append]
            rfl
          · have kE : Keep H8 (upd (upd H8 l2 (.lst [.ref r])) l (.lst (as.map V.ref ++ [.ref r]))) := (Keep.same (same_new nl2)).trans (.upd el10)
            exact rules_snoc la ra ((Keep.but b78 p5).trans kE) (er.keep kE)
          · rcases List.mem_append.mp hy with h | h
            · exact rok y h
            · rw [List.mem_singleton.mp h]
              exact ⟨ok, kp1, kp2⟩
      · skip
        refine ⟨.ref l, rfl, .inl ⟨rfl, _, .inl (.inl (b7 _ _ nla el))⟩, .non, rfl, rfl, _, rfl, iteNS rfl ?_⟩
        have k8 := Keep.but b7 p5
        refine ⟨.ref a, rfl, .ref t, rfl, .ref o1, rfl, .ref o2, rfl, a, t, o1, o2, tops, st1, st2, 1, _, rfl, p7, k8.tup et5, pl, l1, l12, S1'.keep k8, S2'.keep k8, by decide, by decide, by omega, fun H9 R ss b9 p9 hR lR rk => ?_⟩
        have b59 := b7.trans b9
        have el9 : H9 l = some (.lst (as.map V.ref)) := b59 _ _ nla el
        obtain ⟨as2, eR, la2, f2⟩ := hR
        refine ⟨R, _, rfl, .inr (.inl (.inl eR)), fun l2 nl2 => ?_⟩
        have nl2a : l2 ≠ a := p9.ne nl2
        have nll : l ≠ l2 := ne_of_none el9 nl2
        have el10 : (upd H9 l2 (.lst (as2.map V.ref))) l = some (.lst (as.map V.ref)) := (upd_ne nll).trans el9
        have bH := b5.trans b59
        refine ⟨l, l2, _, _, rfl, rfl, el10, upd_same, by rw [List.length_map, List.length_map]; exact Nat.le_of_lt (small1000 (by omega)), ⟨_, _, rfl⟩, but_new (but_new bH (bH.free nl2a nl2)) nlH, ⟨(S1'.keep (Keep.but b59 p5)).keep ((Keep.same (same_new nl2)).trans (.upd el10)), (S2'.keep (Keep.but b59 p5)).keep ((Keep.same (same_new nl2)).trans (.upd el10))⟩, pot_upd (pot_upd (p9.mono (by omega)) nl2a) nla, as ++ as2, rs ++ ss, ?_, by rw [List.length_append]; omega, by rw [List.length_append, List.length_append, la, la2], ?_, fun y hy => ?_⟩
        · rw [upd_same, List.map_append]
        · have kE : Keep H9 (upd (upd H9 l2 (.lst (as2.map V.ref))) l (.lst (as.map V.ref ++ as2.map V.ref))) := (Keep.same (same_new nl2)).trans (.upd el10)
          exact rules_cat la (fun i r q h1 h2 => (ra i r q h1 h2).keep ((Keep.but b59 p5).trans kE)) (fun i r q h1 h2 => (f2 i r q h1 h2).keep kE)
        · rcases List.mem_append.mp hy with h | h
          · exact rok y h
          · exact rk y h
    · obtain ⟨⟨u7, u8, rfl⟩, b5, ⟨S1', S2'⟩, p5, as, rs, el, li, la, ra, rok⟩ := p
      refine ⟨.ref l, rfl, l, _, rfl, .inl ⟨.inl (.inl el), fun R nR => ?_⟩⟩
      have nRa : R ≠ a := p5.ne nR
      refine ⟨.ref o1, rfl, .ref o2, rfl, (show 3 ≤ sizeLine by decide), fun g ng => ?_⟩
      have s6 : Same H5 (upd H5 R (.tup (as.map V.ref))) := same_new nR
      have s7 := s6.trans (same_new (o := .tup [.ref R, .ref o1, .ref o2]) ng)
      exact q _ g R o1 o2 st1 st2 rs (b5.trans (But.of s7)) ((p5.keep s7).mono (by omega)) upd_same ⟨as, same_new ng _ _ upd_same, la, fun j r q h1 h2 => (ra j r q h1 h2).keep (.same s7)⟩ (by omega) (S1'.keep (.same s7)) (S2'.keep (.same s7)) rok

end
end K16

set_option Elab.async false
set_option linter.all false
set_option maxRecDepth 100000
/-! xs.insert(k, y), k a place of the list or its end. -/
namespace NB
open PySem PySem.Spec PyProof.Rows L2
section
variable {X : Cx}
def rInsert : V → List V → Hp → VK → Prop := fun x vs H Q => ∃ (l : Addr) (xs : List V) (k : Int) (y : V), x = .ref l ∧ vs = [.int k, y] ∧ H l = some (.lst xs) ∧ 0 ≤ k ∧ k ≤ (xs.length : Int) ∧ k < 1000000 ∧ xs.length < sizeLine ∧ Q .non (upd H l (.lst (xs.take k.toNat ++ y :: xs.drop k.toNat)))
theorem fits {k : Int} (h0 : 0 ≤ k) (h1 : k < 1000000) : Builtin.List.listFitsIndex k = true := by
  unfold Builtin.List.listFitsIndex
  simp
  omega
theorem ins_list (its : List Value) (k : Int) (u : Value) (h0 : 0 ≤ k) (h1 : k ≤ (its.length : Int)) :
    (have j := if k < 0 then (k + (its.toArray.size : Int)).toNat else min k.toNat its.toArray.size; (its.toArray.extract 0 j).push u ++ its.toArray.extract j) = (its.take k.toNat ++ u :: its.drop k.toNat).toArray := by
  show (its.toArray.extract 0 (if k < 0 then (k + (its.toArray.size : Int)).toNat else min k.toNat its.toArray.size)).push u ++ its.toArray.extract (if k < 0 then (k + (its.toArray.size : Int)).toNat else min k.toNat its.toArray.size) = _
  rw [if_neg (by omega), List.size_toArray, Nat.min_eq_left (by omega)]
  simp [List.extract_toArray, List.extract_eq_drop_take]
  exact List.take_of_length_le (by rw [List.length_drop]; exact Nat.le_refl _)
theorem mt_insert : MtM X "list.insert" rInsert := by
  intro pins s σ H x vs v us Q I rx rv h
  obtain ⟨l, xs, k, y, rfl, rfl, hH, h0, hk, hb, hz, q⟩ := h
  cases rx
  obtain ⟨u1, u2, rfl, r1, r2⟩ : ∃ u1 u2, us = [u1, u2] ∧ RelV (.int k) u1 ∧ RelV y u2 := by
    cases rv with
    | cons p q =>
      cases q with
      | cons p' q' =>
        cases q'
        exact ⟨_, _, rfl, p, p'⟩
  obtain ⟨t, rfl⟩ := r1
  obtain ⟨z, its, n, r, hl, e⟩ := I.lstM hH
  have hlen := r.length
  have hf := fits h0 hb
  have h1 : its.toArray.size ≤ sizeLine := by
    rw [List.size_toArray]
    omega
  refine call_meets PySem.F.slot_list_insert ⟨_, e, rfl⟩ PySem.F.entry_list_insert (PySem.F.args_list_insert_3 _ _ _) (PySem.AutoSeq1.list_insert_list_int_val_1 l _ n k t u2 (by simp [hf]) h1) ⟨e, ?_⟩
  refine ⟨.non, _, I.lset (its' := its.take k.toNat ++ u2 :: its.drop k.toNat) hH e (ins_list its k u2 h0 (by omega)) ((r.take k.toNat).append (.cons r2 (r.drop k.toNat))) ?_, rfl, q⟩
  rw [List.length_append, List.length_cons, List.length_take, List.length_drop]
  omega
end
end NB

set_option Elab.async false
set_option linter.all false
set_option maxRecDepth 100000
namespace K16
open PySem PySem.Spec PyProof.Rows L2 NB

/-! ### great plans -/
abbrev aGTops : Stmt := topS 70
abbrev aGreat : Stmt := topS 73
theorem scGTops : FnScope ["_law_pot_here", "_law_some", "_law_found", "_law_thing"] ["_law_pot_here"] (defScope aGTops) := ⟨rfl, rfl, rfl, by decide +kernel, rfl, by decide +kernel, by decide +kernel⟩
theorem scGreat : FnScope ["_law_pot_here", "_law_tops", "_law_rules_here", "_law_one", "_law_two"] ["_law_pot_here"] (defScope aGreat) := ⟨rfl, rfl, rfl, by decide +kernel, rfl, by decide +kernel, by decide +kernel⟩

section
variable {P : Program} {w : World} {K : PySem.W.Frag} {mg : Str → Option Value} {base : Heap}
def spGTops : Sp := fun vs H Q _ => ∃ (a : Addr) (c : Nat), vs = [.ref a] ∧ PotAt H a c ∧ c < 900000 ∧
  ∀ H' p tops, But a H H' → PotAt H' a (c + 60) → H' p = some (.tup (tops.map V.int)) → 2 ≤ tops.length → tops.length ≤ 12 → Pl tops → Q (.ref p) H'
theorem ok_gtops {f fT fO : Addr} {fd fdT fdO : FuncData} {k : Nat} (F : Fun K "_law_great_tops" "_law_great_tops" aGTops f fd) (T : Kn P w K mg base 1 "_law_take" ["_law_pot_here", "_law_many"] spTake fT fdT)
    (O : Kn P w K mg base 2 "_law_of" ["_law_pot_here", "_law_some"] (spOf K) fO fdO) (mr : mg "range" = none) (mt : mg "tuple" = none) : FnOk P w K mg base CX0 (k + 3) f fd ["_law_pot_here"] spGTops := by
  refine F.ok scGTops (fun vs H Q E h => ?_) (fun cdv A outer s H vs Q E hr h => ?_)
  · obtain ⟨a, c, rfl, _⟩ := h
    rfl
  · obtain ⟨a, c, rfl, pa, hc, q⟩ := h
    refine ⟨_, pss_cons (ps_par (i := 1) (j := 2) (by rfl) scGTops.nd rfl rfl (by decide) rfl rfl (pa_cons (pe_lst (pa_cons pe_int (pa_cons pe_int (pa_cons pe_int (pa_cons pe_int (pa_cons (pe_op op_sub (pe_op op_pow pe_int pe_int) pe_int) pa_nil)))))) (pa_cons (pe_lst pa_nil) pa_nil)) (by rfl))
      (pss_cons (ps_for PassesOwn.never rfl (pi_range1 (by rfl) mr (pa_cons (pe_op op_add pe_int (pe_kn T hr (by omega) (pa_cons (pv 0) (pa_cons pe_int pa_nil)))) pa_nil)) (pg_name (i := 3) scGTops.nd rfl (.inl rfl))
        (pss_one (ps_expr (pe_bm PySem.F.plainAttrs_list PySem.F.slot_list_append PySem.F.type_list_append mt_append (pv 2) (pa_cons (pe_kn O hr (by omega) (pa_cons (pv 0) (pa_cons (pe_op op_cat (pv 1) (pe_lst (pa_cons (pe_op op_mul (pe_kn T hr (by omega) (pa_cons (pv 0) (pa_cons (pe_op op_pow pe_int pe_int) pa_nil))) (pe_op op_pow pe_int pe_int)) pa_nil))) pa_nil))) pa_nil)))))
      (pss_one (ps_ret (pe_callTy call_tuple_of (by rfl) mt (by decide +kernel) (pa_cons (pv 2) pa_nil))))), ?_⟩
    refine ⟨10, 30, rfl, rfl, ⟨by decide, by decide, by decide⟩, _, 1, rfl, rfl, (show 5 ≤ sizeLine by decide), fun S nS => ⟨Nat.zero_le _, fun l nl => ⟨_, _, rfl, ?_⟩⟩⟩
    have nSa : S ≠ a := pa.ne nS
    have sS : Same H (upd H S (.lst [.int 0, .int 1, .int 2, .int 9, .int (10 ^ (30 : Int).toNat - 1)])) := same_new nS
    have nla : l ≠ a := (pa.keep sS).ne nl
    have nlH : H l = none := sS.free nl
    have sl := sS.trans (same_new (o := .lst []) nl)
    have eS0 : (upd (upd H S (.lst [.int 0, .int 1, .int 2, .int 9, .int (10 ^ (30 : Int).toNat - 1)])) l (.lst [])) S = some (.lst [.int 0, .int 1, .int 2, .int 9, .int (10 ^ (30 : Int).toNat - 1)]) := same_new nl _ _ upd_same
    have nSl : S ≠ l := ne_of_none (show (upd H S (.lst [.int 0, .int 1, .int 2, .int 9, .int (10 ^ (30 : Int).toNat - 1)])) S = some (.lst [.int 0, .int 1, .int 2, .int 9, .int (10 ^ (30 : Int).toNat - 1)]) from upd_same) nl
    refine ⟨.ref a, rfl, a, 11, c, rfl, pa.keep sl, by decide, by decide, by omega, fun d H1 b1 p1 d0 d1 => ?_⟩
    have el1 : H1 l = some (.lst []) := b1 _ _ nla upd_same
    have eS1 := b1 _ _ nSa eS0
    have bl1 : But a H H1 := (But.of sl).trans b1
    refine ⟨2, d, rfl, rfl, 2 + d, rfl, by omega, by omega, for_it walk_range (fun i σ H' => (∃ u, σ = [some (.ref a), some (.ref S), some (.ref l), u]) ∧ But a H H' ∧ PotAt H' a (c + 1 + 2 * i) ∧ H' S = some (.lst [.int 0, .int 1, .int 2, .int 9, .int (10 ^ (30 : Int).toNat - 1)]) ∧ ∃ ts : List Int, H' l = some (.lst (ts.map V.int)) ∧ ts.length = i ∧ Pl ts)
      ⟨⟨none, rfl⟩, bl1, p1, eS1, [], el1, rfl, fun _ h => absurd h List.not_mem_nil⟩ (fun _ _ _ _ _ => trivial) (fun i v σ H2 H3 hi p y => ?_) (fun σ H2 p => ?_)⟩
    · obtain ⟨⟨u, rfl⟩, b2, p2, eS, ts, el2, tl, tp⟩ := p
      obtain ⟨rfl, rfl⟩ := y
      have hi' : i < 12 := by omega
      refine ⟨.ref l, rfl, .inl ⟨rfl, _, .inl (.inl el2)⟩, .ref a, rfl, .ref S, rfl, .ref a, rfl, 10, 15, rfl, rfl, ⟨by decide, by decide, by decide⟩, a, _, _, rfl, p2, by rw [e15]; decide, by rw [e15]; decide, by omega, fun g1 H4 b4 p4 g0 gm => ?_⟩
      rw [e15] at gm
      refine ⟨10, 15, rfl, rfl, ⟨by decide, by decide, by decide⟩, g1, _, rfl, rfl, .inr (by rw [e15]; exact ⟨by decide, by decide⟩), (show 1 ≤ sizeLine by decide), fun o no => ?_⟩
      have noa : o ≠ a := p4.ne no
      have eS4 := b4 _ _ nSa eS
      have s5 : Same H4 (upd H4 o (.lst [.int (g1 * 10 ^ (15 : Int).toNat)])) := same_new no
      refine ⟨S, o, _, _, rfl, rfl, s5 _ _ eS4, upd_same, (show 5 + 1 ≤ sizeLine by decide), fun m nm => ?_⟩
      have s6 := s5.trans (same_new (o := .lst ([.int 0, .int 1, .int 2, .int 9, .int (10 ^ (30 : Int).toNat - 1)] ++ [.int (g1 * 10 ^ (15 : Int).toNat)])) nm)
      have nma : m ≠ a := (p4.keep s5).ne nm
      refine ⟨a, m, _, _, rfl, p4.keep s6, nma, .inl (.inl (.inl upd_same)), (show 1 ≤ 6 by decide), (show 6 ≤ 1000000 by decide), by omega, fun x H7 hx b7 p7 => ?_⟩
      have hx' : ∃ v : Int, x = .int v ∧ 0 ≤ v ∧ v < 10 ^ 30 := by
        simp only [List.cons_append, List.nil_append, List.mem_cons, List.not_mem_nil, or_false] at hx
        rcases hx with e | e | e | e | e | e
        · exact ⟨_, e, by decide, by decide⟩
        · exact ⟨_, e, by decide, by decide⟩
        · exact ⟨_, e, by decide, by decide⟩
        · exact ⟨_, e, by decide, by decide⟩
        · exact ⟨_, e, by decide, by decide⟩
        · refine ⟨_, e, ?_, ?_⟩
          · rw [e15]
            omega
          · rw [e15]
            omega
      obtain ⟨v, rfl, v0, v1⟩ := hx'
      have b37 : But a H3 H7 := b4.trans ((But.of s6).trans b7)
      have el7 : H7 l = some (.lst (ts.map V.int)) := b37 _ _ nla el2
      refine ⟨l, _, _, rfl, rfl, el7, by rw [List.length_map]; exact small1000 (by omega), ⟨_, rfl⟩, but_new (b2.trans b37) nlH, pot_upd (p7.mono (by omega)) nla, (upd_ne nSl).trans (b37 _ _ nSa eS), ts ++ [v], ?_, by rw [List.length_append, tl]; rfl, tp.snoc v0 v1⟩
      rw [upd_same, List.map_append]
      rfl
    · obtain ⟨⟨u, rfl⟩, b2, p2, eS, ts, el2, tl, tp⟩ := p
      refine ⟨.ref l, rfl, l, _, rfl, .inl ⟨.inl (.inl el2), fun m nm => ?_⟩⟩
      have nma : m ≠ a := p2.ne nm
      exact q _ m ts (but_new b2 (b2.free nma nm)) (pot_upd (p2.mono (by omega)) nma) upd_same (by omega) (by omega) tp

def spGreat : Sp := fun vs H Q _ => ∃ (a : Addr) (c : Nat), vs = [.ref a] ∧ PotAt H a c ∧ c < 600000 ∧
  ∀ H' g t R o1 o2 tops st1 st2 rs, But a H H' → PotAt H' a (c + 3000) → H' g = some (.tup [.ref t, .ref R, .ref o1, .ref o2]) → H' t = some (.tup (tops.map V.int)) → 1 ≤ tops.length → tops.length ≤ 12 → Pl tops → RulesAt H' R rs → rs.length ≤ 16 → Std tops H' o1 st1 → Std tops H' o2 st2 → (∀ q ∈ rs, RuleOk tops q ∧ kept st1 q = true ∧ kept st2 q = true) → Q (.ref g) H'
theorem ok_great {f fT fP : Addr} {fd fdT fdP : FuncData} {k : Nat} (F : Fun K "_law_great" "_law_great" aGreat f fd) (To : Kn P w K mg base 3 "_law_great_tops" ["_law_pot_here"] spGTops fT fdT) (Pl' : Kn P w K mg base 4 "_law_plan" ["_law_pot_here", "_law_tops", "_law_many"] spPlanL fP fdP) : FnOk P w K mg base CX0 (k + 5) f fd ["_law_pot_here"] spGreat := by
  refine F.ok scGreat (fun vs H Q E h => ?_) (fun cdv A outer s H vs Q E hr h => ?_)
  · obtain ⟨a, c, rfl, _⟩ := h
    rfl
  · obtain ⟨a, c, rfl, pa, hc, q⟩ := h
    refine ⟨_, pss_cons (ps_set (i := 1) scGreat.nd rfl (.inl rfl) (pe_kn To hr (by omega) (pa_cons (pv 0) pa_nil)))
      (pss_cons (ps_asg (pe_kn Pl' hr (by omega) (pa_cons (pv 0) (pa_cons (pv 1) (pa_cons pe_int pa_nil)))) (pg_tup (by rfl) (pgs_cons (pg_name (i := 2) scGreat.nd rfl (.inl rfl)) (pgs_cons (pg_name (i := 3) scGreat.nd rfl (.inl rfl)) (pgs_cons (pg_name (i := 4) scGreat.nd rfl (.inl rfl)) pgs_nil)))))
      (pss_one (ps_ret (pe_tup (pa_cons (pv 1) (pa_cons (pv 2) (pa_cons (pv 3) (pa_cons (pv 4) pa_nil)))))))), ?_⟩
    refine ⟨.ref a, rfl, a, c, rfl, pa, by omega, fun H1 t tops b1 p1 e1 l1 l4 fw => ?_⟩
    refine ⟨.ref a, rfl, .ref t, rfl, a, t, tops, 16, _, rfl, p1, e1, fw, by omega, by omega, by decide, by decide, by omega, fun H2 g R o1 o2 st1 st2 rs b2 p2 eg hR lR S1 S2 rok => ?_⟩
    refine ⟨g, _, rfl, .inl (.inl eg), rfl, _, _, rfl, _, _, rfl, _, _, rfl, rfl, ?_⟩
    refine ⟨.ref t, rfl, .ref R, rfl, .ref o1, rfl, .ref o2, rfl, (show 4 ≤ sizeLine by decide), fun g2 ng2 => ?_⟩
    have s3 : Same H2 (upd H2 g2 (.tup [.ref t, .ref R, .ref o1, .ref o2])) := same_new ng2
    exact q _ g2 t R o1 o2 tops st1 st2 rs ((b1.trans b2).trans (But.of s3)) ((p2.keep s3).mono (by omega)) upd_same (((Keep.but b2 p1).trans (.same s3)).tup e1) (by omega) l4 fw (hR.keep (.same s3)) (by omega) (S1.keep (.same s3)) (S2.keep (.same s3)) rok
end
end K16

set_option Elab.async false
set_option linter.all false
set_option maxRecDepth 100000
set_option maxHeartbeats 1000000
/-! What a plain search wants: sorted of any number of tuples, dicts whose keys are tuples. -/
namespace SrtO
open PySem PyProof.Rows Srt
section
variable {prog : Program} {w : World} {A : Around} {E : Value → Shared → Prop} {s : Shared}
def rkT (h : Heap) (B : Int) (v : Value) : Int := TS.code B (TS.intsOf h v)
theorem swo_rk (r : Value → Int) : Swo fun v u => decide (r v < r u) := by
  refine ⟨fun x y h => ?_, fun x y z h1 h2 => ?_⟩
  · have a := of_decide_eq_true h
    exact decide_eq_false (by omega)
  · have a := of_decide_eq_false h1
    have b := of_decide_eq_false h2
    exact decide_eq_false (by omega)
theorem tups_cmp {d : Nat} {B : Int} {vs : List Value} {r : Value → Int} (x : TS.TupsOk s.heap d B vs) (hr : ∀ v, v ∈ vs → ∀ ns, TS.TupInts s.heap v ns → r v = TS.code B ns) : Cmp prog w A s (tuples' true) (fun p => p.1 ∈ vs) (lt2 fun v u => decide (r v < r u)) := by
  intro p q hp hq
  obtain ⟨ns, tp, lp, bp⟩ := x _ hp
  obtain ⟨ms, tq, lq, bq⟩ := x _ hq
  have ep := hr _ hp _ tp
  have eq2 := hr _ hq _ tq
  show wpAny (model prog w) A (keyLt' (tuples' true) p.1 q.1) (fun b s' => s' = s ∧ b = decide (r p.1 < r q.1)) (fun _ _ => False) s
  rw [ep, eq2]
  obtain ⟨a, xs, e1, ⟨o, ho, hc, n, hdt⟩, i⟩ := tp
  obtain ⟨a', ys, e2, ⟨o', ho', hc', n', hdt'⟩, i'⟩ := tq
  rw [e1, e2]
  refine PySem.W.kat_lt ho hdt ho' hdt' ?_
  have sz : decide (xs.size < ys.size) = false := by
    have l1 := i.length
    have l2 := i'.length
    rw [Array.length_toList] at l1 l2
    exact decide_eq_false (by omega)
  rw [sz]
  exact TS.lex_ints 0 i i' (by omega) bp bq ⟨rfl, rfl⟩
theorem tups_sortableO {a : Addr} {vs : List Value} {d : Nat} {B : Int} {r : Value → Int} (hd1 : 1 ≤ d) (h2 : 2 ≤ vs.length) (x : TS.TupsOk s.heap d B vs) (hr : ∀ v, v ∈ vs → ∀ ns, TS.TupInts s.heap v ns → r v = TS.code B ns) (ha : ∀ o, s.heap.get? a = some o → o.cls ≠ .type "tuple") :
    SortableO prog w A s a vs fun v u => decide (r v < r u) := by
  intro h' keep
  have kp : ∀ b o, s.heap.get? b = some o → o.cls = .type "tuple" → h'.get? b = some o := fun b o e c => keep b o (fun z => by subst z; exact ha o e c) e
  have x' : TS.TupsOk h' d B vs := x.keeps kp
  obtain ⟨fs, h1, hl, h3⟩ := TS.firsts_of hd1 vs x'
  refine ⟨tuples' true, fun Q E hq => ?_, tups_cmp (s := { s with heap := h' }) x' fun v hv ns t => ?_⟩
  · refine PySem.W.kat_kind (T := .type "int") h1 (by omega) (fun f hm => ?_) (by rfl) ?_
    · obtain ⟨n, t, rfl⟩ := h3 f hm
      exact PySem.W.Looks.of_pure rfl
    · have e : (Value.type "int" != Value.type "tuple") = true := by first | decide +kernel | rfl | decide
      rw [e]
      exact hq
  · obtain ⟨ns0, t0, _⟩ := x v hv
    have e : ns = ns0 := t.ints.symm.trans (t0.keeps kp).ints
    rw [e]
    exact hr v hv ns0 t0
end
end SrtO

namespace NB
open PySem PySem.Spec PyProof.Rows L2
/-- sorted(xs), xs a list of tuples of d whole numbers each: a new list of the same ones -/
def rSortTT (K : PySem.W.Frag) (d : Nat) (B : Int) : List V → Hp → VK → Prop := fun vs H Q => ∃ (a : Addr) (L : List (Addr × List Int)), vs = [V.ref a] ∧ SqL K H a (L.map fun z => V.ref z.1) ∧ (∀ z ∈ L, H z.1 = some (.tup (z.2.map V.int)) ∧ z.2.length = d ∧ TS.Bd B z.2) ∧
  ∀ (ys : List V) (p : Addr), ys.Perm (L.map fun z => V.ref z.1) → H p = none → Q (.ref p) (upd H p (.lst ys))
section
variable {X : Cx}
theorem cr_sortTT {d : Nat} {B : Int} (hd1 : 1 ≤ d) : CallR X (.builtin "sorted") (rSortTT X.K d B) := by
  intro pins s σ H vs us Q I r h
  obtain ⟨a, L, rfl, hs, hx, q⟩ := h
  obtain ⟨its, rv, hl, hz⟩ := I.list hs
  obtain ⟨u, rfl, ru⟩ := vals1 r
  obtain rfl : u = Value.ref a := ru
  obtain ⟨e1, e2⟩ := refs_back rv fun x m => by
    obtain ⟨z, _, e⟩ := List.mem_map.mp m
    exact ⟨z.1, e.symm⟩
  have ok : TS.TupsOk s.heap d B its := fun v hv => by
    obtain ⟨t, rfl⟩ := e2 v hv
    have hm : V.ref t ∈ L.map fun z => V.ref z.1 := by rw [e1]; exact List.mem_map.mpr ⟨_, hv, rfl⟩
    obtain ⟨z, hz, e⟩ := List.mem_map.mp hm
    obtain ⟨ht, hn, hb⟩ := hx z hz
    have e' : z.1 = t := V.ref.inj e
    subst e'
    obtain ⟨its2, r2, p2, _⟩ := I.tuple (.inl (.inl ht))
    exact ⟨z.2, ⟨z.1, _, rfl, p2, by simpa using r2.ints⟩, hn, hb⟩
  refine SrtO.sorted_ord (SrtO.swo_rk fun v => TS.code B (TS.intsOf s.heap v)) hl.isList (by rw [← rv.length]; exact hz) (fun h2 h₁ a' ha' kk => ?_) fun out h1 h2 => ?_
  · have kp : ∀ b o, s.heap.get? b = some o → o.cls = .type "tuple" → h₁.get? b = some o := fun b o e _ => (kk b o e).2
    refine SrtO.tups_sortableO (s := { s with heap := h₁ }) hd1 h2 (ok.keeps kp) (fun v hv ns t => ?_) fun o e => ?_
    · obtain ⟨ns0, t0, _⟩ := ok v hv
      have e : ns = ns0 := t.ints.symm.trans (t0.keeps kp).ints
      rw [e, t0.ints]
    · have e' : some o = some (seqObj "list" its.toArray 0) := e.symm.trans ha'
      cases e'
      intro c
      exact absurd (Value.type.inj c) (by decide)
  · have h3 : ∀ u ∈ out, ∃ a, u = Value.ref a := fun u hu => e2 u (h2.perm.mem_iff.mp hu)
    obtain ⟨ep, he'⟩ := PyProof.Rows.sortedAll_at s.heap its out.toArray
    have hp : (out.map backV).Perm (L.map fun z => V.ref z.1) := by
      rw [e1]
      exact h2.perm.map backV
    refine ⟨.ref _, upd H (s.heap.objs.size + 1) (.lst (out.map backV)), I.laid (t' := s.toks) (fun _ _ => PyProof.Rows.sortedAll_old) (Nat.le_succ _) ⟨?_, out, ep, vals_back h3, he'⟩, rfl, q _ _ hp (I.hok.fresh (Nat.le_succ _))⟩
    rw [hp.length_eq]
    exact hz
/-- a dict made of pairs, each key a tuple -/
def putAll (ms : List (List Key × V)) : List (List Key × V) := ms.foldl (fun acc kv => putK acc kv.1 kv.2) []
theorem KT.putAll {H : Hp} {ms : List (List Key × V)} {ps : List (List Key × Addr × Value)} (r : Paired (fun m p => m.1 = p.1 ∧ H p.2.1 = some (.tup (p.1.map kV)) ∧ L2.RelV m.2 p.2.2) ms ps) : ∀ {acc : List (List Key × V)} {xs : List (List Key × Addr × Value)}, KT H acc xs →
    KT H (ms.foldl (fun acc kv => putK acc kv.1 kv.2) acc) (storedAllH xs ps) := by
  induction r with
  | nil => exact fun h => h
  | @cons m p ms ps h t ih =>
    intro acc xs hk
    have e : KT H (putK acc m.1 m.2) (storedH xs p.1 p.2.1 p.2.2) := by
      rw [h.1]
      exact hk.put p.1 h.2.1 h.2.2
    exact ih e
theorem putAll_len : ∀ (ms acc : List (List Key × V)), (ms.foldl (fun acc kv => putK acc kv.1 kv.2) acc).length ≤ acc.length + ms.length
  | [], acc => by simp
  | m :: ms, acc => by
    have h1 := putAll_len ms (putK acc m.1 m.2)
    have h2 := length_putK acc m.1 m.2
    rw [List.foldl_cons, List.length_cons]
    omega
/-- dict(xs), xs a list of pairs (tuple, value) -/
theorem call_dictT (hcalm : X.calm = true) (hu : X.A.units + 8 < cLine) : CallR X (.type "dict") (fun xs H Q => ∃ (a : Addr) (L : List (Addr × Addr × List Key × V)), xs = [.ref a] ∧ H a = some (.lst (L.map fun z => V.ref z.1)) ∧ (∀ z ∈ L, H z.1 = some (.tup [.ref z.2.1, z.2.2.2]) ∧ H z.2.1 = some (.tup (z.2.2.1.map kV))) ∧
    ∀ p, H p = none → Q (.ref p) (upd H p (.dT (putAll (L.map fun z => (z.2.2.1, z.2.2.2)))))) := by
  intro pins s σ H xs us Q I r q
  obtain ⟨a, L, ex, hq, hp, q⟩ := q
  subst ex
  obtain ⟨u, eu, rx⟩ := vals1 r
  subst eu
  cases rx
  obtain ⟨its, rv, pl, hz⟩ := I.list (.inl (.inl hq))
  have ei : its = L.map fun z => Value.ref z.1 := by
    have e : (L.map fun z => V.ref z.1) = (L.map (·.1)).map V.ref := by rw [List.map_map]; rfl
    rw [e] at rv
    rw [refs_at rv, List.map_map]
    rfl
  subst ei
  rw [List.length_map] at hz
  -- the pairs as they stand in the machine
  have mk : ∀ (M : List (Addr × Addr × List Key × V)), (∀ z ∈ M, z ∈ L) → ∃ ps : List (List Key × Addr × Value), Paired (fun m p => m.1 = p.1 ∧ H p.2.1 = some (.tup (p.1.map kV)) ∧ RelV m.2 p.2.2) (M.map fun z => (z.2.2.1, z.2.2.2)) ps ∧ ps.length = M.length ∧
      ∀ (j : Nat) (p : List Key × Addr × Value), ps[j]? = some p → ∃ z, M[j]? = some z ∧ p.1 = z.2.2.1 ∧ p.2.1 = z.2.1 ∧ IsTup s.heap z.1 #[.ref p.2.1, p.2.2] := by
    intro M
    induction M with
    | nil => exact fun _ => ⟨[], .nil, rfl, fun j p e => by simp at e⟩
    | cons z M ih =>
      intro hM
      obtain ⟨ps, h1, h2, h3⟩ := ih fun y hy => hM y (List.mem_cons_of_mem _ hy)
      obtain ⟨hz1, hz2⟩ := hp z (hM z List.mem_cons_self)
      obtain ⟨its2, r2, p2, _⟩ := I.tuple (.inl (.inl hz1))
      obtain ⟨u1, u2, rfl, ra, rb⟩ := vals2 r2
      obtain rfl : u1 = Value.ref z.2.1 := ra
      refine ⟨(z.2.2.1, z.2.1, u2) :: ps, .cons ⟨rfl, hz2, rb⟩ h1, by rw [List.length_cons, List.length_cons, h2], fun j p e => ?_⟩
      cases j with
      | zero =>
        have e' : (z.2.2.1, z.2.1, u2) = p := Option.some.inj e
        subst e'
        exact ⟨z, rfl, rfl, rfl, p2⟩
      | succ j => exact h3 j p (by simpa using e)
  obtain ⟨ps, rel, hl, hps⟩ := mk L fun z hz => hz
  obtain ⟨o, n, ho, hc, hd, hdat⟩ := pl
  have items : PairItems s.heap (L.map fun z => Value.ref z.1).toArray (fun j => (L.getD j (0, 0, [], .non)).1) (ps.map fun p => (Value.ref p.2.1, p.2.2)) := by
    refine ⟨by simp [hl], fun j k v e => ?_⟩
    rw [List.getElem?_map] at e
    cases ej : ps[j]? with
    | none => rw [ej] at e; cases e
    | some p =>
      rw [ej] at e
      have e' : (Value.ref p.2.1, p.2.2) = (k, v) := Option.some.inj e
      cases e'
      obtain ⟨z, hz1, _, _, hz4⟩ := hps j p ej
      have eg : L.getD j (0, 0, [], .non) = z := by rw [List.getD_eq_getElem?_getD, hz1]; rfl
      refine ⟨by simp [hz1, eg], .inl ?_⟩
      show s.heap.IsTuple (L.getD j (0, 0, [], .non)).1 _
      rw [eg]
      exact hz4
  have hst : KeysStay (tupleKind (mixKind X.prog X.w)) s.heap s.heap.objs.size [] ps := fun h' hk x hx => by
    obtain ⟨j, hj, e⟩ := List.getElem_of_mem hx
    obtain ⟨z, hz1, e1, e2, _⟩ := hps j x (by rw [List.getElem?_eq_getElem hj, e])
    have hz2 := (hp z (List.mem_of_getElem? hz1)).2
    rw [e1, e2]
    obtain ⟨_, its3, r3, o3, q1, q2, n3, q3⟩ := (show ObjOk X.prog X.w H s.heap z.2.1 (.tup (z.2.2.1.map kV)) from I.hok _ _ hz2)
    exact ⟨o3, its3.toArray, n3, hk _ _ (Nat.ne_of_lt (Heap.lt_size q1)) (by simp) q1, q2, q3, by simpa using items_are r3⟩
  refine PySem.call_dict_pairsH (knd := tupleKind (mixKind X.prog X.w)) (ps := ps) (PairArg.list a _ _ (ps.map fun p => (Value.ref p.2.1, p.2.2))) (I.ok.hd hcalm) (tupleKind_room_in1 (A := X.A.in1) (by show X.A.units + 1 + 1 < cLine; omega)) ⟨⟨o, n, ho, hc, hd, hdat⟩, items⟩ ⟨by rw [List.length_map], fun i key v e => ?_⟩ hst (by rw [List.length_map, hl]; exact hz) fun h' tk hd' k => ?_
  · have e' : (ps.map fun p => (Value.ref p.2.1, p.2.2))[i]? = some (key, v) := e
    rw [List.getElem?_map] at e'
    cases ej : ps[i]? with
    | none => rw [ej] at e'; cases e'
    | some p =>
      rw [ej] at e'
      have e2 : (Value.ref p.2.1, p.2.2) = (key, v) := Option.some.inj e'
      cases e2
      exact ⟨p.1, p.2.1, rfl, rfl⟩
  · have hm : (s.heap.objs.size == sysModules) = false := beq_eq_false_iff_ne.mpr (Nat.ne_of_gt I.big)
    have hlen : (putAll (L.map fun z => (z.2.2.1, z.2.2.2))).length ≤ sizeLine := by
      have := putAll_len (L.map fun z => (z.2.2.1, z.2.2.2)) []
      rw [List.length_nil, List.length_map] at this
      unfold putAll
      omega
    have nw := I.hok.fresh (Nat.le_refl s.heap.objs.size)
    have kt : KT (upd H s.heap.objs.size (.dT (putAll (L.map fun z => (z.2.2.1, z.2.2.2))))) (putAll (L.map fun z => (z.2.2.1, z.2.2.2))) (storedAllH [] ps) := (KT.putAll (acc := []) (xs := []) rel .nil).keeps fun b ys e => by
      rw [upd_ne (ne_of_none e nw)]
      exact e
    obtain ⟨q', es, ep, g1, g2, g3, g4, _, g5⟩ := hd'
    exact ⟨.ref s.heap.objs.size, upd H s.heap.objs.size (.dT (putAll (L.map fun z => (z.2.2.1, z.2.2.2)))), I.laid (t' := tk) (fun b o e => k b o (by simp) e) (Nat.le_refl _) (show ObjOk X.prog X.w _ _ _ (.dT (putAll (L.map fun z => (z.2.2.1, z.2.2.2)))) from ⟨hlen, hm, _, kt, q', es, ep, g1, g2, g3, g4, g5⟩), rfl, q _ nw⟩
/-- {t: v}, t a tuple -/
def tDispT (tk tv : TE) : TE := fun σ H Q => ∀ p, H p = none → tk σ (upd H p (.dT [])) fun x H1 => tv σ H1 fun y H2 => ∃ (b : Addr) (k : List Key), x = .ref b ∧ H2 b = some (.tup (k.map kV)) ∧ H2 p = some (.dT []) ∧ Q (.ref p) (upd H2 p (.dT [(k, y)]))
theorem pe_dispT {pos : Pos} {ke ve : Expr} {tk tv : TE} (hk : PE X ke tk) (hv : PE X ve tv) (hu : X.A.units + 8 < cLine) : PE X (.Dict [some ke] [ve] pos) (tDispT tk tv) := by
  refine ⟨fun pins s σ H Q I q => ?_⟩
  have hn := I.hok.fresh (Nat.le_refl s.heap.objs.size)
  have hsys : (s.heap.objs.size == sysModules) = false := beq_eq_false_iff_ne.mpr (Nat.ne_of_gt I.big)
  have I1 := I.laid (a := s.heap.objs.size) (o := .dT []) (h' := s.heap.push { cls := .type "dict", data := .dict #[] }) (t' := s.toks) (fun _ _ q => Heap.get?_push_of_some _ q) (Nat.le_refl _)
    (show ObjOk X.prog X.w _ _ _ (.dT []) from ⟨Nat.zero_le _, hsys, [], .nil, by
      obtain ⟨o, es, ep, g1, g2, g3, g4, _, g5⟩ := (Heap.DictOfH.new (knd := tupleKind (mixKind X.prog X.w)) s.heap)
      exact ⟨o, es, ep, g1, g2, g3, g4, g5⟩⟩)
  refine wpAny_Dict_any (by rfl) (by rfl) (by intro z; cases z) (show 1 ≤ 15 by decide) ?_
  refine pairTrees_cons_walk (thn (hk.run pins _ σ _ _ I1 (q _ hn)) fun u s1 ⟨x, H1, J1, rx, q1⟩ => thn (hv.run pins s1 σ H1 _ J1 q1) fun w2 s2 ⟨y, H2, J2, ry, q2⟩ => pairTrees_nil_walk ?_)
  obtain ⟨b, k, rfl, eb, ep, q3⟩ := q2
  cases rx
  obtain ⟨z, hd, xs, rel, dd⟩ := dt_of J2.hok ep
  cases rel
  refine wpAny_bind (wpAny_bind (wpAny_dictSet_heap (knd := tupleKind (mixKind X.prog X.w)) (hsz := Nat.zero_le _) (show X.A.units < cLine by omega) (key_of J2.hok eb) dd fun h' dd' hs => wpAny_pure ?_))
  refine wpAny_pure ?_
  obtain ⟨q', es, ep', g1, g2, g3, g4, _, g5⟩ := dd'
  refine ⟨.ref s.heap.objs.size, _, d_write (t' := _) J2 (by rw [ep]; exact True.intro) hs ⟨q', g1⟩ (ob := .dT [(k, y)]) ⟨(show 1 ≤ sizeLine by decide), hd, _, .cons ⟨rfl, ?_, ry⟩ .nil, q', es, ep', g1, g2, g3, g4, g5⟩, rfl, q3⟩
  rw [upd_ne (ne_of eb ep (fun z => nomatch z))]
  exact eb
end
end NB

set_option Elab.async false
set_option linter.all false
set_option maxRecDepth 100000
namespace K16
open PySem PySem.Spec PyProof.Rows L2 NB

/-! ### places, good standings: mathematics alone -/
abbrev plc (st : List Int) (i : Nat) : Int := st.getD i 0
theorem plc_set_self {st : List Int} {i : Nat} {x : Int} (h : i < st.length) : plc (st.set i x) i = x := by
  unfold plc
  rw [List.getD_eq_getElem?_getD, List.getElem?_set_self h]
  rfl
theorem plc_set_ne {st : List Int} {i j : Nat} {x : Int} (h : i ≠ j) : plc (st.set i x) j = plc st j := by
  unfold plc
  rw [List.getD_eq_getElem?_getD, List.getD_eq_getElem?_getD, List.getElem?_set_ne h]
theorem plc_get {st : List Int} {i : Nat} (h : i < st.length) : plc st i = st[i] := by
  unfold plc
  rw [List.getD_eq_getElem?_getD, List.getElem?_eq_getElem h]
  rfl
theorem wipe_one {σ : L2.St} {k : Nat} {v : Option V} {n : Str} : wipe ((wipe σ ([(n, k)].map (·.2))).set k v) ([(n, k)].map (·.2)) = wipe σ ([(n, k)].map (·.2)) := by
  show ((σ.set k none).set k v).set k none = σ.set k none
  rw [List.set_set, List.set_set]
theorem tst_in {xs : List Int} {s : Sd} (h : s.1 < xs.length) : inB xs s = if s.2.1 then decide (s.2.2 ≤ plc xs s.1) else decide (plc xs s.1 ≤ s.2.2) := by
  unfold inB
  rw [List.getElem?_eq_getElem h, plc_get h]
def Btw (a x b : Int) : Prop := min a b ≤ x ∧ x ≤ max a b
def Good (rs : List Rl) (st : List Int) : Prop := ∀ q ∈ rs, kept st q = true
theorem plc_app (a : List Int) (x : Int) (j : Nat) : plc (a ++ [x]) j = if j < a.length then plc a j else if j = a.length then x else 0 := by
  unfold plc
  rw [List.getD_eq_getElem?_getD, List.getD_eq_getElem?_getD]
  by_cases c : j < a.length
  · rw [if_pos c, List.getElem?_append_left c]
  · rw [if_neg c, List.getElem?_append_right (by omega)]
    by_cases d : j = a.length
    · rw [if_pos d, d, Nat.sub_self]
      rfl
    · rw [if_neg d, List.getElem?_eq_none (by simp only [List.length_cons, List.length_nil]; omega)]
      rfl
theorem plc_ext {a b : List Int} (l : a.length = b.length) (h : ∀ i, i < a.length → plc a i = plc b i) : a = b := by
  refine List.ext_getElem l fun i x y => ?_
  have := h i x
  rwa [plc_get x, plc_get y] at this
def ext1 (t : Int) (s : List Int) : List (List Int) := (List.range (t + 1).toNat).map fun p : Nat => s ++ [((p : Nat) : Int)]
def bx (tops : List Int) : Nat → List (List Int)
  | 0 => [[]]
  | i + 1 => (bx tops i).flatMap (ext1 (plc tops i))
theorem bx_mem (tops : List Int) : ∀ (i : Nat) (s : List Int), s ∈ bx tops i ↔ s.length = i ∧ ∀ j, j < i → 0 ≤ plc s j ∧ plc s j ≤ plc tops j
  | 0, s => by
    show s ∈ [[]] ↔ _
    rw [List.mem_singleton]
    constructor
    · rintro rfl
      exact ⟨rfl, fun j h => absurd h (Nat.not_lt_zero _)⟩
    · rintro ⟨h, _⟩
      exact List.length_eq_zero_iff.mp h
  | i + 1, s => by
    show s ∈ (bx tops i).flatMap (ext1 (plc tops i)) ↔ _
    rw [List.mem_flatMap]
    constructor
    · rintro ⟨a, ha, hs⟩
      obtain ⟨l, h⟩ := (bx_mem tops i a).mp ha
      obtain ⟨p, hp, rfl⟩ := List.mem_map.mp hs
      have hp' := List.mem_range.mp hp
      refine ⟨by rw [List.length_append, l]; rfl, fun j hj => ?_⟩
      rw [plc_app]
      by_cases c : j < a.length
      · rw [if_pos c]
        exact h j (by omega)
      · rw [if_neg c, if_pos (by omega), show j = i by omega]
        omega
    · rintro ⟨l, h⟩
      have e : s = s.take i ++ [plc s i] := by
        refine plc_ext (by rw [List.length_append, List.length_take]; simp only [List.length_cons, List.length_nil]; omega) fun j hj => ?_
        rw [plc_app]
        by_cases c : j < (s.take i).length
        · rw [if_pos c]
          rw [List.length_take] at c
          rw [plc_get hj, plc_get (by rw [List.length_take]; omega), List.getElem_take]
        · rw [if_neg c]
          rw [List.length_take] at c
          rw [if_pos (by rw [List.length_take]; omega), show j = i by omega]
      have hi := h i (Nat.lt_succ_self i)
      refine ⟨s.take i, (bx_mem tops i _).mpr ⟨by rw [List.length_take]; omega, fun j hj => ?_⟩, ?_⟩
      · have hj' : j < (s.take i).length := by rw [List.length_take]; omega
        rw [plc_get hj', List.getElem_take, ← plc_get (show j < s.length by omega)]
        exact h j (by omega)
      · refine List.mem_map.mpr ⟨(plc s i).toNat, List.mem_range.mpr (by omega), ?_⟩
        rw [Int.toNat_of_nonneg hi.1]
        exact e.symm
def goodB (rs : List Rl) (st : List Int) : Bool := rs.all (kept st)
theorem goodB_iff {rs : List Rl} {st : List Int} : goodB rs st = true ↔ Good rs st := List.all_eq_true
def goods (tops : List Int) (rs : List Rl) : List (List Int) := (bx tops tops.length).filter (goodB rs)
theorem goods_mem {tops : List Int} {rs : List Rl} {s : List Int} : s ∈ goods tops rs ↔ (s.length = tops.length ∧ ∀ j, j < tops.length → 0 ≤ plc s j ∧ plc s j ≤ plc tops j) ∧ Good rs s := by
  unfold goods
  rw [List.mem_filter, bx_mem, goodB_iff]
theorem set_back {b : List Int} {i : Nat} {y : Int} (hi : i < b.length) : (b.set i y).set i (plc b i) = b := by
  refine plc_ext (by rw [List.length_set, List.length_set]) fun j hj => ?_
  by_cases c : i = j
  · subst c
    rw [plc_set_self (by rw [List.length_set]; exact hi)]
  · rw [plc_set_ne c, plc_set_ne c]
theorem set_same {b : List Int} {i : Nat} (hi : i < b.length) : b.set i (plc b i) = b := by
  refine plc_ext (by rw [List.length_set]) fun j hj => ?_
  by_cases c : i = j
  · subst c
    rw [plc_set_self hi]
  · rw [plc_set_ne c]
section
variable {tops : List Int} {rs : List Rl}
theorem goods_len {s : List Int} (h : s ∈ goods tops rs) : s.length = tops.length := (goods_mem.mp h).1.1
theorem goods_good {s : List Int} (h : s ∈ goods tops rs) : Good rs s := (goods_mem.mp h).2
theorem goods_bd (fw : Few tops) {s : List Int} (h : s ∈ goods tops rs) : TS.Bd 4 s := fun m hm => by
  obtain ⟨i, hi, e⟩ := List.getElem_of_mem hm
  have l := goods_len h
  have b := (goods_mem.mp h).1.2 i (by omega)
  rw [plc_get hi, e] at b
  have t := fw _ (List.getElem_mem (show i < tops.length by omega))
  rw [← plc_get] at t
  omega
end
theorem nodup_len {α : Type} [DecidableEq α] : ∀ (l m : List α), l.Nodup → (∀ x ∈ l, x ∈ m) → l.length ≤ m.length
  | [], _, _, _ => Nat.zero_le _
  | x :: l, m, nd, h => by
    obtain ⟨n1, n2⟩ := List.nodup_cons.mp nd
    have ih := nodup_len l (m.erase x) n2 fun y hy => (List.mem_erase_of_ne (fun e : y = x => n1 (by rw [← e]; exact hy))).mpr (h y (List.mem_cons_of_mem _ hy))
    have hx := h x List.mem_cons_self
    rw [List.length_erase_of_mem hx] at ih
    have : 0 < m.length := List.length_pos_of_mem hx
    rw [List.length_cons]
    omega

end K16

set_option Elab.async false
set_option linter.all false
set_option maxRecDepth 100000
namespace K16
open PySem PySem.Spec PyProof.Rows L2 NB

/-! ### sides and chains: the mathematics -/
section
variable (tops : List Int) (rs : List Rl)
def loS (s : Sd) : Int := if s.2.1 then s.2.2 else 0
def hiS (s : Sd) : Int := if s.2.1 then plc tops s.1 else s.2.2
def barsB (a b : Sd) : Bool := decide (a.1 = b.1) && (decide (hiS tops a < loS b) || decide (hiS tops b < loS a))
def withinB (a b : Sd) : Bool := decide (a.1 = b.1) && (decide (loS b ≤ loS a) && decide (hiS tops a ≤ hiS tops b))
def led1 (a : Sd) (q : Rl) : List Sd := (if barsB tops a q.1 then [q.2] else []) ++ (if barsB tops a q.2 then [q.1] else [])
def ledL (a : Sd) : List Sd := rs.flatMap (led1 tops a)
def othS (s : Sd) : Option Sd := if 0 < loS s then some (s.1, false, loS s - 1) else if hiS tops s < plc tops s.1 then some (s.1, true, hiS tops s + 1) else none
inductive Rea (S : Sd → Prop) : Sd → Prop where
  | base {s : Sd} : S s → Rea S s
  | step {a b : Sd} : Rea S a → b ∈ ledL tops rs a → Rea S b
end
section
variable {tops : List Int} {rs : List Rl}
theorem SideOk.lt {s : Sd} (h : SideOk tops s) : s.1 < tops.length := (List.getElem?_eq_some_iff.mp h.choose_spec.1).1
theorem SideOk.bd {s : Sd} (h : SideOk tops s) : 0 ≤ s.2.2 ∧ s.2.2 ≤ plc tops s.1 := by
  obtain ⟨t, e, h0, h1⟩ := h
  have : plc tops s.1 = t := by
    show tops.getD s.1 0 = t
    rw [List.getD_eq_getElem?_getD, e]
    rfl
  rw [this]
  exact ⟨h0, h1⟩
theorem SideOk.mk' {i : Nat} {b : Bool} {p : Int} (li : i < tops.length) (h0 : 0 ≤ p) (h1 : p ≤ plc tops i) : SideOk tops (i, b, p) := by
  refine ⟨tops[i], List.getElem?_eq_getElem li, h0, ?_⟩
  have : plc tops i = tops[i] := by
    show tops.getD i 0 = _
    rw [List.getD_eq_getElem?_getD, List.getElem?_eq_getElem li]
    rfl
  rw [← this]
  exact h1
theorem inB_iff {st : List Int} {s : Sd} (h : s.1 < st.length) : inB st s = true ↔ (if s.2.1 then s.2.2 ≤ plc st s.1 else plc st s.1 ≤ s.2.2) := by
  have e : plc st s.1 = st[s.1] := by
    show st.getD s.1 0 = _
    rw [List.getD_eq_getElem?_getD, List.getElem?_eq_getElem h]
    rfl
  unfold inB
  rw [List.getElem?_eq_getElem h, e]
  show (if s.2.1 = true then _ else _) = true ↔ _
  split <;> exact decide_eq_true_iff
theorem inFr {st : List Int} {i : Nat} {p : Int} (h : i < st.length) : inB st (i, true, p) = true ↔ p ≤ plc st i := inB_iff (s := (i, true, p)) h
theorem inTo {st : List Int} {i : Nat} {p : Int} (h : i < st.length) : inB st (i, false, p) = true ↔ plc st i ≤ p := inB_iff (s := (i, false, p)) h
theorem in_span {st : List Int} (hg : st ∈ goods tops rs) {s : Sd} (ok : SideOk tops s) : inB st s = true ↔ loS s ≤ plc st s.1 ∧ plc st s.1 ≤ hiS tops s := by
  obtain ⟨⟨l, bd⟩, _⟩ := goods_mem.mp hg
  have lt := ok.lt
  have b := bd s.1 lt
  rw [inB_iff (by omega)]
  unfold loS hiS
  split <;> omega
theorem bars_iff {a b : Sd} : barsB tops a b = true ↔ a.1 = b.1 ∧ (hiS tops a < loS b ∨ hiS tops b < loS a) := by
  unfold barsB
  simp only [Bool.and_eq_true, Bool.or_eq_true, decide_eq_true_eq]
theorem within_iff {a b : Sd} : withinB tops a b = true ↔ a.1 = b.1 ∧ loS b ≤ loS a ∧ hiS tops a ≤ hiS tops b := by
  unfold withinB
  simp only [Bool.and_eq_true, decide_eq_true_eq]
theorem bars_symm {a b : Sd} (h : barsB tops a b = true) : barsB tops b a = true := by
  rw [bars_iff] at h ⊢
  exact ⟨h.1.symm, h.2.symm⟩
theorem bars_out {st : List Int} (hg : st ∈ goods tops rs) {a b : Sd} (oa : SideOk tops a) (ob : SideOk tops b) (h : barsB tops a b = true) (ha : inB st a = true) : inB st b = false := by
  cases e : inB st b with
  | false => rfl
  | true =>
    rw [in_span hg oa] at ha
    rw [in_span hg ob] at e
    rw [bars_iff] at h
    obtain ⟨h1, h2⟩ := h
    rw [h1] at ha
    omega
theorem led_iff {a b : Sd} : b ∈ ledL tops rs a ↔ ∃ q ∈ rs, (barsB tops a q.1 = true ∧ b = q.2) ∨ (barsB tops a q.2 = true ∧ b = q.1) := by
  unfold ledL
  rw [List.mem_flatMap]
  constructor
  · rintro ⟨q, hq, h⟩
    refine ⟨q, hq, ?_⟩
    unfold led1 at h
    rcases List.mem_append.mp h with h | h
    · split at h
      · rename_i c
        exact .inl ⟨c, List.mem_singleton.mp h⟩
      · exact absurd h List.not_mem_nil
    · split at h
      · rename_i c
        exact .inr ⟨c, List.mem_singleton.mp h⟩
      · exact absurd h List.not_mem_nil
  · rintro ⟨q, hq, h⟩
    refine ⟨q, hq, ?_⟩
    unfold led1
    rcases h with ⟨c, rfl⟩ | ⟨c, rfl⟩
    · rw [if_pos c]
      exact List.mem_append_left _ (List.mem_singleton.mpr rfl)
    · rw [if_pos c]
      exact List.mem_append_right _ (List.mem_singleton.mpr rfl)
theorem led_ok (rok : ∀ q ∈ rs, RuleOk tops q) {a b : Sd} (h : b ∈ ledL tops rs a) : SideOk tops b := by
  obtain ⟨q, hq, ⟨_, rfl⟩ | ⟨_, rfl⟩⟩ := led_iff.mp h
  · exact (rok q hq).2
  · exact (rok q hq).1
theorem Rea.ok (rok : ∀ q ∈ rs, RuleOk tops q) {S : Sd → Prop} (hS : ∀ s, S s → SideOk tops s) {b : Sd} (h : Rea tops rs S b) : SideOk tops b := by
  cases h with
  | base h => exact hS _ h
  | step _ h => exact led_ok rok h
theorem Rea.refl (a : Sd) : Rea tops rs (· = a) a := .base rfl
theorem Rea.trans {S : Sd → Prop} {a b : Sd} (h : Rea tops rs S a) (h' : Rea tops rs (· = a) b) : Rea tops rs S b := by
  induction h' with
  | base e => exact e ▸ h
  | step _ l ih => exact .step ih l
theorem Rea.mono {S T : Sd → Prop} (hST : ∀ s, S s → T s) {b : Sd} (h : Rea tops rs S b) : Rea tops rs T b := by
  induction h with
  | base e => exact .base (hST _ e)
  | step _ l ih => exact .step ih l
theorem Rea.one {S : Sd → Prop} {b : Sd} (h : Rea tops rs S b) : ∃ s, S s ∧ Rea tops rs (· = s) b := by
  induction h with
  | base e => exact ⟨_, e, .base rfl⟩
  | step _ l ih => exact ih.elim fun s h => ⟨s, h.1, .step h.2 l⟩
/-- what is reached is in wherever the starts are -/
theorem Rea.in' (rok : ∀ q ∈ rs, RuleOk tops q) {S : Sd → Prop} (hS : ∀ s, S s → SideOk tops s) {st : List Int} (hg : st ∈ goods tops rs) (hi : ∀ s, S s → inB st s = true) {b : Sd} (h : Rea tops rs S b) : inB st b = true := by
  induction h with
  | base e => exact hi _ e
  | step r l ih =>
    have oa := r.ok rok hS
    obtain ⟨q, hq, h⟩ := led_iff.mp l
    have k := (goods_mem.mp hg).2 q hq
    unfold kept at k
    rw [Bool.or_eq_true] at k
    rcases h with ⟨c, rfl⟩ | ⟨c, rfl⟩
    · have := bars_out hg oa (rok q hq).1 c ih
      rw [this] at k
      exact k.resolve_left (by decide)
    · have := bars_out hg oa (rok q hq).2 c ih
      rw [this] at k
      exact k.resolve_right (by decide)
/-- the way back: who bars what is reached leads to what bars the start -/
theorem Rea.turn {w b : Sd} (h : Rea tops rs (· = w) b) : ∀ {a : Sd}, barsB tops a b = true → ∃ z, Rea tops rs (· = a) z ∧ barsB tops z w = true := by
  induction h with
  | base e => exact fun {a} h => ⟨a, .base rfl, e ▸ h⟩
  | step r l ih =>
    intro a h
    obtain ⟨q, hq, ⟨c, rfl⟩ | ⟨c, rfl⟩⟩ := led_iff.mp l
    · obtain ⟨z, hz, bz⟩ := ih (bars_symm c)
      exact ⟨z, (Rea.step (Rea.refl a) (led_iff.mpr ⟨q, hq, .inr ⟨h, rfl⟩⟩)).trans hz, bz⟩
    · obtain ⟨z, hz, bz⟩ := ih (bars_symm c)
      exact ⟨z, (Rea.step (Rea.refl a) (led_iff.mpr ⟨q, hq, .inl ⟨h, rfl⟩⟩)).trans hz, bz⟩
theorem Rea.first {w z : Sd} (h : Rea tops rs (· = w) z) : z = w ∨ ∃ q ∈ rs, ∃ f x, ((q.1 = f ∧ q.2 = x) ∨ (q.2 = f ∧ q.1 = x)) ∧ barsB tops w f = true ∧ Rea tops rs (· = x) z := by
  induction h with
  | base e => exact .inl e
  | step r l ih =>
    rcases ih with rfl | ⟨q, hq, f, x, e, c, r'⟩
    · obtain ⟨q, hq, ⟨c, rfl⟩ | ⟨c, rfl⟩⟩ := led_iff.mp l
      · exact .inr ⟨q, hq, _, _, .inl ⟨rfl, rfl⟩, c, .base rfl⟩
      · exact .inr ⟨q, hq, _, _, .inr ⟨rfl, rfl⟩, c, .base rfl⟩
    · exact .inr ⟨q, hq, f, x, e, c, .step r' l⟩
/-- what follows: for each thing the greatest "from", the least "to" -/
structure Fol (tops : List Int) (rs : List Rl) (S : Sd → Prop) (lows highs : List Int) : Prop where
  ll : lows.length = tops.length
  lh : highs.length = tops.length
  l0 : ∀ i, i < tops.length → plc lows i = 0 ∨ Rea tops rs S (i, true, plc lows i)
  h0 : ∀ i, i < tops.length → plc highs i = plc tops i ∨ Rea tops rs S (i, false, plc highs i)
  l1 : ∀ i p, Rea tops rs S (i, true, p) → p ≤ plc lows i
  h1 : ∀ i p, Rea tops rs S (i, false, p) → plc highs i ≤ p
  lz : ∀ i, i < tops.length → 0 ≤ plc lows i
  hz : ∀ i, i < tops.length → plc highs i ≤ plc tops i
def pullF (lows highs st : List Int) : List Int := (List.range st.length).map fun i => max (plc lows i) (min (plc st i) (plc highs i))
theorem pull_len (lows highs st : List Int) : (pullF lows highs st).length = st.length := by
  unfold pullF
  rw [List.length_map, List.length_range]
theorem plc_pull {lows highs st : List Int} {i : Nat} (h : i < st.length) : plc (pullF lows highs st) i = max (plc lows i) (min (plc st i) (plc highs i)) := by
  show (pullF lows highs st).getD i 0 = _
  unfold pullF
  rw [List.getD_eq_getElem?_getD, List.getElem?_map, List.getElem?_range h]
  rfl
theorem Fol.has {S : Sd → Prop} {lows highs : List Int} (F : Fol tops rs S lows highs) {st : List Int} {s : Sd} (lt : s.1 < st.length) (hs : Rea tops rs S s) (hb : plc lows s.1 ≤ plc st s.1 ∧ plc st s.1 ≤ plc highs s.1) : inB st s = true := by
  obtain ⟨i, b, p⟩ := s
  have hb1 : plc lows i ≤ plc st i := hb.1
  have hb2 : plc st i ≤ plc highs i := hb.2
  cases b with
  | true =>
    have := F.l1 i p hs
    rw [inFr (show i < st.length from lt)]
    exact Int.le_trans this hb1
  | false =>
    have := F.h1 i p hs
    rw [inTo (show i < st.length from lt)]
    exact Int.le_trans hb2 this
/-- where bounds don't cross, a good standing pulled within them is good -/
theorem Fol.good (rok : ∀ q ∈ rs, RuleOk tops q) {S : Sd → Prop} (hS : ∀ s, S s → SideOk tops s) {lows highs : List Int} (F : Fol tops rs S lows highs) (lh : ∀ i, i < tops.length → plc lows i ≤ plc highs i) {st : List Int} (hg : st ∈ goods tops rs) :
    pullF lows highs st ∈ goods tops rs ∧ ∀ s, Rea tops rs S s → inB (pullF lows highs st) s = true := by
  obtain ⟨⟨l, bd⟩, gd⟩ := goods_mem.mp hg
  have lp := pull_len lows highs st
  have hv : ∀ i, i < tops.length → plc lows i ≤ plc (pullF lows highs st) i ∧ plc (pullF lows highs st) i ≤ plc highs i := fun i hi => by
    have := lh i hi
    rw [plc_pull (by omega)]
    omega
  have has : ∀ s, Rea tops rs S s → inB (pullF lows highs st) s = true := fun s hs => by
    have lt := (hs.ok rok hS).lt
    exact F.has (by omega) hs (hv _ lt)
  -- a side that goes out is barred by what follows
  have out : ∀ s, SideOk tops s → inB st s = true → inB (pullF lows highs st) s = true ∨ ∃ z, Rea tops rs S z ∧ barsB tops z s = true := fun s ok hi => by
    obtain ⟨i, c, p⟩ := s
    have lt : i < tops.length := ok.lt
    have b : 0 ≤ p ∧ p ≤ plc tops i := ok.bd
    have l0 := F.l0 i lt
    have h0 := F.h0 i lt
    have lz := F.lz i lt
    have hz := F.hz i lt
    have bs := bd i lt
    have lhi := lh i lt
    cases c with
    | true =>
      have hi' := (inFr (by omega)).mp hi
      rw [inFr (by omega), plc_pull (by omega)]
      by_cases c : p ≤ max (plc lows i) (min (plc st i) (plc highs i))
      · exact .inl c
      · refine .inr ⟨(i, false, plc highs i), h0.resolve_left (by omega), ?_⟩
        rw [bars_iff]
        refine ⟨rfl, .inl ?_⟩
        show plc highs i < p
        omega
    | false =>
      have hi' := (inTo (by omega)).mp hi
      rw [inTo (by omega), plc_pull (by omega)]
      by_cases c : max (plc lows i) (min (plc st i) (plc highs i)) ≤ p
      · exact .inl c
      · refine .inr ⟨(i, true, plc lows i), l0.resolve_left (by omega), ?_⟩
        rw [bars_iff]
        refine ⟨rfl, .inr ?_⟩
        show p < plc lows i
        omega
  refine ⟨goods_mem.mpr ⟨⟨by omega, fun i hi => ?_⟩, fun q hq => ?_⟩, has⟩
  · have := hv i hi
    have := F.lz i hi
    have := F.hz i hi
    omega
  · have k := gd q hq
    unfold kept at k ⊢
    rw [Bool.or_eq_true] at k ⊢
    rcases k with k | k
    · rcases out q.1 (rok q hq).1 k with h | ⟨z, hz, c⟩
      · exact .inl h
      · exact .inr (has _ (.step hz (led_iff.mpr ⟨q, hq, .inl ⟨c, rfl⟩⟩)))
    · rcases out q.2 (rok q hq).2 k with h | ⟨z, hz, c⟩
      · exact .inr h
      · exact .inl (has _ (.step hz (led_iff.mpr ⟨q, hq, .inr ⟨c, rfl⟩⟩)))
theorem Fol.sound (rok : ∀ q ∈ rs, RuleOk tops q) {S : Sd → Prop} (hS : ∀ s, S s → SideOk tops s) {lows highs : List Int} (F : Fol tops rs S lows highs) {st : List Int} (hg : st ∈ goods tops rs) (hi : ∀ s, S s → inB st s = true) {i : Nat} (li : i < tops.length) : plc lows i ≤ plc st i ∧ plc st i ≤ plc highs i := by
  obtain ⟨⟨l, bd⟩, _⟩ := goods_mem.mp hg
  have b := bd i li
  constructor
  · rcases F.l0 i li with h | h
    · omega
    · exact (inFr (by omega)).mp (h.in' rok hS hg hi)
  · rcases F.h0 i li with h | h
    · omega
    · exact (inTo (by omega)).mp (h.in' rok hS hg hi)
theorem Fol.cross (rok : ∀ q ∈ rs, RuleOk tops q) {S : Sd → Prop} (hS : ∀ s, S s → SideOk tops s) {lows highs : List Int} (F : Fol tops rs S lows highs) {st : List Int} (hg : st ∈ goods tops rs) (hi : ∀ s, S s → inB st s = true) (i : Nat) (li : i < tops.length) : plc lows i ≤ plc highs i := by
  have := F.sound rok hS hg hi li
  omega
/-- some bounds follow of any sides -/
theorem fol_ex (rok : ∀ q ∈ rs, RuleOk tops q) (pl : ∀ i, i < tops.length → 0 ≤ plc tops i) {S : Sd → Prop} (hS : ∀ s, S s → SideOk tops s) : ∃ lows highs, Fol tops rs S lows highs := by
  have up : ∀ i, i < tops.length → ∃ m : Int, (m = 0 ∨ Rea tops rs S (i, true, m)) ∧ 0 ≤ m ∧ ∀ p, Rea tops rs S (i, true, p) → p ≤ m := fun i hi => by
    have main : ∀ n : Nat, (∀ p : Int, Rea tops rs S (i, true, p) → p ≤ (n : Int)) → ∃ m : Int, (m = 0 ∨ Rea tops rs S (i, true, m)) ∧ 0 ≤ m ∧ ∀ p, Rea tops rs S (i, true, p) → p ≤ m := by
      intro n
      induction n with
      | zero => exact fun h => ⟨0, .inl rfl, Int.le_refl _, fun p hp => by have := h p hp; omega⟩
      | succ n ih =>
        intro h
        by_cases c : Rea tops rs S (i, true, ((n + 1 : Nat) : Int))
        · exact ⟨_, .inr c, by omega, h⟩
        · refine ih fun p hp => ?_
          have := h p hp
          rcases Int.lt_or_eq_of_le this with l | e
          · omega
          · rw [e] at hp
            exact absurd hp c
    refine main (plc tops i).toNat fun p hp => ?_
    have := (hp.ok rok hS).bd
    have h2 : p ≤ plc tops i := this.2
    omega
  have dn : ∀ i, i < tops.length → ∃ m : Int, (m = plc tops i ∨ Rea tops rs S (i, false, m)) ∧ m ≤ plc tops i ∧ ∀ p, Rea tops rs S (i, false, p) → m ≤ p := fun i hi => by
    have main : ∀ n : Nat, (∀ p : Int, Rea tops rs S (i, false, p) → plc tops i - n ≤ p) → ∃ m : Int, (m = plc tops i ∨ Rea tops rs S (i, false, m)) ∧ m ≤ plc tops i ∧ ∀ p, Rea tops rs S (i, false, p) → m ≤ p := by
      intro n
      induction n with
      | zero => exact fun h => ⟨_, .inl rfl, Int.le_refl _, fun p hp => by have := h p hp; omega⟩
      | succ n ih =>
        intro h
        by_cases c : Rea tops rs S (i, false, plc tops i - ((n + 1 : Nat) : Int))
        · exact ⟨_, .inr c, by omega, h⟩
        · refine ih fun p hp => ?_
          have := h p hp
          rcases Int.lt_or_eq_of_le this with l | e
          · omega
          · rw [← e] at hp
            exact absurd hp c
    refine main (plc tops i).toNat fun p hp => ?_
    have := (hp.ok rok hS).bd
    have h2 : 0 ≤ p := this.1
    have := pl i hi
    omega
  let lo : Nat → Int := fun i => if h : i < tops.length then (up i h).choose else 0
  let hi : Nat → Int := fun i => if h : i < tops.length then (dn i h).choose else 0
  have rg : ∀ (f : Nat → Int) (i : Nat), i < tops.length → plc ((List.range tops.length).map f) i = f i := fun f i h => by
    show ((List.range tops.length).map f).getD i 0 = _
    rw [List.getD_eq_getElem?_getD, List.getElem?_map, List.getElem?_range h]
    rfl
  have elo : ∀ i (h : i < tops.length), lo i = (up i h).choose := fun i h => dif_pos h
  have ehi : ∀ i (h : i < tops.length), hi i = (dn i h).choose := fun i h => dif_pos h
  refine ⟨(List.range tops.length).map lo, (List.range tops.length).map hi, by simp, by simp, fun i h => ?_, fun i h => ?_, fun i p h => ?_, fun i p h => ?_, fun i h => ?_, fun i h => ?_⟩
  · rw [rg lo i h, elo i h]
    exact (up i h).choose_spec.1
  · rw [rg hi i h, ehi i h]
    exact (dn i h).choose_spec.1
  · have li : i < tops.length := (h.ok rok hS).lt
    rw [rg lo i li, elo i li]
    exact (up i li).choose_spec.2.2 p h
  · have li : i < tops.length := (h.ok rok hS).lt
    rw [rg hi i li, ehi i li]
    exact (dn i li).choose_spec.2.2 p h
  · rw [rg lo i h, elo i h]
    exact (up i h).choose_spec.2.1
  · rw [rg hi i h, ehi i h]
    exact (dn i h).choose_spec.2.1
/-- two sides to a rule: a side that leads to nothing that bars it is in at some good standing, where some is good -/
theorem some_good (rok : ∀ q ∈ rs, RuleOk tops q) (pl : ∀ i, i < tops.length → 0 ≤ plc tops i) {st : List Int} (hg : st ∈ goods tops rs) {w : Sd} (ok : SideOk tops w) : (∃ g ∈ goods tops rs, inB g w = true) ∨ ∃ z, Rea tops rs (· = w) z ∧ barsB tops z w = true := by
  have hS : ∀ s, s = w → SideOk tops s := fun s e => e ▸ ok
  obtain ⟨lows, highs, F⟩ := fol_ex rok pl hS
  by_cases c : ∀ i, i < tops.length → plc lows i ≤ plc highs i
  · obtain ⟨g, h⟩ := F.good rok hS c hg
    exact .inl ⟨_, g, h w (.base rfl)⟩
  · obtain ⟨i, h⟩ := Classical.not_forall.mp c
    obtain ⟨hi, h⟩ := Classical.not_imp.mp h
    have p0 := pl i hi
    have a : Rea tops rs (· = w) (i, true, plc lows i) := (F.l0 i hi).resolve_left fun e => by
      rcases F.h0 i hi with h' | h'
      · omega
      · have := (h'.ok rok hS).bd
        have h2 : 0 ≤ plc highs i := this.1
        omega
    have b : Rea tops rs (· = w) (i, false, plc highs i) := (F.h0 i hi).resolve_left fun e => by
      have := (a.ok rok hS).bd
      have h2 : plc lows i ≤ plc tops i := this.2
      omega
    obtain ⟨z, hz, bz⟩ := b.turn (a := (i, true, plc lows i)) (by
      rw [bars_iff]
      refine ⟨rfl, .inr ?_⟩
      show plc highs i < plc lows i
      omega)
    exact .inr ⟨z, a.trans hz, bz⟩
/-- the sides of rules that their other ones lead to -/
def RuleSd (rs : List Rl) (s : Sd) : Prop := ∃ q ∈ rs, s = q.1 ∨ s = q.2
def Tn (tops : List Int) (rs : List Rl) (s : Sd) : Prop := ∃ o, othS tops s = some o ∧ ∃ z, Rea tops rs (· = o) z ∧ withinB tops z s = true
def Frc (tops : List Int) (rs : List Rl) (s : Sd) : Prop := RuleSd rs s ∧ Tn tops rs s
theorem oth_cases {s o : Sd} (h : othS tops s = some o) : (s.2.1 = true ∧ 0 < s.2.2 ∧ o = (s.1, false, s.2.2 - 1)) ∨ (s.2.1 = false ∧ s.2.2 < plc tops s.1 ∧ o = (s.1, true, s.2.2 + 1)) := by
  obtain ⟨i, c, p⟩ := s
  cases c with
  | false =>
    change (if (0 : Int) < 0 then _ else if p < plc tops i then some (i, true, p + 1) else none) = some o at h
    rw [if_neg (by decide)] at h
    split at h
    · rename_i c
      cases h
      exact .inr ⟨rfl, c, rfl⟩
    · cases h
  | true =>
    change (if 0 < p then some (i, false, p - 1) else if plc tops i < plc tops i then _ else none) = some o at h
    split at h
    · rename_i c
      cases h
      exact .inl ⟨rfl, c, rfl⟩
    · rw [if_neg (Int.lt_irrefl _)] at h
      cases h
theorem oth_from {i : Nat} {p : Int} (h : 0 < p) : othS tops (i, true, p) = some (i, false, p - 1) := by
  show (if 0 < p then some (i, false, p - 1) else _) = _
  rw [if_pos h]
theorem oth_to {i : Nat} {p : Int} (h : p < plc tops i) : othS tops (i, false, p) = some (i, true, p + 1) := by
  show (if (0 : Int) < 0 then _ else if p < plc tops i then some (i, true, p + 1) else none) = _
  rw [if_neg (by decide), if_pos h]
theorem oth_ok {s o : Sd} (ok : SideOk tops s) (h : othS tops s = some o) : SideOk tops o := by
  have lt := ok.lt
  have b := ok.bd
  rcases oth_cases h with ⟨_, c, rfl⟩ | ⟨_, c, rfl⟩
  · exact SideOk.mk' lt (by omega) (by omega)
  · exact SideOk.mk' lt (by omega) (by omega)
theorem oth_in {st : List Int} (hg : st ∈ goods tops rs) {s o : Sd} (ok : SideOk tops s) (h : othS tops s = some o) : inB st o = !inB st s := by
  have lt := ok.lt
  have l := (goods_mem.mp hg).1.1
  rw [Bool.eq_iff_iff, Bool.not_eq_true', ← Bool.not_eq_true]
  obtain ⟨i, c, p⟩ := s
  have li : i < st.length := by
    have : i < tops.length := lt
    omega
  rcases oth_cases h with ⟨e, _, rfl⟩ | ⟨e, _, rfl⟩
  · cases (show c = true from e)
    rw [inFr li]
    exact (inTo (p := p - 1) li).trans ⟨fun h => by omega, fun h => by omega⟩
  · cases (show c = false from e)
    rw [inTo li]
    exact (inFr (p := p + 1) li).trans ⟨fun h => by omega, fun h => by omega⟩
theorem Tn.in' (rok : ∀ q ∈ rs, RuleOk tops q) {st : List Int} (hg : st ∈ goods tops rs) {s : Sd} (ok : SideOk tops s) (h : Tn tops rs s) : inB st s = true := by
  obtain ⟨o, eo, z, hz, wi⟩ := h
  have oo := oth_ok ok eo
  cases e : inB st s with
  | true => rfl
  | false =>
    have io : inB st o = true := by rw [oth_in hg ok eo, e]; rfl
    have iz := hz.in' rok (fun s (h : s = o) => h ▸ oo) hg (fun s (h : s = o) => h ▸ io)
    have oz := hz.ok rok (fun s (h : s = o) => h ▸ oo)
    rw [in_span hg oz] at iz
    rw [within_iff] at wi
    have : inB st s = true := (in_span hg ok).mpr (by
      obtain ⟨w1, w2, w3⟩ := wi
      rw [w1] at iz
      omega)
    rw [e] at this
    cases this
theorem frc_ok (rok : ∀ q ∈ rs, RuleOk tops q) {s : Sd} (h : Frc tops rs s) : SideOk tops s := by
  obtain ⟨⟨q, hq, rfl | rfl⟩, _⟩ := h
  · exact (rok q hq).1
  · exact (rok q hq).2
theorem reach_rule {w z : Sd} (h : Rea tops rs (· = w) z) (ne : z ≠ w) : RuleSd rs z := by
  cases h with
  | base e => exact absurd e ne
  | step _ l =>
    obtain ⟨q, hq, ⟨_, rfl⟩ | ⟨_, rfl⟩⟩ := led_iff.mp l
    · exact ⟨q, hq, .inr rfl⟩
    · exact ⟨q, hq, .inl rfl⟩
/-- the bounds that follow of what is forced are taken by good standings -/
theorem least_ex (rok : ∀ q ∈ rs, RuleOk tops q) (pl : ∀ i, i < tops.length → 0 ≤ plc tops i) {st : List Int} (hg : st ∈ goods tops rs) {lows highs : List Int} (F : Fol tops rs (Frc tops rs) lows highs) {i : Nat} (li : i < tops.length) : ∃ g ∈ goods tops rs, plc g i = plc lows i := by
  have hS : ∀ s, Frc tops rs s → SideOk tops s := fun s h => frc_ok rok h
  have hin : ∀ g ∈ goods tops rs, ∀ s, Frc tops rs s → inB g s = true := fun g hg s h => h.2.in' rok hg (hS s h)
  have l0 := F.lz i li
  have lt : plc lows i ≤ plc tops i := by
    have := F.cross rok hS hg (hin st hg) i li
    have := F.hz i li
    omega
  have okw : SideOk tops (i, false, plc lows i) := SideOk.mk' li l0 lt
  rcases some_good rok pl hg okw with ⟨g, hg', ig⟩ | ⟨z, hz, bz⟩
  · refine ⟨g, hg', ?_⟩
    have := (in_span hg' okw).mp ig
    have h2 : plc g i ≤ plc lows i := this.2
    have := (F.sound rok hS hg' (hin g hg') li).1
    omega
  · exfalso
    have oz := hz.ok rok (fun s (h : s = _) => h ▸ okw)
    have bd := oz.bd
    rw [bars_iff] at bz
    obtain ⟨e1, e2⟩ := bz
    obtain ⟨k, c, q⟩ := z
    simp only at e1 bd
    subst e1
    cases c with
    | false =>
      have e2' : q < 0 ∨ plc lows k < 0 := e2
      omega
    | true =>
      have e2' : plc tops k < 0 ∨ plc lows k < q := e2
      have hq : plc lows k < q := by omega
      have ne : ((k, true, q) : Sd) ≠ (k, false, plc lows k) := fun e => by cases e
      rcases hz.first with e | ⟨r, hr, f, x, ef, bf, rx⟩
      · exact ne e
      · have of' : SideOk tops f := by
          rcases ef with ⟨rfl, _⟩ | ⟨rfl, _⟩
          · exact (rok r hr).1
          · exact (rok r hr).2
        have rf : RuleSd rs f := by
          rcases ef with ⟨rfl, _⟩ | ⟨rfl, _⟩
          · exact ⟨r, hr, .inl rfl⟩
          · exact ⟨r, hr, .inr rfl⟩
        have bf' := of'.bd
        rw [bars_iff] at bf
        obtain ⟨e1, e2⟩ := bf
        obtain ⟨k', c, p⟩ := f
        simp only at e1 bf'
        subst e1
        cases c with
        | false =>
          have e2' : plc lows k < 0 ∨ p < 0 := e2
          omega
        | true =>
          have e2' : plc lows k < p ∨ plc tops k < 0 := e2
          have hp : plc lows k < p := by omega
          have led : ∀ m : Int, m < p → x ∈ ledL tops rs (k, false, m) := fun m hm => by
            have bb : barsB tops (k, false, m) (k, true, p) = true := by
              rw [bars_iff]
              exact ⟨rfl, .inl hm⟩
            rcases ef with ⟨e, rfl⟩ | ⟨e, rfl⟩
            · exact led_iff.mpr ⟨r, hr, .inl ⟨by rw [e]; exact bb, rfl⟩⟩
            · exact led_iff.mpr ⟨r, hr, .inr ⟨by rw [e]; exact bb, rfl⟩⟩
          by_cases c : p ≤ q
          · have : Frc tops rs (k, true, p) := by
              refine ⟨rf, (k, false, p - 1), oth_from (by omega), (k, true, q), (Rea.step (Rea.refl _) (led (p - 1) (by omega))).trans rx, ?_⟩
              rw [within_iff]
              exact ⟨rfl, c, Int.le_refl _⟩
            have := F.l1 k p (.base this)
            omega
          · have : Frc tops rs (k, true, q) := by
              refine ⟨reach_rule hz ne, (k, false, q - 1), oth_from (by omega), (k, true, q), (Rea.step (Rea.refl _) (led (q - 1) (by omega))).trans rx, ?_⟩
              rw [within_iff]
              exact ⟨rfl, Int.le_refl _, Int.le_refl _⟩
            have := F.l1 k q (.base this)
            omega
theorem most_ex (rok : ∀ q ∈ rs, RuleOk tops q) (pl : ∀ i, i < tops.length → 0 ≤ plc tops i) {st : List Int} (hg : st ∈ goods tops rs) {lows highs : List Int} (F : Fol tops rs (Frc tops rs) lows highs) {i : Nat} (li : i < tops.length) : ∃ g ∈ goods tops rs, plc g i = plc highs i := by
  have hS : ∀ s, Frc tops rs s → SideOk tops s := fun s h => frc_ok rok h
  have hin : ∀ g ∈ goods tops rs, ∀ s, Frc tops rs s → inB g s = true := fun g hg s h => h.2.in' rok hg (hS s h)
  have l0 := F.hz i li
  have lt : 0 ≤ plc highs i := by
    have := F.cross rok hS hg (hin st hg) i li
    have := F.lz i li
    omega
  have okw : SideOk tops (i, true, plc highs i) := SideOk.mk' li lt l0
  rcases some_good rok pl hg okw with ⟨g, hg', ig⟩ | ⟨z, hz, bz⟩
  · refine ⟨g, hg', ?_⟩
    have := (in_span hg' okw).mp ig
    have h2 : plc highs i ≤ plc g i := this.1
    have := (F.sound rok hS hg' (hin g hg') li).2
    omega
  · exfalso
    have oz := hz.ok rok (fun s (h : s = _) => h ▸ okw)
    have bd := oz.bd
    rw [bars_iff] at bz
    obtain ⟨e1, e2⟩ := bz
    obtain ⟨k, c, q⟩ := z
    simp only at e1 bd
    subst e1
    cases c with
    | true =>
      have e2' : plc tops k < plc highs k ∨ plc tops k < q := e2
      omega
    | false =>
      have e2' : q < plc highs k ∨ plc tops k < 0 := e2
      have hq : q < plc highs k := by omega
      have ne : ((k, false, q) : Sd) ≠ (k, true, plc highs k) := fun e => by cases e
      rcases hz.first with e | ⟨r, hr, f, x, ef, bf, rx⟩
      · exact ne e
      · have of' : SideOk tops f := by
          rcases ef with ⟨rfl, _⟩ | ⟨rfl, _⟩
          · exact (rok r hr).1
          · exact (rok r hr).2
        have rf : RuleSd rs f := by
          rcases ef with ⟨rfl, _⟩ | ⟨rfl, _⟩
          · exact ⟨r, hr, .inl rfl⟩
          · exact ⟨r, hr, .inr rfl⟩
        have bf' := of'.bd
        rw [bars_iff] at bf
        obtain ⟨e1, e2⟩ := bf
        obtain ⟨k', c, p⟩ := f
        simp only at e1 bf'
        subst e1
        cases c with
        | true =>
          have e2' : plc tops k < p ∨ plc tops k < plc highs k := e2
          omega
        | false =>
          have e2' : plc tops k < 0 ∨ p < plc highs k := e2
          have hp : p < plc highs k := by omega
          have led : ∀ m : Int, p < m → x ∈ ledL tops rs (k, true, m) := fun m hm => by
            have bb : barsB tops (k, true, m) (k, false, p) = true := by
              rw [bars_iff]
              exact ⟨rfl, .inr hm⟩
            rcases ef with ⟨e, rfl⟩ | ⟨e, rfl⟩
            · exact led_iff.mpr ⟨r, hr, .inl ⟨by rw [e]; exact bb, rfl⟩⟩
            · exact led_iff.mpr ⟨r, hr, .inr ⟨by rw [e]; exact bb, rfl⟩⟩
          have oth : ∀ m : Int, m < plc highs k → othS tops (k, false, m) = some (k, true, m + 1) := fun m hm => oth_to (by omega)
          by_cases c : q ≤ p
          · have : Frc tops rs (k, false, p) := by
              refine ⟨rf, (k, true, p + 1), oth p hp, (k, false, q), (Rea.step (Rea.refl _) (led (p + 1) (by omega))).trans rx, ?_⟩
              rw [within_iff]
              exact ⟨rfl, Int.le_refl _, c⟩
            have := F.h1 k p (.base this)
            omega
          · have : Frc tops rs (k, false, q) := by
              refine ⟨reach_rule hz ne, (k, true, q + 1), oth q hq, (k, false, q), (Rea.step (Rea.refl _) (led (q + 1) (by omega))).trans rx, ?_⟩
              rw [within_iff]
              exact ⟨rfl, Int.le_refl _, Int.le_refl _⟩
            have := F.h1 k q (.base this)
            omega
end
end K16

set_option Elab.async false
set_option linter.all false
set_option maxRecDepth 100000
namespace K16
open PySem PySem.Spec PyProof.Rows L2 NB
theorem tand_join {c x : Bool} {tb : TE} {σ : L2.St} {H : Hp} {K : VK} (hb : ∀ Q : VK, Q (.bl x) H → tb σ H Q) (q : K (.bl (c && x)) H) : if c = true then tb σ H K else K (.bl false) H := by
  cases c with
  | true => exact hb K q
  | false => exact q
theorem tif_join {c : Bool} {v : V} {ta tb : TE} {σ : L2.St} {H : Hp} {K : VK} (ha : c = true → ∀ Q : VK, Q v H → ta σ H Q) (hb : ¬ c = true → ∀ Q : VK, Q v H → tb σ H Q) (q : K v H) : if c = true then ta σ H K else tb σ H K := by
  cases c with
  | true => exact ha rfl K q
  | false => exact hb (by simp) K q
theorem tand_joinT {c x : Bool} {u : TT} {σ : L2.St} {H : Hp} {Q : Bool → Hp → Prop} (hu : ∀ Q : Bool → Hp → Prop, Q x H → u σ H Q) (q : Q (c && x) H) : if c = true then u σ H Q else Q false H := by
  cases c with
  | true => exact hu Q q
  | false => exact q
theorem tor_join {c x : Bool} {u : TT} {σ : L2.St} {H : Hp} {Q : Bool → Hp → Prop} (hu : ∀ Q : Bool → Hp → Prop, Q x H → u σ H Q) (q : Q (c || x) H) : if c = true then Q true H else u σ H Q := by
  cases c with
  | true => exact q
  | false => exact hu Q q

/-! ### sides: spans, the other one, what bars and what is within -/
theorem iteTr {c : Bool} {A B : Prop} (e : c = true) (h : A) : if c = true then A else B := by rw [e]; exact h
theorem iteFa {c : Bool} {A B : Prop} (e : c = false) (h : B) : if c = true then A else B := by rw [e]; exact h
theorem Room.u1 {k : Nat} {A : Around} (r : Room k A) : A.units + 1 < cLine := by
  have := r.un
  omega
theorem plc_at {xs : List Int} {i : Nat} (h : i < xs.length) : atI (xs.map V.int) (i : Int) = some (.int (plc xs i)) := by
  rw [plc_get h]
  exact at_int h
/-- None, or a side -/
def OthAt (H : Hp) (v : V) : Option Sd → Prop
  | none => v = .non
  | some s => ∃ g, v = .ref g ∧ SideAt H g s
theorem OthAt.keep {H H' : Hp} {v : V} {o : Option Sd} (h : OthAt H v o) (k : Keep H H') : OthAt H' v o := by
  cases o with
  | none => exact h
  | some s =>
    obtain ⟨g, e, hs⟩ := h
    exact ⟨g, e, hs.keep k⟩
abbrev sdR (L : List (Addr × Sd)) : List V := L.map fun z => V.ref z.1
def SdsAt (H : Hp) (L : List (Addr × Sd)) : Prop := ∀ z ∈ L, SideAt H z.1 z.2
theorem SdsAt.keep {H H' : Hp} {L : List (Addr × Sd)} (h : SdsAt H L) (k : Keep H H') : SdsAt H' L := fun z hz => (h z hz).keep k
theorem SdsAt.snoc {H : Hp} {L : List (Addr × Sd)} {z : Addr × Sd} (h : SdsAt H L) (hz : SideAt H z.1 z.2) : SdsAt H (L ++ [z]) := fun y hy => by
  rcases List.mem_append.mp hy with h' | h'
  · exact h y h'
  · rw [List.mem_singleton.mp h']
    exact hz
section
variable {P : Program} {w : World} {K : PySem.W.Frag} {mg : Str → Option Value} {base : Heap}
def spSpan (C : Addr) : Sp := fun vs H Q _ => ∃ (x p : Addr) (tops : List Int) (rs : List Rl) (sd : Sd), vs = [.ref x, .ref p] ∧ PlanAt C H x tops rs ∧ SideAt H p sd ∧ SideOk tops sd ∧
  ∀ H' g, Same H H' → H' g = some (.tup [.int (loS sd), .int (hiS tops sd)]) → Q (.ref g) H'
abbrev a_span : Stmt := topS 17
abbrev n_span : List Str := ["plan", "side", "thing", "word", "place"]
theorem sc_span : FnScope n_span ["plan", "side"] (defScope a_span) := ⟨rfl, rfl, rfl, by decide +kernel, rfl, by decide +kernel, by decide +kernel⟩
set_option maxHeartbeats 8000000 in
theorem ok_span {f  : Addr} {fd  : FuncData} {k : Nat} {C : Addr} (F : Fun K "span" "span" a_span f fd)  (T : PlanTxt K mg C)  : FnOk P w K mg base CX0 (k + 1) f fd ["plan", "side"] (spSpan C) := by
  refine F.ok sc_span (fun vs H Q E h => ?_) (fun cdv A outer s H vs Q E hr h => ?_)
  · obtain ⟨x, p, tops, rs, sd, rfl, _⟩ := h
    rfl
  · obtain ⟨x, p, tops, rs, sd, rfl, ⟨dx, t, R, ex, et, hR⟩, hs, ok, q⟩ := h
    refine ⟨_, (pss_cons (ps_asg (pv 1) (pg_tup rfl (pgs_cons (pg_name (i := 2) sc_span.nd rfl (.inl rfl)) (pgs_cons (pg_name (i := 3) sc_span.nd rfl (.inl rfl)) (pgs_cons (pg_name (i := 4) sc_span.nd rfl (.inl rfl)) pgs_nil)))))
      (pss_cons (ps_if (pt_cmpR op_eq (pv 3) pe_str (nomark _)) (pss_one (ps_ret (pe_tup (pa_cons (pv 4) (pa_cons (pe_ix ix_tup (pe_fld (pv 0) rfl) (pv 2) (fun _ _ => rfl)) pa_nil))))) pss_nil)
      (pss_one (ps_ret (pe_tup (pa_cons pe_int (pa_cons (pv 4) pa_nil))))))), ?_⟩
    have z2 : (2 : Nat) ≤ sizeLine := by decide
    have at1 := plc_at ok.lt
    refine ⟨.ref p, rfl, p, _, rfl, .inl (.inl hs), rfl, _, _, rfl, _, _, rfl, _, _, rfl, rfl, _, rfl, rfl, _, rfl, ?_⟩
    obtain ⟨i, b, m⟩ := sd
    cases b with
    | true =>
      refine iteTr w_from ⟨_, rfl, .ref x, rfl, x, C, dx, _, _, rfl, ex, T.cl, T.nT, look_tops _ _, _, rfl, t, _, i, _, rfl, rfl, .inl (.inl et), at1, z2, fun g ng => q _ g (same_new ng) ?_⟩
      rw [upd_same]
      rfl
    | false =>
      refine iteFa w_to ⟨_, rfl, z2, fun g ng => q _ g (same_new ng) ?_⟩
      rw [upd_same]
      rfl
def spOth (C : Addr) : Sp := fun vs H Q _ => ∃ (x p : Addr) (tops : List Int) (rs : List Rl) (sd : Sd), vs = [.ref x, .ref p] ∧ PlanAt C H x tops rs ∧ SideAt H p sd ∧ SideOk tops sd ∧
  ∀ H' v, Same H H' → OthAt H' v (othS tops sd) → Q v H'
abbrev a_other_side : Stmt := topS 18
abbrev n_other_side : List Str := ["plan", "side", "thing", "low", "high"]
theorem sc_other_side : FnScope n_other_side ["plan", "side"] (defScope a_other_side) := ⟨rfl, rfl, rfl, by decide +kernel, rfl, by decide +kernel, by decide +kernel⟩
set_option maxHeartbeats 8000000 in
theorem ok_other_side {f fSn : Addr} {fd fdSn : FuncData} {k : Nat} {C : Addr} (F : Fun K "other_side" "other_side" a_other_side f fd) (Sn : Kn P w K mg base 1 "span" ["plan", "side"] (spSpan C) fSn fdSn) (T : PlanTxt K mg C)  : FnOk P w K mg base CX0 (k + 2) f fd ["plan", "side"] (spOth C) := by
  refine F.ok sc_other_side (fun vs H Q E h => ?_) (fun cdv A outer s H vs Q E hr h => ?_)
  · obtain ⟨x, p, tops, rs, sd, rfl, _⟩ := h
    rfl
  · obtain ⟨x, p, tops, rs, sd, rfl, hp, hs, ok, q⟩ := h
    refine ⟨_, (pss_cons (ps_set (i := 2) sc_other_side.nd rfl (.inl rfl) (pe_ix ix_tup (pv 1) pe_int (fun _ _ => rfl)))
      (pss_cons (ps_asg (pe_kn Sn hr (by omega) (pa_cons (pv 0) (pa_cons (pv 1) pa_nil))) (pg_tup rfl (pgs_cons (pg_name (i := 3) sc_other_side.nd rfl (.inl rfl)) (pgs_cons (pg_name (i := 4) sc_other_side.nd rfl (.inl rfl)) pgs_nil))))
      (pss_cons (ps_if (pt_cmpR op_gt (pv 3) pe_int (nomark _)) (pss_one (ps_ret (pe_tup (pa_cons (pv 2) (pa_cons pe_str (pa_cons (pe_op op_sub (pv 3) pe_int) pa_nil)))))) pss_nil)
      (pss_cons (ps_if (pt_cmpR op_lt (pv 4) (pe_ix ix_tup (pe_fld (pv 0) rfl) (pv 2) (fun _ _ => rfl)) (nomark _)) (pss_one (ps_ret (pe_tup (pa_cons (pv 2) (pa_cons pe_str (pa_cons (pe_op op_add (pv 4) pe_int) pa_nil)))))) pss_nil)
      (pss_one (ps_ret pe_non)))))), ?_⟩
    have z3 : (3 : Nat) ≤ sizeLine := by decide
    have at1 := plc_at ok.lt
    refine ⟨.ref p, rfl, p, _, 0, _, rfl, rfl, .inl (.inl hs), rfl, .ref x, rfl, .ref p, rfl, x, p, tops, rs, sd, rfl, hp, hs, ok, fun H1 g s1 eg => ?_⟩
    obtain ⟨dx, t, R, ex, et, hR⟩ := hp.keep (.same s1)
    refine ⟨g, _, rfl, .inl (.inl eg), rfl, _, _, rfl, _, _, rfl, rfl, _, rfl, _, _, rfl, rfl, _, rfl, ite2 (fun c => ?_) (fun c => ?_)⟩
    · have c' := of_decide_eq_true c
      refine ⟨_, rfl, _, rfl, _, 1, rfl, rfl, z3, fun g' ng => q _ _ (s1.trans (same_new ng)) ?_⟩
      have e : othS tops sd = some (sd.1, false, loS sd - 1) := by
        unfold othS
        rw [if_pos c']
      rw [e]
      exact ⟨g', rfl, upd_same⟩
    · have c' : ¬ 0 < loS sd := fun z => c (decide_eq_true z)
      refine ⟨_, rfl, .ref x, rfl, x, C, dx, _, _, rfl, ex, T.cl, T.nT, look_tops _ _, _, rfl, t, _, sd.1, _, rfl, rfl, .inl (.inl et), at1, _, _, rfl, rfl, _, rfl, ite2 (fun d => ?_) (fun d => ?_)⟩
      · have d' := of_decide_eq_true d
        refine ⟨_, rfl, _, rfl, _, 1, rfl, rfl, z3, fun g' ng => q _ _ (s1.trans (same_new ng)) ?_⟩
        have e : othS tops sd = some (sd.1, true, hiS tops sd + 1) := by
          unfold othS
          rw [if_neg c', if_pos d']
        rw [e]
        exact ⟨g', rfl, upd_same⟩
      · have d' : ¬ hiS tops sd < plc tops sd.1 := fun z => d (decide_eq_true z)
        refine q _ _ s1 ?_
        have e : othS tops sd = none := by
          unfold othS
          rw [if_neg c', if_neg d']
        rw [e]
        rfl
def spTwo (C : Addr) (B : List Int → Sd → Sd → Bool) : Sp := fun vs H Q _ => ∃ (x p r : Addr) (tops : List Int) (rs : List Rl) (a b : Sd), vs = [.ref x, .ref p, .ref r] ∧ PlanAt C H x tops rs ∧ SideAt H p a ∧ SideAt H r b ∧ SideOk tops a ∧ SideOk tops b ∧
  ∀ H', Same H H' → Q (.bl (B tops a b)) H'
abbrev a_bars : Stmt := topS 19
abbrev n_bars : List Str := ["plan", "one", "other", "low", "high", "least", "most"]
theorem sc_bars : FnScope n_bars ["plan", "one", "other"] (defScope a_bars) := ⟨rfl, rfl, rfl, by decide +kernel, rfl, by decide +kernel, by decide +kernel⟩
set_option maxHeartbeats 8000000 in
theorem ok_bars {f fSn : Addr} {fd fdSn : FuncData} {k : Nat} {C : Addr} (F : Fun K "bars" "bars" a_bars f fd) (Sn : Kn P w K mg base 1 "span" ["plan", "side"] (spSpan C) fSn fdSn)   : FnOk P w K mg base CX0 (k + 2) f fd ["plan", "one", "other"] (spTwo C barsB) := by
  refine F.ok sc_bars (fun vs H Q E h => ?_) (fun cdv A outer s H vs Q E hr h => ?_)
  · obtain ⟨x, p, r, tops, rs, a, b, rfl, _⟩ := h
    rfl
  · obtain ⟨x, p, r, tops, rs, a, b, rfl, hp, hs, ht, oa, ob, q⟩ := h
    refine ⟨_, (pss_cons (ps_if (pt_cmpR op_ne (pe_ix ix_tup (pv 1) pe_int (fun _ _ => rfl)) (pe_ix ix_tup (pv 2) pe_int (fun _ _ => rfl)) (nomark _)) (pss_one (ps_ret pe_bl)) pss_nil)
      (pss_cons (ps_asg (pe_kn Sn hr (by omega) (pa_cons (pv 0) (pa_cons (pv 1) pa_nil))) (pg_tup rfl (pgs_cons (pg_name (i := 3) sc_bars.nd rfl (.inl rfl)) (pgs_cons (pg_name (i := 4) sc_bars.nd rfl (.inl rfl)) pgs_nil))))
      (pss_cons (ps_asg (pe_kn Sn hr (by omega) (pa_cons (pv 0) (pa_cons (pv 2) pa_nil))) (pg_tup rfl (pgs_cons (pg_name (i := 5) sc_bars.nd rfl (.inl rfl)) (pgs_cons (pg_name (i := 6) sc_bars.nd rfl (.inl rfl)) pgs_nil))))
      (pss_one (ps_ret (pe_or (pe_cmpR op_lt (pv 4) (pv 5) (nomark _)) (pe_one (pe_cmpR op_lt (pv 6) (pv 3) (nomark _))))))))), ?_⟩
    refine ⟨.ref p, rfl, p, _, 0, _, rfl, rfl, .inl (.inl hs), rfl, .ref r, rfl, r, _, 0, _, rfl, rfl, .inl (.inl ht), rfl, rfl, _, rfl, ite2 (fun c => ?_) (fun c => ?_)⟩
    · have ne : ¬ a.1 = b.1 := fun z => by
        rw [z] at c
        simp at c
      have e : barsB tops a b = false := by
        unfold barsB
        rw [decide_eq_false ne, Bool.false_and]
      rw [e] at q
      exact q H (Same.refl H)
    · have eq : a.1 = b.1 := by
        rw [Bool.not_eq_true, Bool.not_eq_false'] at c
        have := of_decide_eq_true c
        injection this with h
        omega
      refine ⟨.ref x, rfl, .ref p, rfl, x, p, tops, rs, a, rfl, hp, hs, oa, fun H1 g1 s1 e1 => ⟨g1, _, rfl, .inl (.inl e1), rfl, _, _, rfl, _, _, rfl, rfl, ?_⟩⟩
      refine ⟨.ref x, rfl, .ref r, rfl, x, r, tops, rs, b, rfl, hp.keep (.same s1), ht.keep (.same s1), ob, fun H2 g2 s2 e2 => ⟨g2, _, rfl, .inl (.inl e2), rfl, _, _, rfl, _, _, rfl, rfl, ?_⟩⟩
      have e : barsB tops a b = (decide (hiS tops a < loS b) || decide (hiS tops b < loS a)) := by
        unfold barsB
        rw [decide_eq_true eq, Bool.true_and]
      rw [e] at q
      refine ⟨_, rfl, _, rfl, _, _, rfl, rfl, _, rfl, ite2 (fun c => ?_) (fun c => ?_)⟩
      · rw [c, Bool.true_or] at q
        exact q H2 (s1.trans s2)
      · rw [Bool.not_eq_true] at c
        rw [c, Bool.false_or] at q
        exact ⟨_, rfl, _, rfl, _, _, rfl, rfl, q H2 (s1.trans s2)⟩
abbrev a_is_within : Stmt := topS 20
abbrev n_is_within : List Str := ["plan", "one", "other", "low", "high", "least", "most"]
theorem sc_is_within : FnScope n_is_within ["plan", "one", "other"] (defScope a_is_within) := ⟨rfl, rfl, rfl, by decide +kernel, rfl, by decide +kernel, by decide +kernel⟩
set_option maxHeartbeats 8000000 in
theorem ok_is_within {f fSn : Addr} {fd fdSn : FuncData} {k : Nat} {C : Addr} (F : Fun K "is_within" "is_within" a_is_within f fd) (Sn : Kn P w K mg base 1 "span" ["plan", "side"] (spSpan C) fSn fdSn)   : FnOk P w K mg base CX0 (k + 2) f fd ["plan", "one", "other"] (spTwo C withinB) := by
  refine F.ok sc_is_within (fun vs H Q E h => ?_) (fun cdv A outer s H vs Q E hr h => ?_)
  · obtain ⟨x, p, r, tops, rs, a, b, rfl, _⟩ := h
    rfl
  · obtain ⟨x, p, r, tops, rs, a, b, rfl, hp, hs, ht, oa, ob, q⟩ := h
    refine ⟨_, (pss_cons (ps_if (pt_cmpR op_ne (pe_ix ix_tup (pv 1) pe_int (fun _ _ => rfl)) (pe_ix ix_tup (pv 2) pe_int (fun _ _ => rfl)) (nomark _)) (pss_one (ps_ret pe_bl)) pss_nil)
      (pss_cons (ps_asg (pe_kn Sn hr (by omega) (pa_cons (pv 0) (pa_cons (pv 1) pa_nil))) (pg_tup rfl (pgs_cons (pg_name (i := 3) sc_is_within.nd rfl (.inl rfl)) (pgs_cons (pg_name (i := 4) sc_is_within.nd rfl (.inl rfl)) pgs_nil))))
      (pss_cons (ps_asg (pe_kn Sn hr (by omega) (pa_cons (pv 0) (pa_cons (pv 2) pa_nil))) (pg_tup rfl (pgs_cons (pg_name (i := 5) sc_is_within.nd rfl (.inl rfl)) (pgs_cons (pg_name (i := 6) sc_is_within.nd rfl (.inl rfl)) pgs_nil))))
      (pss_one (ps_ret (pe_and (pe_cmpR op_le (pv 5) (pv 3) (nomark _)) (pe_one (pe_cmpR op_le (pv 4) (pv 6) (nomark _))))))))), ?_⟩
    refine ⟨.ref p, rfl, p, _, 0, _, rfl, rfl, .inl (.inl hs), rfl, .ref r, rfl, r, _, 0, _, rfl, rfl, .inl (.inl ht), rfl, rfl, _, rfl, ite2 (fun c => ?_) (fun c => ?_)⟩
    · have ne : ¬ a.1 = b.1 := fun z => by
        rw [z] at c
        simp at c
      have e : withinB tops a b = false := by
        unfold withinB
        rw [decide_eq_false ne, Bool.false_and]
      rw [e] at q
      exact q H (Same.refl H)
    · have eq : a.1 = b.1 := by
        rw [Bool.not_eq_true, Bool.not_eq_false'] at c
        have := of_decide_eq_true c
        injection this with h
        omega
      refine ⟨.ref x, rfl, .ref p, rfl, x, p, tops, rs, a, rfl, hp, hs, oa, fun H1 g1 s1 e1 => ⟨g1, _, rfl, .inl (.inl e1), rfl, _, _, rfl, _, _, rfl, rfl, ?_⟩⟩
      refine ⟨.ref x, rfl, .ref r, rfl, x, r, tops, rs, b, rfl, hp.keep (.same s1), ht.keep (.same s1), ob, fun H2 g2 s2 e2 => ⟨g2, _, rfl, .inl (.inl e2), rfl, _, _, rfl, _, _, rfl, rfl, ?_⟩⟩
      have e : withinB tops a b = (decide (loS b ≤ loS a) && decide (hiS tops a ≤ hiS tops b)) := by
        unfold withinB
        rw [decide_eq_true eq, Bool.true_and]
      rw [e] at q
      refine ⟨_, rfl, _, rfl, _, _, rfl, rfl, _, rfl, ite2 (fun c => ?_) (fun c => ?_)⟩
      · rw [c, Bool.true_and] at q
        exact ⟨_, rfl, _, rfl, _, _, rfl, rfl, q H2 (s1.trans s2)⟩
      · rw [Bool.not_eq_true] at c
        rw [c, Bool.false_and] at q
        exact q H2 (s1.trans s2)
theorem led_take (tops : List Int) (sd : Sd) (rs : List Rl) (i : Nat) (q : Rl) (h : rs[i]? = some q) : ledL tops (rs.take (i + 1)) sd = ledL tops (rs.take i) sd ++ led1 tops sd q := by
  unfold ledL
  rw [List.take_add_one, h, List.flatMap_append]
  simp
theorem led_len (tops : List Int) (sd : Sd) (rs : List Rl) : (ledL tops rs sd).length ≤ 2 * rs.length := by
  unfold ledL
  induction rs with
  | nil => exact Nat.le_refl _
  | cons q rs ih =>
    rw [List.flatMap_cons, List.length_append, List.length_cons]
    have : (led1 tops sd q).length ≤ 2 := by
      unfold led1
      rw [List.length_append]
      split <;> split <;> simp
    omega
def spLed (C : Addr) : Sp := fun vs H Q _ => ∃ (x p : Addr) (tops : List Int) (rs : List Rl) (sd : Sd), vs = [.ref x, .ref p] ∧ PlanAt C H x tops rs ∧ SideAt H p sd ∧ SideOk tops sd ∧ (∀ q ∈ rs, RuleOk tops q) ∧ rs.length ≤ 40 ∧
  ∀ H' l L, Same H H' → H l = none → H' l = some (.lst (sdR L)) → SdsAt H' L → L.map (·.2) = ledL tops rs sd → Q (.ref l) H'
abbrev a_led_by_rules : Stmt := topS 21
abbrev n_led_by_rules : List Str := ["plan", "side", "found", "first", "second"]
theorem sc_led_by_rules : FnScope n_led_by_rules ["plan", "side"] (defScope a_led_by_rules) := ⟨rfl, rfl, rfl, by decide +kernel, rfl, by decide +kernel, by decide +kernel⟩
set_option maxHeartbeats 8000000 in
theorem ok_led_by_rules {f fBr : Addr} {fd fdBr : FuncData} {k : Nat} {C : Addr} (F : Fun K "led_by_rules" "led_by_rules" a_led_by_rules f fd) (Br : Kn P w K mg base 2 "bars" ["plan", "one", "other"] (spTwo C barsB) fBr fdBr) (T : PlanTxt K mg C)  : FnOk P w K mg base CX0 (k + 3) f fd ["plan", "side"] (spLed C) := by
  refine F.ok sc_led_by_rules (fun vs H Q E h => ?_) (fun cdv A outer s H vs Q E hr h => ?_)
  · obtain ⟨x, p, tops, rs, sd, rfl, _⟩ := h
    rfl
  · obtain ⟨x, p, tops, rs, sd, rfl, hp, hs, ok, rok, l40, q⟩ := h
    refine ⟨_, (pss_cons (ps_set (i := 2) sc_led_by_rules.nd rfl (.inl rfl) (pe_lst pa_nil))
      (pss_cons (ps_for PassesOwn.never rfl (pi_tup (pe_fld (pv 0) rfl)) (pg_tup rfl (pgs_cons (pg_name (i := 3) sc_led_by_rules.nd rfl (.inl rfl)) (pgs_cons (pg_name (i := 4) sc_led_by_rules.nd rfl (.inl rfl)) pgs_nil)))
        (C8.pss_cut (ps_if (pt_val (pe_kn Br hr (by omega) (pa_cons (pv 0) (pa_cons (pv 1) (pa_cons (pv 3) pa_nil))))) (pss_one (ps_expr (pe_bm PySem.F.plainAttrs_list PySem.F.slot_list_append PySem.F.type_list_append mt_append (pv 2) (pa_cons (pv 4) pa_nil)))) pss_nil)
      (pss_one (ps_if (pt_val (pe_kn Br hr (by omega) (pa_cons (pv 0) (pa_cons (pv 1) (pa_cons (pv 4) pa_nil))))) (pss_one (ps_expr (pe_bm PySem.F.plainAttrs_list PySem.F.slot_list_append PySem.F.type_list_append mt_append (pv 2) (pa_cons (pv 3) pa_nil)))) pss_nil))))
      (pss_one (ps_ret (pv 2))))), ?_⟩
    have hp' := hp
    obtain ⟨dx, t, R, ex, et, as, eR, la, ha⟩ := hp'
    refine ⟨Nat.zero_le _, fun l nl => ?_⟩
    have s0 : Same H (upd H l (.lst [])) := same_new nl
    refine ⟨.ref x, rfl, x, C, dx, _, _, rfl, s0 _ _ ex, T.cl, T.nR, look_rules _ _, R, rfl, ⟨_, .inl (.inl (s0 _ _ eR))⟩, for_it (walk_tup (xs := as.map V.ref)) (fun i σ H' => (∃ u3 u4, σ = [some (.ref x), some (.ref p), some (.ref l), u3, u4]) ∧ Same H H' ∧ ∃ L, H' l = some (.lst (sdR L)) ∧ SdsAt H' L ∧ L.map (·.2) = ledL tops (rs.take i) sd)
      ⟨⟨none, none, rfl⟩, s0, [], upd_same, (fun _ h => absurd h List.not_mem_nil), rfl⟩ (fun i σ H' _ y => .inl (.inl (y.2.1 _ _ eR))) (fun i v σ H1 H2 hi y z => ?_) (fun σ H1 y => ?_)⟩
    · obtain ⟨⟨u3, u4, rfl⟩, s1, L, el, hL, eL⟩ := y
      obtain ⟨rfl, gv⟩ := z
      obtain ⟨r, er, rfl⟩ := mapGet gv
      have hi' : i < as.length := by simpa using hi
      have eq : rs[i]? = some rs[i] := List.getElem?_eq_getElem (by omega)
      have okq := rok _ (List.getElem_mem (show i < rs.length by omega))
      obtain ⟨p1, p2, eR1, h1, h2⟩ := (ha i r _ er eq).keep (.same s1)
      have lL : L.length ≤ 80 := by
        have := congrArg List.length eL
        rw [List.length_map] at this
        have h := led_len tops sd (rs.take i)
        rw [List.length_take] at h
        omega
      refine ⟨r, _, rfl, .inl (.inl eR1), rfl, _, _, rfl, _, _, rfl, rfl, ?_⟩
      refine ⟨fun σ H' => σ = [some (.ref x), some (.ref p), some (.ref l), some (.ref p1), some (.ref p2)] ∧ Same H H' ∧ Keep H2 H' ∧ ∃ L', H' l = some (.lst (sdR L')) ∧ SdsAt H' L' ∧ L'.map (·.2) = ledL tops (rs.take i) sd ++ (if barsB tops sd rs[i].1 then [rs[i].2] else []), ?_, fun σ H' y => ?_⟩
      · refine ⟨.ref x, rfl, .ref p, rfl, .ref p1, rfl, x, p, p1, tops, rs, sd, _, rfl, hp.keep (.same s1), hs.keep (.same s1), h1, ok, okq.1, fun H3 s3 => ⟨_, rfl, ite2 (fun c => ?_) (fun c => ?_)⟩⟩
        · have el3 := s3 _ _ el
          refine ⟨.ref l, rfl, .inl ⟨rfl, _, .inl (.inl el3)⟩, .ref p2, rfl, l, _, _, rfl, rfl, el3, by rw [List.length_map]; exact small1000 (by omega), rfl, same_over (s1.trans s3) nl, (Keep.same s3).trans (Keep.upd el3), L ++ [(p2, rs[i].2)], by rw [upd_same]; simp [sdR], ((hL.keep (.same s3)).keep (Keep.upd el3)).snoc ((h2.keep (.same s3)).keep (Keep.upd el3)), ?_⟩
          rw [List.map_append, eL, if_pos c]
          rfl
        · refine ⟨rfl, s1.trans s3, Keep.same s3, L, s3 _ _ el, hL.keep (.same s3), ?_⟩
          rw [if_neg c, List.append_nil]
          exact eL
      · obtain ⟨rfl, s3, k3, L', el', hL', eL'⟩ := y
        have lL' : L'.length ≤ 81 := by
          have := congrArg List.length eL'
          rw [List.length_map, List.length_append, ← eL, List.length_map] at this
          have : (if barsB tops sd rs[i].1 then [rs[i].2] else []).length ≤ 1 := by split <;> simp
          omega
        have tk : ledL tops (rs.take (i + 1)) sd = (ledL tops (rs.take i) sd ++ (if barsB tops sd rs[i].1 then [rs[i].2] else [])) ++ (if barsB tops sd rs[i].2 then [rs[i].1] else []) := by
          rw [led_take tops sd rs i _ eq, List.append_assoc]
          rfl
        refine ⟨.ref x, rfl, .ref p, rfl, .ref p2, rfl, x, p, p2, tops, rs, sd, _, rfl, hp.keep (.same s3), hs.keep (.same s3), h2.keep k3, ok, okq.2, fun H4 s4 => ⟨_, rfl, ite2 (fun c => ?_) (fun c => ?_)⟩⟩
        · have el4 := s4 _ _ el'
          refine ⟨.ref l, rfl, .inl ⟨rfl, _, .inl (.inl el4)⟩, .ref p1, rfl, l, _, _, rfl, rfl, el4, by rw [List.length_map]; exact small1000 (by omega), ⟨_, _, rfl⟩, same_over (s3.trans s4) nl, L' ++ [(p1, rs[i].1)], by rw [upd_same]; simp [sdR], ((hL'.keep (.same s4)).keep (Keep.upd el4)).snoc (((h1.keep k3).keep (.same s4)).keep (Keep.upd el4)), ?_⟩
          rw [List.map_append, eL', tk, if_pos c]
          rfl
        · refine ⟨⟨_, _, rfl⟩, s3.trans s4, L', s4 _ _ el', hL'.keep (.same s4), ?_⟩
          rw [tk, eL', if_neg c, List.append_nil]
    · obtain ⟨⟨u3, u4, rfl⟩, s1, L, el, hL, eL⟩ := y
      rw [List.length_map, la, List.take_length] at eL
      exact ⟨_, rfl, q H1 l L s1 nl el hL eL⟩
end

/-! ### rings: where no standing is good -/
theorem max_ex {P : Int → Prop} {B : Int} (hB : ∀ n, P n → n ≤ B) : ∀ (k : Nat) (n : Int), (B - n).toNat ≤ k → P n → ∃ m, P m ∧ n ≤ m ∧ ∀ r, P r → r ≤ m
  | 0, n, hk, h => ⟨n, h, Int.le_refl _, fun r hr => by have := hB r hr; have := hB n h; omega⟩
  | k + 1, n, hk, h => by
    by_cases c : ∃ m, P m ∧ n < m
    · obtain ⟨m, hm, lt⟩ := c
      obtain ⟨r, h1, h2, h3⟩ := max_ex hB k m (by have := hB m hm; omega) hm
      exact ⟨r, h1, by omega, h3⟩
    · exact ⟨n, h, Int.le_refl _, fun r hr => Int.not_lt.mp fun lt => c ⟨r, hr, lt⟩⟩
section
variable {tops : List Int} {rs : List Rl}
theorem within_bars {t t' f : Sd} (w : withinB tops t' t = true) (b : barsB tops t f = true) : barsB tops t' f = true := by
  obtain ⟨w1, w2, w3⟩ := within_iff.mp w
  obtain ⟨b1, b2⟩ := bars_iff.mp b
  exact bars_iff.mpr ⟨w1.trans b1, by omega⟩
theorem within_refl (s : Sd) : withinB tops s s = true := within_iff.mpr ⟨rfl, Int.le_refl _, Int.le_refl _⟩
/-- who is within leads wherever the wider one does -/
theorem Rea.str {t t' z : Sd} (w : withinB tops t' t = true) (h : Rea tops rs (· = t) z) (ne : z ≠ t) : Rea tops rs (· = t') z := by
  rcases h.first with e | ⟨q, hq, f, x, hfx, b, hx⟩
  · exact absurd e ne
  · have b' := within_bars w b
    have led : x ∈ ledL tops rs t' := led_iff.mpr ⟨q, hq, by
      rcases hfx with ⟨rfl, rfl⟩ | ⟨rfl, rfl⟩
      · exact .inl ⟨b', rfl⟩
      · exact .inr ⟨b', rfl⟩⟩
    exact (Rea.step (Rea.refl t') led).trans hx
theorem bars_to {i : Nat} {l : Int} {z : Sd} (oz : SideOk tops z) (l0 : 0 ≤ l) (b : barsB tops z (i, false, l) = true) : ∃ q, z = (i, true, q) ∧ l < q := by
  obtain ⟨b1, b2⟩ := bars_iff.mp b
  have bd := oz.bd
  obtain ⟨j, c, q⟩ := z
  have e : j = i := b1
  subst e
  have bd' : 0 ≤ q ∧ q ≤ plc tops j := bd
  cases c with
  | true =>
    have b2' : plc tops j < 0 ∨ l < q := b2
    exact ⟨q, rfl, by omega⟩
  | false =>
    have b2' : q < 0 ∨ l < 0 := b2
    omega
theorem bars_from {i : Nat} {l : Int} {z : Sd} (oz : SideOk tops z) (ol : 0 ≤ l ∧ l ≤ plc tops i) (b : barsB tops z (i, true, l) = true) : ∃ q, z = (i, false, q) ∧ q < l := by
  obtain ⟨b1, b2⟩ := bars_iff.mp b
  have bd := oz.bd
  obtain ⟨j, c, q⟩ := z
  have e : j = i := b1
  subst e
  have bd' : 0 ≤ q ∧ q ≤ plc tops j := bd
  cases c with
  | false =>
    have b2' : q < l ∨ plc tops j < 0 := b2
    exact ⟨q, rfl, by omega⟩
  | true =>
    have b2' : plc tops j < l ∨ plc tops j < q := b2
    omega
theorem bar_tf {i : Nat} {p q : Int} (h : p < q) : barsB tops (i, false, p) (i, true, q) = true := bars_iff.mpr ⟨rfl, .inl h⟩
theorem bar_ft {i : Nat} {p q : Int} (h : p < q) : barsB tops (i, true, q) (i, false, p) = true := bars_iff.mpr ⟨rfl, .inr h⟩
theorem wi_tt {i : Nat} {p q : Int} (h : p ≤ q) : withinB tops (i, false, p) (i, false, q) = true := within_iff.mpr ⟨rfl, Int.le_refl _, h⟩
theorem wi_ff {i : Nat} {p q : Int} (h : q ≤ p) : withinB tops (i, true, p) (i, true, q) = true := within_iff.mpr ⟨rfl, h, Int.le_refl _⟩
/-- a side and its other one that lead to each other, of a rule -/
def Ring (tops : List Int) (rs : List Rl) : Prop := ∃ s o, RuleSd rs s ∧ othS tops s = some o ∧ Tn tops rs s ∧ Tn tops rs o
theorem ring_from (rok : ∀ q ∈ rs, RuleOk tops q) {i : Nat} {l : Int} (li : i < tops.length) (l0 : 0 ≤ l) (l1 : l < plc tops i) {z z2 : Sd} (hz : Rea tops rs (· = (i, false, l)) z) (bz : barsB tops z (i, false, l) = true) (hz2 : Rea tops rs (· = (i, true, l + 1)) z2) (bz2 : barsB tops z2 (i, true, l + 1) = true) : Ring tops rs := by
  have ou : ∀ s, s = ((i, false, l) : Sd) → SideOk tops s := fun s e => by rw [e]; exact SideOk.mk' li l0 (by omega)
  have ov : ∀ s, s = ((i, true, l + 1) : Sd) → SideOk tops s := fun s e => by rw [e]; exact SideOk.mk' li (by omega) (by omega)
  obtain ⟨q, rfl, lq⟩ := bars_to (hz.ok rok ou) l0 bz
  obtain ⟨q2, rfl, lq2⟩ := bars_from (hz2.ok rok ov) ⟨by omega, by omega⟩ bz2
  -- the first rules
  rcases hz.first with e | ⟨r1, hr1, b, x, hbx, bb, hx⟩
  · cases e
  rcases hz2.first with e | ⟨r2, hr2, a, y, hay, ba, hy⟩
  · cases e
  have okb : SideOk tops b := by
    rcases hbx with ⟨rfl, _⟩ | ⟨rfl, _⟩
    · exact (rok r1 hr1).1
    · exact (rok r1 hr1).2
  have oka : SideOk tops a := by
    rcases hay with ⟨rfl, _⟩ | ⟨rfl, _⟩
    · exact (rok r2 hr2).1
    · exact (rok r2 hr2).2
  have rb : RuleSd rs b := ⟨r1, hr1, by rcases hbx with ⟨rfl, _⟩ | ⟨rfl, _⟩ <;> simp⟩
  obtain ⟨p', rfl, lp'⟩ := bars_to okb l0 (bars_symm bb)
  obtain ⟨p, rfl, lp⟩ := bars_from oka ⟨by omega, by omega⟩ (bars_symm ba)
  have bp' : 0 ≤ p' ∧ p' ≤ plc tops i := okb.bd
  have bp : 0 ≤ p ∧ p ≤ plc tops i := oka.bd
  have ledx : x ∈ ledL tops rs (i, false, p' - 1) := led_iff.mpr ⟨r1, hr1, by
    have h : barsB tops (i, false, p' - 1) (i, true, p') = true := bar_tf (by omega)
    rcases hbx with ⟨e1, e2⟩ | ⟨e1, e2⟩
    · exact .inl ⟨by rw [e1]; exact h, e2.symm⟩
    · exact .inr ⟨by rw [e1]; exact h, e2.symm⟩⟩
  have ledy : y ∈ ledL tops rs (i, true, p + 1) := led_iff.mpr ⟨r2, hr2, by
    have h : barsB tops (i, true, p + 1) (i, false, p) = true := bar_ft (by omega)
    rcases hay with ⟨e1, e2⟩ | ⟨e1, e2⟩
    · exact .inl ⟨by rw [e1]; exact h, e2.symm⟩
    · exact .inr ⟨by rw [e1]; exact h, e2.symm⟩⟩
  have uz : Rea tops rs (· = (i, false, p' - 1)) (i, true, q) := (Rea.step (Rea.refl _) ledx).trans hx
  have vz : Rea tops rs (· = (i, true, p + 1)) (i, false, q2) := (Rea.step (Rea.refl _) ledy).trans hy
  have ou' : ∀ s, s = ((i, false, p' - 1) : Sd) → SideOk tops s := fun s e => by rw [e]; exact SideOk.mk' li (by omega) (by omega)
  obtain ⟨Q, hQ, qQ, mQ⟩ := max_ex (P := fun n => Rea tops rs (· = (i, false, p' - 1)) (i, true, n)) (B := plc tops i) (fun n h => (h.ok rok ou').bd.2) _ q (Nat.le_refl _) uz
  have bQ : 0 ≤ Q ∧ Q ≤ plc tops i := (hQ.ok rok ou').bd
  have rQ : RuleSd rs (i, true, Q) := reach_rule hQ (fun e => by cases e)
  by_cases c : Q ≤ p'
  · refine ⟨(i, true, Q), (i, false, Q - 1), rQ, oth_from (by omega), ⟨_, oth_from (by omega), _, Rea.str (wi_tt (by omega)) hQ (fun e => by cases e), within_refl _⟩, ⟨(i, true, Q - 1 + 1), oth_to (by omega), (i, false, q2), ?_, wi_tt (by omega)⟩⟩
    rw [Int.sub_add_cancel]
    exact Rea.str (wi_ff (by omega)) vz (fun e => by cases e)
  · refine ⟨(i, true, p'), (i, false, p' - 1), rb, oth_from (by omega), ⟨_, oth_from (by omega), _, hQ, wi_ff (by omega)⟩, ⟨(i, true, p' - 1 + 1), oth_to (by omega), (i, false, q2), ?_, wi_tt (by omega)⟩⟩
    rw [Int.sub_add_cancel]
    exact Rea.str (wi_ff (by omega)) vz (fun e => by cases e)
/-- what follows is nowhere at odds with itself -/
def Con (tops : List Int) (rs : List Rl) (S : Sd → Prop) : Prop := ∀ x y, Rea tops rs S x → Rea tops rs S y → barsB tops x y = false
theorem Con.le (rok : ∀ q ∈ rs, RuleOk tops q) (pl : ∀ i, i < tops.length → 0 ≤ plc tops i) {S : Sd → Prop} (hS : ∀ s, S s → SideOk tops s) (h : Con tops rs S) {lows highs : List Int} (F : Fol tops rs S lows highs) (i : Nat) (hi : i < tops.length) : plc lows i ≤ plc highs i := by
  refine Int.not_lt.mp fun lt => ?_
  have p0 := pl i hi
  have a : Rea tops rs S (i, true, plc lows i) := (F.l0 i hi).resolve_left fun e => by
    rcases F.h0 i hi with h' | h'
    · omega
    · have h2 : 0 ≤ plc highs i := (h'.ok rok hS).bd.1
      omega
  have b : Rea tops rs S (i, false, plc highs i) := (F.h0 i hi).resolve_left fun e => by
    have h2 : plc lows i ≤ plc tops i := (a.ok rok hS).bd.2
    omega
  have := h _ _ a b
  rw [bar_ft lt] at this
  cases this
/-- one side more: if it does not do, it leads to one that bars it -/
theorem Con.more {S : Sd → Prop} (h : Con tops rs S) {u : Sd} (no : ∀ z, Rea tops rs S z → barsB tops z u = false) : Con tops rs (fun s => S s ∨ s = u) ∨ ∃ z, Rea tops rs (· = u) z ∧ barsB tops z u = true := by
  by_cases c : Con tops rs (fun s => S s ∨ s = u)
  · exact .inl c
  · obtain ⟨x, c⟩ := Classical.not_forall.mp c
    obtain ⟨y, c⟩ := Classical.not_forall.mp c
    obtain ⟨hx, c⟩ := Classical.not_imp.mp c
    obtain ⟨hy, c⟩ := Classical.not_imp.mp c
    have b : barsB tops x y = true := by simpa using c
    obtain ⟨s1, h1, r1⟩ := hx.one
    obtain ⟨s2, h2, r2⟩ := hy.one
    rcases h1 with h1 | rfl
    · have rx : Rea tops rs S x := (Rea.base h1).trans r1
      rcases h2 with h2 | rfl
      · rw [h x y rx ((Rea.base h2).trans r2)] at b
        cases b
      · obtain ⟨z, hz, bz⟩ := r2.turn b
        rw [no z (rx.trans hz)] at bz
        cases bz
    · rcases h2 with h2 | rfl
      · have ry : Rea tops rs S y := (Rea.base h2).trans r2
        obtain ⟨z, hz, bz⟩ := r1.turn (bars_symm b)
        rw [no z (ry.trans hz)] at bz
        cases bz
      · obtain ⟨z, hz, bz⟩ := r2.turn b
        exact .inr ⟨z, r1.trans hz, bz⟩
def slk (n : Nat) (lows highs : List Int) : Nat := ((List.range n).map fun i => (plc highs i - plc lows i).toNat).sum
theorem slk_le {n : Nat} {a b c d : List Int} (h : ∀ i, i < n → (plc b i - plc a i).toNat ≤ (plc d i - plc c i).toNat) : slk n a b ≤ slk n c d := by
  unfold slk
  induction n with
  | zero => exact Nat.le_refl _
  | succ n ih =>
    rw [List.range_succ, List.map_append, List.map_append, List.sum_append, List.sum_append]
    have := ih fun i hi => h i (by omega)
    have := h n (by omega)
    simp only [List.map_cons, List.map_nil, List.sum_cons, List.sum_nil]
    omega
theorem slk_lt {n : Nat} {a b c d : List Int} (h : ∀ i, i < n → (plc b i - plc a i).toNat ≤ (plc d i - plc c i).toNat) {j : Nat} (hj : j < n) (lt : (plc b j - plc a j).toNat < (plc d j - plc c j).toNat) : slk n a b < slk n c d := by
  induction n with
  | zero => exact absurd hj (Nat.not_lt_zero _)
  | succ n ih =>
    have l1 : slk (n + 1) a b = slk n a b + (plc b n - plc a n).toNat := by
      unfold slk
      rw [List.range_succ, List.map_append, List.sum_append]
      simp
    have l2 : slk (n + 1) c d = slk n c d + (plc d n - plc c n).toNat := by
      unfold slk
      rw [List.range_succ, List.map_append, List.sum_append]
      simp
    rw [l1, l2]
    have hn := h n (by omega)
    by_cases e : j = n
    · subst e
      have := slk_le (n := j) (a := a) (b := b) (c := c) (d := d) fun i hi => h i (by omega)
      omega
    · have := ih (fun i hi => h i (by omega)) (by omega)
      omega
theorem Fol.mono {S T : Sd → Prop} (hST : ∀ s, S s → T s) {a b c d : List Int} (F : Fol tops rs S a b) (G : Fol tops rs T c d) (i : Nat) (hi : i < tops.length) : plc a i ≤ plc c i ∧ plc d i ≤ plc b i := by
  constructor
  · rcases F.l0 i hi with h | h
    · have := G.lz i hi
      omega
    · exact G.l1 i _ (h.mono hST)
  · rcases F.h0 i hi with h | h
    · have := G.hz i hi
      omega
    · exact G.h1 i _ (h.mono hST)
theorem Fol.stand {S : Sd → Prop} (rok : ∀ q ∈ rs, RuleOk tops q) {lows highs : List Int} (F : Fol tops rs S lows highs) (e : ∀ i, i < tops.length → plc lows i = plc highs i) : lows ∈ goods tops rs := by
  have ll := F.ll
  refine goods_mem.mpr ⟨⟨ll, fun j hj => ⟨F.lz j hj, by have := F.hz j hj; have := e j hj; omega⟩⟩, fun q hq => ?_⟩
  have key : ∀ {a b : Sd}, SideOk tops a → SideOk tops b → (∀ t, barsB tops t a = true → b ∈ ledL tops rs t) → inB lows a = true ∨ inB lows b = true := fun {a b} oa ob hl => by
    by_cases c : inB lows a = true
    · exact .inl c
    · right
      have lt := oa.lt
      have bd := oa.bd
      have ei := e a.1 lt
      have hb : Rea tops rs S b := by
        obtain ⟨i, w, p⟩ := a
        have lt' : i < tops.length := lt
        have bd' : 0 ≤ p ∧ p ≤ plc tops i := bd
        have ei' : plc lows i = plc highs i := ei
        cases w with
        | true =>
          have c' : ¬ p ≤ plc lows i := fun h => c ((inFr (by omega)).mpr h)
          rcases F.h0 i lt' with h | h
          · omega
          · exact Rea.step h (hl _ (bar_tf (by omega)))
        | false =>
          have c' : ¬ plc lows i ≤ p := fun h => c ((inTo (by omega)).mpr h)
          rcases F.l0 i lt' with h | h
          · omega
          · exact Rea.step h (hl _ (bar_ft (by omega)))
      have lb := ob.lt
      exact F.has (by omega) hb ⟨Int.le_refl _, by have := e b.1 lb; omega⟩
  have ok := rok q hq
  have := key ok.1 ok.2 fun t ht => led_iff.mpr ⟨q, hq, .inl ⟨ht, rfl⟩⟩
  unfold kept
  rcases this with h | h <;> rw [h] <;> simp
theorem con_good (rok : ∀ q ∈ rs, RuleOk tops q) (pl : ∀ i, i < tops.length → 0 ≤ plc tops i) (nr : ¬ Ring tops rs) : ∀ (k : Nat) (S : Sd → Prop) (lows highs : List Int), (∀ s, S s → SideOk tops s) → Con tops rs S → Fol tops rs S lows highs → slk tops.length lows highs ≤ k → ∃ st, st ∈ goods tops rs := by
  intro k
  induction k with
  | zero =>
    intro S lows highs hS hc F hk
    refine ⟨lows, F.stand rok fun i hi => ?_⟩
    have le := hc.le rok pl hS F i hi
    refine Int.le_antisymm le (Int.not_lt.mp fun lt => ?_)
    have := slk_lt (n := tops.length) (a := lows) (b := lows) (c := lows) (d := highs) (fun i _ => by omega) hi (by omega)
    omega
  | succ k ih =>
    intro S lows highs hS hc F hk
    by_cases al : ∀ i, i < tops.length → plc lows i = plc highs i
    · exact ⟨lows, F.stand rok al⟩
    · obtain ⟨i, al⟩ := Classical.not_forall.mp al
      obtain ⟨hi, ne⟩ := Classical.not_imp.mp al
      have le := hc.le rok pl hS F i hi
      have z0 := F.lz i hi
      have z1 := F.hz i hi
      have okS : ∀ {u : Sd}, SideOk tops u → ∀ s, (S s ∨ s = u) → SideOk tops s := fun {u} ou s h => h.elim (hS s) (fun e => e ▸ ou)
      have go : ∀ {u : Sd}, SideOk tops u → Con tops rs (fun s => S s ∨ s = u) → (∀ c d, Fol tops rs (fun s => S s ∨ s = u) c d → (plc d i - plc c i).toNat < (plc highs i - plc lows i).toNat) → ∃ st, st ∈ goods tops rs := fun {u} ou cu hlt => by
        obtain ⟨c, d, G⟩ := fol_ex rok pl (okS ou)
        refine ih _ c d (okS ou) cu G ?_
        have := slk_lt (n := tops.length) (a := c) (b := d) (c := lows) (d := highs) (fun j hj => by have := F.mono (T := fun s => S s ∨ s = u) (fun s h => .inl h) G j hj; omega) hi (hlt c d G)
        omega
      have o1 : SideOk tops (i, false, plc lows i) := SideOk.mk' hi z0 (by omega)
      have o2 : SideOk tops (i, true, plc lows i + 1) := SideOk.mk' hi (by omega) (by omega)
      rcases hc.more (u := (i, false, plc lows i)) (fun z hz => by
        cases b : barsB tops z (i, false, plc lows i) with
        | false => rfl
        | true =>
          obtain ⟨q, rfl, lq⟩ := bars_to (hz.ok rok hS) z0 b
          have := F.l1 i q hz
          omega) with c1 | ⟨za, ha, ba⟩
      · exact go o1 c1 fun c d G => by
          have h1 := G.h1 i _ (Rea.base (.inr rfl))
          have h2 := (F.mono (T := fun s => S s ∨ s = (i, false, plc lows i)) (fun s h => .inl h) G i hi).1
          omega
      · rcases hc.more (u := (i, true, plc lows i + 1)) (fun z hz => by
          cases b : barsB tops z (i, true, plc lows i + 1) with
          | false => rfl
          | true =>
            obtain ⟨q, rfl, lq⟩ := bars_from (hz.ok rok hS) ⟨by omega, by omega⟩ b
            have := F.h1 i q hz
            omega) with c2 | ⟨zb, hb, bb⟩
        · exact go o2 c2 fun c d G => by
            have h1 := G.l1 i _ (Rea.base (.inr rfl))
            have h2 := (F.mono (T := fun s => S s ∨ s = (i, true, plc lows i + 1)) (fun s h => .inl h) G i hi).2
            omega
        · exact absurd (ring_from rok hi z0 (by omega) ha ba hb bb) nr
theorem ring_ex (rok : ∀ q ∈ rs, RuleOk tops q) (pl : ∀ i, i < tops.length → 0 ≤ plc tops i) : (∃ st, st ∈ goods tops rs) ∨ Ring tops rs := by
  by_cases c : Ring tops rs
  · exact .inr c
  · obtain ⟨lows, highs, F⟩ := fol_ex rok pl (S := fun _ => False) (fun s h => h.elim)
    refine .inl (con_good rok pl c _ _ lows highs (fun s h => h.elim) (fun x y hx _ => ?_) F (Nat.le_refl _))
    obtain ⟨s, h, _⟩ := hx.one
    exact h.elim
end
end K16

set_option Elab.async false
set_option linter.all false
set_option maxRecDepth 100000
set_option maxHeartbeats 1000000
/-! Dict comprehensions whose keys are tuples: one clause, and two. -/
namespace NB
open PySem PySem.Spec PyProof.Rows L2

section
variable {X : Cx} {pins : List (Addr × Obj)} {σ : L2.St} {H : Hp} {s : Shared}
theorem put_tup {D b : Addr} {kvs : List (List Key × V)} {k : List Key} {v : V} {r : Value} {Q : Unit → Shared → Prop} {E : Value → Shared → Prop} (hu : X.A.units + 1 < cLine) (I : Inv X pins σ H s) (hD : H D = some (.dT kvs)) (eb : H b = some (.tup (k.map kV))) (hz : kvs.length < sizeLine) (rv : RelV v r)
    (h : ∀ s', Inv X pins σ (upd H D (.dT (putK kvs k v))) s' → Q () s') : wpAny (model X.prog X.w) X.A (dictSet D (.ref b) r) Q E s := by
  obtain ⟨zl, zd, es, rel, dd⟩ := dt_of I.hok hD
  have l1 : es.length ≤ sizeLine := by rw [← Paired.length rel]; exact zl
  have l2 : (putK kvs k v).length ≤ sizeLine := by
    have := length_putK kvs k v
    omega
  refine wpAny_dictSet_heap (show (tupleKind _).room X.A from Nat.lt_of_succ_lt hu) (key_of I.hok eb) dd (fun g dg sb => h _ ?_) l1
  obtain ⟨q, fs, ep, e1, e2, e3, e4, _, e5⟩ := dg
  refine d_write I (by rw [hD]; trivial) sb ⟨q, e1⟩ ⟨l2, zd, _, (rel.put k eb rv).keeps fun c ys ec => ?_, q, fs, ep, e1, e2, e3, e4, e5⟩
  rw [upd_ne (ne_of ec hD (fun z => by cases z))]
  exact ec
end

/-- where a walk stands, within a block -/
def Lp (Y : Cx) (pp : List (Addr × Obj)) (σ0 : L2.St) (fp : List Addr) (tn : Nat → Heap → Prop) (W : Nat → Nat → Hp → Prop) (n : Nat) (s : Shared) : Prop :=
  ∃ i H, Inv Y pp σ0 H s ∧ tn i s.heap ∧ (∀ b ∈ fp, H b = none) ∧ W i n H
/-- what a walk asks at each place: its end, or a turn that leads on -/
def Stp (J : It) (W : Nat → Nat → Hp → Prop) (Ed : Hp → Prop) (B : V → Hp → (Hp → Prop) → Prop) : Prop :=
  ∀ i m H, W i m H → (J.stop i H ∧ Ed H) ∨ (J.go i H ∧ ∃ Nx : Hp → Prop, (∀ H', Nx H' → ∃ m', m' < m ∧ W (i + 1) m' H') ∧ ∀ x H', J.yld i H x H' → B x H' Nx)
theorem Lp.turn {Y : Cx} {pp : List (Addr × Obj)} {σ0 : L2.St} {tg : Expr} {J : It} {fp : List Addr} {it : Addr} {tn : Nat → Heap → Prop} {W : Nat → Nat → Hp → Prop} {Ed : Hp → Prop} {B : V → Hp → (Hp → Prop) → Prop} {n : Nat} {s : Shared} {E : Value → Shared → Prop}
    (T : Turn Y.prog Y.w Y.K tg J fp it tn) (hc : Y.calm = true) (hf : ∀ (H' : Hp) (σ' : L2.St) (s' : Shared), (∀ b ∈ fp, H' b = none) → Inv Y pp σ' H' s' → ∀ b ∈ fp, FpOk Y pp H' b) (st : Stp J W Ed B) (h : Lp Y pp σ0 fp tn W n s) :
    wpAny (model Y.prog Y.w) Y.A (pyNext (.ref it)) (fun r s1 => match r with
      | none => ∃ H1, Inv Y pp σ0 H1 s1 ∧ Ed H1
      | some u => wpAny (model Y.prog Y.w) Y.A (letOwnedTupleGo tg (.ref it) u) (fun _ s2 => ∃ (x : V) (H2 : Hp) (pq : List (Addr × Obj)) (Nx : Hp → Prop), Inv Y (pp ++ pq) σ0 H2 s2 ∧ RelV x u ∧ B x H2 Nx ∧
          ∀ (σ' : L2.St) (s' : Shared) (H' : Hp), Inv Y (pp ++ pq) σ' H' s' → σ0.length = σ'.length → (∀ (j : Nat) v, σ0[j]? = some (some v) → σ'[j]? = some (some v)) → Nx H' → ∃ m, m < n ∧ Lp Y pp σ0 fp tn W m s') E s1) E s := by
  obtain ⟨i, H1, I1, t1, f1, w1⟩ := h
  rcases st i n H1 w1 with ⟨sp, ed⟩ | ⟨go, Nx, nx, yl⟩
  · refine thn (T.done Y rfl rfl rfl hc i pp s σ0 H1 E I1 (hf _ _ _ f1 I1) t1 sp) fun r s1 h => ?_
    obtain ⟨rfl, I2⟩ := h
    exact ⟨H1, I2, ed⟩
  · refine thn (T.item Y rfl rfl rfl hc i pp s σ0 H1 E I1 (hf _ _ _ f1 I1) t1 go) fun r s1 h => ?_
    obtain ⟨u, rfl, h⟩ := h
    refine thn h fun _ s2 h => ?_
    obtain ⟨x, H2, I2, rx, y, t2, f2⟩ := h
    refine ⟨x, H2, pinsAt fp s2.heap, Nx, I2.pinned (hf _ _ _ f2 I2) (T.obj _ _ t2), rx, yl x H2 y, fun σ' s' H' I' hl hk hn => ?_⟩
    obtain ⟨m, lt, w'⟩ := nx H' hn
    have stay : ∀ b ∈ fp, ∀ o, s2.heap.get? b = some o → s'.heap.get? b = some o ∧ H' b = none := fun b hb o eo => by
      have z := I'.pin (b, o) (List.mem_append_right _ (List.mem_append_right _ (mem_pinsAt hb eo)))
      exact ⟨z.1, z.2.1⟩
    refine ⟨m, lt, i + 1, H', I'.unpinned.weak hl hk, T.keep _ _ _ t2 fun b hb o eo => (stay b hb o eo).1, fun b hb => ?_, w'⟩
    obtain ⟨o, eo, _⟩ := T.obj _ _ t2 b hb
    exact (stay b hb o eo).2

section
variable {X : Cx} {pins : List (Addr × Obj)} {σ : L2.St} {H : Hp} {s : Shared} {kx vx tg iter : Expr} {ifs : List Expr} {gs : List Comprehension} {scope : Scope} {own : List (Str × Nat)} {pos : Pos} {wi : TI}
/-- the loop of a dict comprehension's block -/
def DLp (X : Cx) (σ : L2.St) (scope : Scope) (own : List (Str × Nat)) (tg : Expr) (e : Expr) (Go : It → Addr → Hp → Prop) (Q : VK) : Prop :=
  ∀ (J : It) (D it : Addr) (fp : List Addr) (tn : Nat → Heap → Prop) (H1 : Hp) (s3 s4 : Shared) (cl : List (Str × Addr)) (RR : Result → Shared → Prop), Go J D H1 → Turn X.prog X.w X.K tg J fp it tn →
    Inv (X.blk s3 (upd H1 D (.dT [])) scope (compEnvC scope cl s3.heap.objs.size X.env) fp) [] (wipe σ (own.map (·.2))) (upd H1 D (.dT [])) s4 → tn 0 s4.heap → (∀ b ∈ fp, (upd H1 D (.dT [])) b = none) →
    (∀ H5 s6, Inv (X.blk s3 (upd H1 D (.dT [])) scope (compEnvC scope cl s3.heap.objs.size X.env) fp) [] (wipe σ (own.map (·.2))) H5 s6 → Q (.ref D) H5 → RR (.ok .next) s6) →
    codeAny (model X.prog X.w) X.A (.compLoop e 0 (.ref it) (.ref D) (compEnvC scope cl s3.heap.objs.size X.env)) RR s4
/-- the block: opened, and closed behind its loop -/
theorem dict_block {Go : It → Addr → Hp → Prop} {Q : VK} {pos' : Pos} {use : Option (Value → Sem Unit)} {Qf : Value → Shared → Prop} (hN : X.N.Nodup) (I : Inv X pins σ H s) (hi : PI X tg iter wi) (ok : BlkOk X.N X.env.scope scope own) (hs : ∀ x, foldedSetIterable iter X.env x = pure x) (h : wi σ H fun J H1 => ∀ D, H1 D = none → Go J D H1)
    (loop : DLp X σ scope own tg (.DictComp kx vx (⟨tg, iter, ifs, 0⟩ :: gs) scope pos) Go Q)
    (out : ∀ (D C : Addr) (s' : Shared) (m : Str → Option Value) (H' : Hp), Inv X pins σ H' s' → Q (.ref D) H' → s'.heap.Ns C m → FpOk X pins H' C → compPost (model X.prog X.w) X.A X.xe use Qf (.ref D) C (.ok .next) s') :
    wpAny (model X.prog X.w) X.A (comprehension (.DictComp kx vx (⟨tg, iter, ifs, 0⟩ :: gs) scope pos) scope X.env pos' newDict false (eval iter X.env) use) Qf X.xe s := by
  have has : ∀ y ∈ scope.names, y.2 = .free → ∃ c, X.env.cells.lookup y.1 = some c := fun y hy e =>
    (ok.free y hy e).elim (fun k => I.ok.has _ (.inl k)) (fun k => I.ok.has _ (.inr k))
  refine wpAny_comprehension_free (use := use) rfl hs (closure_ok has) ok.kind (fun y hy e => (ok.uniq y hy).trans (by rw [e])) ?_
  refine thn (hi.run pins s σ H _ I h) fun v s1 h1 => thn h1 fun iv s2 h2 => ?_
  obtain ⟨it, fp, tn, J, H1, rfl, I1, T, t1, f1, go⟩ := h2
  refine wpAny_newObj_type (newEnv_comp ?_)
  obtain ⟨D, eD⟩ : ∃ D, D = s2.heap.objs.size := ⟨_, rfl⟩
  have nD : H1 D = none := I1.hok.fresh (Nat.le_of_eq eD.symm)
  obtain ⟨s3, e3⟩ : ∃ s3 : Shared, s3 = { s2 with heap := s2.heap.push { cls := .type "dict", data := .dict #[] } } := ⟨_, rfl⟩
  have hp3 : s3.heap = s2.heap.push { cls := .type "dict", data := .dict #[] } := by rw [e3]
  have I3 : Inv X pins σ (upd H1 D (.dT [])) s3 := by
    rw [e3, eD]
    exact I1.laid (t' := s2.toks) (fun b o q => Heap.get?_push_of_some _ q) (Nat.le_refl _) (dt_empty s2.heap I1.big)
  have lt : ∀ b ∈ fp, b < s2.heap.objs.size := fun b hb => by
    obtain ⟨o, q, _⟩ := T.obj _ _ t1 b hb
    exact Heap.lt_size q
  have f3 : ∀ b ∈ fp, FpOk X pins (upd H1 D (.dT [])) b ∧ b < s3.heap.objs.size := fun b hb => by
    have l := lt b hb
    have z : b ≠ D := by rw [eD]; exact Nat.ne_of_lt l
    refine ⟨⟨(upd_ne z).trans (f1 b hb).1, (f1 b hb).2⟩, ?_⟩
    rw [hp3, Heap.size_push]
    exact Nat.lt_succ_of_lt l
  have t3 : tn 0 s3.heap := T.keep _ _ _ t1 fun b _ o q => by
    rw [hp3]
    exact Heap.get?_push_of_some _ q
  have I4 := block_start I3 ok hN f3
  have t4 := T.keep _ _ (pushCells (s3.heap.push { cls := .type "dict", data := .dict #[] }) scope.names) t3 fun b _ o q => pushCells_keeps _ _ _ _ (Heap.get?_push_of_some _ q)
  have lp := loop J D it fp tn H1 s3 _ (cellsFrom (s3.heap.objs.size + 1) scope.names (cloFrom X.env.cells scope.names [])) (compPost (model X.prog X.w) X.A X.xe use Qf (.ref D) s3.heap.objs.size) (go D nD) T I4 t4 (fun b hb => (f3 b hb).1.1) (fun H5 s6 I6 q => by
    have I7 : Inv X pins σ H5 s6 := I3.call' (ch := fp) I6.os I6.base I6.hok I6.bare fun b hb => by
      obtain ⟨⟨_, g1, _, g3, g4, g5⟩, _⟩ := f3 b hb
      exact ⟨g3, g1, g4, g5⟩
    have nl : H5 s3.heap.objs.size = none := I6.free
    obtain ⟨m, hm, _⟩ := I6.loc
    exact out D s3.heap.objs.size s6 m H5 I7 q hm (I3.fpOk (Nat.le_refl _) nl))
  have fin := codeAny_compStart_dict lp (T.self X.A 0 _ _ _ t4 lp)
  rw [e3] at fin
  subst eD
  exact fin
theorem pe_dict {Go : L2.St → VK → It → Addr → Hp → Prop} (hN : X.N.Nodup) (hi : PI X tg iter wi) (ok : BlkOk X.N X.env.scope scope own) (hs : ∀ x, foldedSetIterable iter X.env x = pure x)
    (loop : ∀ σ Q, DLp X σ scope own tg (.DictComp kx vx (⟨tg, iter, ifs, 0⟩ :: gs) scope pos) (Go σ Q) Q) : PE X (.DictComp kx vx (⟨tg, iter, ifs, 0⟩ :: gs) scope pos) (fun σ H Q => wi σ H fun J H1 => ∀ D, H1 D = none → Go σ Q J D H1) := by
  refine ⟨fun pins s σ H Q I h => ?_⟩
  rw [arm_eval_DictComp]
  refine dict_block hN I hi ok hs h (loop σ Q) fun D C s' m H' I' q hn f => ⟨m, hn, fun g sb => ?_⟩
  obtain ⟨p0, p1, _, p3, p4, p5⟩ := f
  exact ⟨.ref D, H', I'.turned (t' := s'.toks) (fun b o hb e => (sb.2 b hb).trans e) p0 p1 p3 p4 p5, rfl, q⟩
/-- y = {..}, on one line: the store comes ahead of the block's end -/
theorem ps_dict {Go : L2.St → VK → It → Addr → Hp → Prop} {i : Nat} {y : Str} {py spos : Pos} (hN : X.N.Nodup) (hy : X.N[i]? = some y) (hyl : X.env.scope.names.lookup y = some .local) (hsw : swapsWith (.DictComp kx vx (⟨tg, iter, ifs, 0⟩ :: gs) scope pos) (some (.Name y py)) spos.line X.env = pure true)
    (hi : PI X tg iter wi) (ok : BlkOk X.N X.env.scope scope own) (hs : ∀ x, foldedSetIterable iter X.env x = pure x)
    (loop : ∀ σ Q, DLp X σ scope own tg (.DictComp kx vx (⟨tg, iter, ifs, 0⟩ :: gs) scope pos) (Go σ Q) Q) : PS X (.Assign [.Name y py] (.DictComp kx vx (⟨tg, iter, ifs, 0⟩ :: gs) scope pos) spos) (tAsg (fun σ H Q => wi σ H fun J H1 => ∀ D, H1 D = none → Go σ Q J D H1) (gName i)) := by
  refine ⟨fun pins s σ H E I h => ?_⟩
  rw [exec_Assign_Name_used _ _ _ _ hsw]
  refine wpAny_bind (wpAny_standAt (wpAny_bind ?_))
  show wpAny _ X.A (do let _ ← comprehension (.DictComp kx vx (⟨tg, iter, ifs, 0⟩ :: gs) scope pos) scope X.env (firstIterPos (⟨tg, iter, ifs, 0⟩ :: gs) pos) newDict false (eval iter X.env) (some (assign (.Name y py) X.env))) _ _ s
  have h : wi σ H fun J H1 => ∀ D, H1 D = none → Go σ (fun x H1 => gName i x σ H1 E.nx) J D H1 := h
  refine wpAny_bind (thn (dict_block (Qf := fun _ s' => SP X pins E .next s') hN I hi ok hs h (loop σ _) fun D C s' m H' I' q hn f => ?_) fun _ s' hq => wpAny_pure (wpAny_pure hq))
  show wpAny _ _ (assign (.Name y py) X.env (.ref D)) _ _ _
  obtain ⟨p0, p1, _, p3, p4, p5⟩ := f
  refine wpAny_assign_Name (store_ok2 (v := V.ref D) I' hN hy (.inl hyl) rfl (fun s2 I2 hh => ?_) (.inr hyl))
  obtain ⟨a, sb, ha⟩ := hh
  have na : C ≠ a := ha.elim (fun z => by rw [z]; exact p1) (fun z e => p4 y a z e.symm)
  exact ⟨m, hn.sameBut sb na, fun g sg => ⟨_, H', I2.turned (t' := s2.toks) (fun b o hb e => (sg.2 b hb).trans e) p0 p1 p3 p4 p5, q⟩⟩
theorem sw_dict {kx vx : Expr} {gs : List Comprehension} {scope : Scope} {pos py : Pos} {y : Str} {l : Nat} {env : Env} (k1 : env.scope.kind = .function) (k2 : env.scope.names.lookup y = some .local) (k3 : (py.line == pos.line) = true) (k4 : (scope.names.any fun (n, k) => n == y && (k == .local || k == .cell)) = false) :
    swapsWith (.DictComp kx vx gs scope pos) (some (.Name y py)) l env = pure true := by
  have e1 : env.blockKind = .function := by
    unfold Env.blockKind
    rw [k1]
    rfl
  have e2 : env.kindOf y = some .local := k2
  unfold swapsWith
  simp only [e1, e2, k4, Expr.pos, k3]
  rfl
theorem blk_fp {s3 : Shared} {H3 H' : Hp} {ce : Env} {fp : List Addr} {σ' : L2.St} {s' : Shared} (hn : ∀ b ∈ fp, H' b = none) (I' : Inv (X.blk s3 H3 scope ce fp) [] σ' H' s') : ∀ b ∈ fp, FpOk (X.blk s3 H3 scope ce fp) [] H' b := fun b hb => by
  refine ⟨hn b hb, (I'.ok.exf b hb).1, I'.ok.exfs b hb, .inl hb, fun x c e => (I'.ok.exf b hb).2 x c e, fun p hp => ?_⟩
  exact absurd (show p ∈ ([] : List (Addr × Obj)) from by simpa using hp) List.not_mem_nil
end

section
variable {X : Cx}
/-- {k: v for tg in iter}: D the new dict -/
def tDcT (wi : TI) (g : TG) (tk tv : TE) (vs : List Nat) : TE := fun σ H Q => wi σ H fun J H1 => ∀ D, H1 D = none → ∃ W : Nat → Nat → Hp → Prop, (∃ m, W 0 m (upd H1 D (.dT []))) ∧
  Stp J W (fun H => Q (.ref D) H) fun x H Nx => g x (wipe σ vs) H fun σ2 H2 => wipe σ2 vs = wipe σ vs ∧ tk σ2 H2 fun y H3 => tv σ2 H3 fun z H4 =>
    ∃ kvs k b, y = .ref b ∧ H4 b = some (.tup (k.map kV)) ∧ H4 D = some (.dT kvs) ∧ kvs.length < sizeLine ∧ Nx (upd H4 D (.dT (putK kvs k z)))
def goT (g : TG) (tk tv : TE) (vs : List Nat) (σ : L2.St) (Q : VK) (J : It) (D : Addr) (H1 : Hp) : Prop := ∃ W : Nat → Nat → Hp → Prop, (∃ m, W 0 m (upd H1 D (.dT []))) ∧
  Stp J W (fun H => Q (.ref D) H) fun x H Nx => g x (wipe σ vs) H fun σ2 H2 => wipe σ2 vs = wipe σ vs ∧ tk σ2 H2 fun y H3 => tv σ2 H3 fun z H4 =>
    ∃ kvs k b, y = .ref b ∧ H4 b = some (.tup (k.map kV)) ∧ H4 D = some (.dT kvs) ∧ kvs.length < sizeLine ∧ Nx (upd H4 D (.dT (putK kvs k z)))
theorem dcT_loop {kx vx tg iter : Expr} {scope : Scope} {own : List (Str × Nat)} {pos : Pos} {g : TG} {tk tv : TE} (hu : X.A.units + 1 < cLine) (hc : X.calm = true)
    (hg : ∀ (s : Shared) (H : Hp) (C : Addr) (cl : List (Str × Addr)) (fp : List Addr), PG (X.blk s H scope (compEnvC scope cl C X.env) fp) tg g)
    (hk : ∀ (s : Shared) (H : Hp) (C : Addr) (cl : List (Str × Addr)) (fp : List Addr), PE (X.blk s H scope (compEnvC scope cl C X.env) fp) kx tk)
    (hv : ∀ (s : Shared) (H : Hp) (C : Addr) (cl : List (Str × Addr)) (fp : List Addr), PE (X.blk s H scope (compEnvC scope cl C X.env) fp) vx tv) (σ : L2.St) (Q : VK) :
    DLp X σ scope own tg (.DictComp kx vx [⟨tg, iter, [], 0⟩] scope pos) (goT g tk tv (own.map (·.2)) σ Q) Q := by
  intro J D it fp tn H1 s3 s4 cl RR go T I4 t4 n4 fin
  obtain ⟨W, ⟨m0, w0⟩, st⟩ := go
  have pg := hg s3 (upd H1 D (.dT [])) s3.heap.objs.size cl fp
  have pk := hk s3 (upd H1 D (.dT [])) s3.heap.objs.size cl fp
  have pv := hv s3 (upd H1 D (.dT [])) s3.heap.objs.size cl fp
  generalize compEnvC scope cl s3.heap.objs.size X.env = ce at *
  refine compLoop_anyD (Lp (X.blk s3 (upd H1 D (.dT [])) scope ce fp) [] (wipe σ (own.map (·.2))) fp tn W) (fun n s5 hl => ?_) m0 ⟨0, _, I4, t4, n4, w0⟩
  refine thn (hl.turn (Y := X.blk s3 (upd H1 D (.dT [])) scope ce fp) T hc (fun H' σ' s' a b => blk_fp a b) st) fun r s6 h6 => ?_
  cases r with
  | none =>
    obtain ⟨H6, I6, q⟩ := h6
    exact fin H6 s6 I6 q
  | some u =>
    refine thn h6 fun _ s7 h7 => ?_
    obtain ⟨x, H7, pq, Nx, I7, rx, by7, on⟩ := h7
    refine thnF (pg.run _ s7 _ H7 x u _ I7 rx by7) fun _ s8 h8 => ?_
    obtain ⟨σ8, H8, I8, w8, q8⟩ := h8
    show wpAny _ _ (pure true) _ _ _
    refine wpAny_pure ?_
    rw [if_pos rfl]
    refine thnF (pk.run _ s8 σ8 H8 _ I8 q8) fun kv s9 h9 => ?_
    obtain ⟨y, H9, I9, ry, q9⟩ := h9
    refine thnF (pv.run _ s9 σ8 H9 _ I9 q9) fun vv s10 h10 => ?_
    obtain ⟨z, H10, I10, rz, kvs, k, b, rfl, eb, eD, hz, nx⟩ := h10
    obtain rfl : kv = Value.ref b := ry
    refine put_tup (X := X.blk s3 (upd H1 D (.dT [])) scope ce fp) hu I10 eD eb hz rz fun s11 I11 => on _ _ _ I11 ?_ ?_ nx
    · rw [← w8, wipe_length]
    · intro j v e
      rw [← w8] at e
      exact (wipe_some e).1
section
variable {kx vx tg iter : Expr} {scope : Scope} {own : List (Str × Nat)} {pos : Pos} {wi : TI} {g : TG} {tk tv : TE} (hu : X.A.units + 1 < cLine) (hc : X.calm = true) (hN : X.N.Nodup) (hi : PI X tg iter wi) (ok : BlkOk X.N X.env.scope scope own)
    (hg : ∀ (s : Shared) (H : Hp) (C : Addr) (cl : List (Str × Addr)) (fp : List Addr), PG (X.blk s H scope (compEnvC scope cl C X.env) fp) tg g)
    (hk : ∀ (s : Shared) (H : Hp) (C : Addr) (cl : List (Str × Addr)) (fp : List Addr), PE (X.blk s H scope (compEnvC scope cl C X.env) fp) kx tk)
    (hv : ∀ (s : Shared) (H : Hp) (C : Addr) (cl : List (Str × Addr)) (fp : List Addr), PE (X.blk s H scope (compEnvC scope cl C X.env) fp) vx tv)
include hu hc hN hi ok hg hk hv
theorem pe_dcT (hs : ∀ x, foldedSetIterable iter X.env x = pure x := by intro _; rfl) : PE X (.DictComp kx vx [⟨tg, iter, [], 0⟩] scope pos) (tDcT wi g tk tv (own.map (·.2))) :=
  pe_dict (Go := goT g tk tv (own.map (·.2))) hN hi ok hs fun σ Q => dcT_loop hu hc hg hk hv σ Q
theorem ps_dcT {i : Nat} {y : Str} {py spos : Pos} (hy : X.N[i]? = some y) (hyl : X.env.scope.names.lookup y = some .local) (hsw : swapsWith (.DictComp kx vx [⟨tg, iter, [], 0⟩] scope pos) (some (.Name y py)) spos.line X.env = pure true) (hs : ∀ x, foldedSetIterable iter X.env x = pure x := by intro _; rfl) :
    PS X (.Assign [.Name y py] (.DictComp kx vx [⟨tg, iter, [], 0⟩] scope pos) spos) (tAsg (tDcT wi g tk tv (own.map (·.2))) (gName i)) := by
  have h := ps_dict (Go := goT g tk tv (own.map (fun x => x.2))) hN hy hyl hsw hi ok hs fun σ Q => dcT_loop hu hc hg hk hv σ Q
  exact h
end
/-- {k: v for tg in iter for tg1 in iter1} -/
def tDc2T (wi : TI) (g : TG) (wi1 : TI) (g1 : TG) (tk tv : TE) (vs vs1 : List Nat) : TE := fun σ H Q => wi σ H fun J H1 => ∀ D, H1 D = none → ∃ W : Nat → Nat → Hp → Prop, (∃ m, W 0 m (upd H1 D (.dT []))) ∧
  Stp J W (fun H => Q (.ref D) H) fun x H Nx => g x (wipe σ vs) H fun σ2 H2 => wipe σ2 vs = wipe σ vs ∧ wi1 σ2 H2 fun J1 H3 => ∃ W1 : Nat → Nat → Hp → Prop, (∃ m, W1 0 m H3) ∧
    Stp J1 W1 Nx fun x1 H4 Nx1 => g1 x1 (wipe σ2 vs1) H4 fun σ3 H5 => wipe σ3 vs1 = wipe σ2 vs1 ∧ tk σ3 H5 fun y H6 => tv σ3 H6 fun z H7 =>
      ∃ kvs k b, y = .ref b ∧ H7 b = some (.tup (k.map kV)) ∧ H7 D = some (.dT kvs) ∧ kvs.length < sizeLine ∧ Nx1 (upd H7 D (.dT (putK kvs k z)))
section
variable {prog : Program} {w : World} {A : Around} {R : Result → Shared → Prop} {s : Shared} {kx vx t0 i0 t1 i1 : Expr} {scope : Scope} {pos : Pos} {it : Value} {D : Addr} {env : Env}
abbrev dc2 (kx vx t0 i0 t1 i1 : Expr) (scope : Scope) (pos : Pos) : Expr := .DictComp kx vx [⟨t0, i0, [], 0⟩, ⟨t1, i1, [], 0⟩] scope pos
theorem dc2_outer : compTurn (dc2 kx vx t0 i0 t1 i1 scope pos) 0 it (.ref D) env = (standAt i0.pos >>= fun _ => pyNext it >>= fun r => match r with
    | none => pure (.done .next)
    | some v => letOwnedTupleGo t0 it v >>= fun _ => assign t0 env v >>= fun _ => eval i1 env >>= fun x => standAt i1.pos >>= fun _ => foldedSetIterable i1 env x >>= fun x => holding [x] (pyIter x) >>= fun j => runOwn (.compStart (dc2 kx vx t0 i0 t1 i1 scope pos) 1 j (.ref D) env) env >>= fun _ => again (.compLoop (dc2 kx vx t0 i0 t1 i1 scope pos) 0 it (.ref D) env)) := by
  rfl
theorem dc2_inner : compTurn (dc2 kx vx t0 i0 t1 i1 scope pos) 1 it (.ref D) env = (standAt i1.pos >>= fun _ => pyNext it >>= fun r => match r with
    | none => pure (.done .next)
    | some v => letOwnedTupleGo t1 it v >>= fun _ => assign t1 env v >>= fun _ => (eval kx env >>= fun kv => holding [kv] (eval vx env) >>= fun vv => standAt { kx.pos with endLine := vx.pos.endLine, endCol := vx.pos.endCol } >>= fun _ => holding [kv, vv] (dictSet D kv vv)) >>= fun _ => again (.compLoop (dc2 kx vx t0 i0 t1 i1 scope pos) 1 it (.ref D) env)) := by
  rfl
theorem dc2_out {I : Nat → Shared → Prop} (hs : ∀ x, foldedSetIterable i1 env x = pure x)
    (turn : ∀ k t, I k t → wpAny (model prog w) A (pyNext it) (fun r a => match r with
      | none => R (.ok .next) a
      | some v => wpAny (model prog w) A (letOwnedTupleGo t0 it v) (fun _ b => wpAny (model prog w) A (assign t0 env v) (fun _ c => wpAny (model prog w) A (eval i1 env) (fun x d => wpAny (model prog w) A (pyIter x) (fun j f =>
          codeAny (model prog w) A (.compStart (dc2 kx vx t0 i0 t1 i1 scope pos) 1 j (.ref D) env) (fun r' g => match r' with
            | .ok _ => ∃ m, m < k ∧ I m g
            | .error _ => False) f) (fun _ _ => False) d) (fun _ _ => False) c) (fun _ _ => False) b) (fun _ _ => False) a) (fun _ _ => False) t)
    {k0 : Nat} (h : I k0 s) : codeAny (model prog w) A (.compLoop (dc2 kx vx t0 i0 t1 i1 scope pos) 0 it (.ref D) env) R s := by
  refine codeAny_loop rfl I (fun k t hk => ?_) k0 h
  show wpAny _ A ((compTurn (dc2 kx vx t0 i0 t1 i1 scope pos) 0 it (.ref D) env).onRaise (fun x => do noteFrame x env; theTreesLotGoes x)) _ _ t
  refine wpAny_noted ?_
  rw [dc2_outer]
  refine wpAny_bind (wpAny_standAt (wpAny_bind (thnF (turn k t hk) fun r a ha => ?_)))
  cases r with
  | none => exact wpAny_pure ha
  | some v =>
    refine wpAny_bind (thnF ha fun _ b hb => wpAny_bind (thnF hb fun _ c hc => wpAny_bind (thnF hc fun x d hd => ?_)))
    refine wpAny_bind (wpAny_standAt (wpAny_bind (wpAny_of_eq (hs x) (wpAny_bind (wpAny_holding (thnF hd fun j f hf => ?_))))))
    refine wpAny_bind (wpAny_runOwn ?_)
    rw [Around.mark_none]
    refine codeAny_mono hf fun r' g hg => ?_
    cases r' with
    | ok _ => exact wpAny_pure ⟨rfl, hg⟩
    | error _ => exact hg.elim
theorem dc2_in {I : Nat → Shared → Prop}
    (turn : ∀ k t, I k t → wpAny (model prog w) A (pyNext it) (fun r a => match r with
      | none => R (.ok .next) a
      | some v => wpAny (model prog w) A (letOwnedTupleGo t1 it v) (fun _ b => wpAny (model prog w) A (assign t1 env v) (fun _ c => wpAny (model prog w) A (eval kx env) (fun kv d => wpAny (model prog w) A (eval vx env) (fun vv f =>
          wpAny (model prog w) A (dictSet D kv vv) (fun _ g => ∃ m, m < k ∧ I m g) (fun _ _ => False) f) (fun _ _ => False) d) (fun _ _ => False) c) (fun _ _ => False) b) (fun _ _ => False) a) (fun _ _ => False) t)
    {k0 : Nat} (h : I k0 s) : codeAny (model prog w) A (.compLoop (dc2 kx vx t0 i0 t1 i1 scope pos) 1 it (.ref D) env) R s := by
  refine codeAny_loop rfl I (fun k t hk => ?_) k0 h
  show wpAny _ A ((compTurn (dc2 kx vx t0 i0 t1 i1 scope pos) 1 it (.ref D) env).onRaise (fun x => do noteFrame x env; theTreesLotGoes x)) _ _ t
  refine wpAny_noted ?_
  rw [dc2_inner]
  refine wpAny_bind (wpAny_standAt (wpAny_bind (thnF (turn k t hk) fun r a ha => ?_)))
  cases r with
  | none => exact wpAny_pure ha
  | some v =>
    refine wpAny_bind (thnF ha fun _ b hb => wpAny_bind (thnF hb fun _ c hc => wpAny_bind (wpAny_bind (thnF hc fun kv d hd => ?_))))
    refine wpAny_bind (wpAny_holding (thnF hd fun vv f hf => wpAny_bind (wpAny_standAt (wpAny_holding (thnF hf fun _ g hg => ?_)))))
    exact wpAny_pure ⟨rfl, hg⟩
theorem dc2_start (h0 : codeAny (model prog w) A (.compLoop (dc2 kx vx t0 i0 t1 i1 scope pos) 1 it (.ref D) env) R s)
    (h : wpAny (model prog w) A (pyIter it) (fun j a => codeAny (model prog w) A (.compLoop (dc2 kx vx t0 i0 t1 i1 scope pos) 1 j (.ref D) env) R a) (fun _ _ => False) s) :
    codeAny (model prog w) A (.compStart (dc2 kx vx t0 i0 t1 i1 scope pos) 1 it (.ref D) env) R s := by
  refine codeAny_of_tree ?_
  show wpAny _ _ ((compStart (dc2 kx vx t0 i0 t1 i1 scope pos) 1 it (.ref D) env).onRaise (fun x => do noteFrame x env; standAt theWindowsPlace)) _ _ s
  refine wpAny_notedAt ?_
  unfold compStart
  show wpAny _ _ (ask >>= _) _ _ s
  refine wpAny_bind (wpAny_askSetting (wpAny_ite ?_))
  split
  · first
      | exact wpAny_pure ⟨rfl, h0⟩
      | exact wpAny_bind (wpAny_pure (wpAny_pure ⟨rfl, h0⟩))
  · refine wpAny_bind (wpAny_rule ?_)
    show wpAny _ _ (standAt i1.pos >>= _) _ _ s
    exact wpAny_bind (wpAny_standAt (wpAny_bind (thnF h fun j a ha => wpAny_pure ⟨rfl, ha⟩)))
end
def goT2 (g : TG) (wi1 : TI) (g1 : TG) (tk tv : TE) (vs vs1 : List Nat) (σ : L2.St) (Q : VK) (J : It) (D : Addr) (H1 : Hp) : Prop := ∃ W : Nat → Nat → Hp → Prop, (∃ m, W 0 m (upd H1 D (.dT []))) ∧
  Stp J W (fun H => Q (.ref D) H) fun x H Nx => g x (wipe σ vs) H fun σ2 H2 => wipe σ2 vs = wipe σ vs ∧ wi1 σ2 H2 fun J1 H3 => ∃ W1 : Nat → Nat → Hp → Prop, (∃ m, W1 0 m H3) ∧
    Stp J1 W1 Nx fun x1 H4 Nx1 => g1 x1 (wipe σ2 vs1) H4 fun σ3 H5 => wipe σ3 vs1 = wipe σ2 vs1 ∧ tk σ3 H5 fun y H6 => tv σ3 H6 fun z H7 =>
      ∃ kvs k b, y = .ref b ∧ H7 b = some (.tup (k.map kV)) ∧ H7 D = some (.dT kvs) ∧ kvs.length < sizeLine ∧ Nx1 (upd H7 D (.dT (putK kvs k z)))
theorem dc2T_loop {kx vx tg iter tg1 iter1 : Expr} {scope : Scope} {own : List (Str × Nat)} {vs1 : List Nat} {pos : Pos} {wi1 : TI} {g g1 : TG} {tk tv : TE} (hu : X.A.units + 1 < cLine) (hc : X.calm = true) (h1 : ∀ i ∈ vs1, i ∈ own.map (·.2))
    (hg : ∀ (s : Shared) (H : Hp) (C : Addr) (cl : List (Str × Addr)) (fp : List Addr), PG (X.blk s H scope (compEnvC scope cl C X.env) fp) tg g)
    (hi1 : ∀ (s : Shared) (H : Hp) (C : Addr) (cl : List (Str × Addr)) (fp : List Addr), PI (X.blk s H scope (compEnvC scope cl C X.env) fp) tg1 iter1 wi1)
    (hg1 : ∀ (s : Shared) (H : Hp) (C : Addr) (cl : List (Str × Addr)) (fp : List Addr), PG (X.blk s H scope (compEnvC scope cl C X.env) fp) tg1 g1)
    (hk : ∀ (s : Shared) (H : Hp) (C : Addr) (cl : List (Str × Addr)) (fp : List Addr), PE (X.blk s H scope (compEnvC scope cl C X.env) fp) kx tk)
    (hv : ∀ (s : Shared) (H : Hp) (C : Addr) (cl : List (Str × Addr)) (fp : List Addr), PE (X.blk s H scope (compEnvC scope cl C X.env) fp) vx tv) (hs1 : ∀ env x, foldedSetIterable iter1 env x = pure x) (σ : L2.St) (Q : VK) :
    DLp X σ scope own tg (dc2 kx vx tg iter tg1 iter1 scope pos) (goT2 g wi1 g1 tk tv (own.map (·.2)) vs1 σ Q) Q := by
  intro J D it fp tn H1 s3 s4 cl RR go T I4 t4 n4 fin
  obtain ⟨W, ⟨m0, w0⟩, st⟩ := go
  have pg := hg s3 (upd H1 D (.dT [])) s3.heap.objs.size cl fp
  have pi1 := hi1 s3 (upd H1 D (.dT [])) s3.heap.objs.size cl fp
  have pg1 := hg1 s3 (upd H1 D (.dT [])) s3.heap.objs.size cl fp
  have pk := hk s3 (upd H1 D (.dT [])) s3.heap.objs.size cl fp
  have pv := hv s3 (upd H1 D (.dT [])) s3.heap.objs.size cl fp
  generalize compEnvC scope cl s3.heap.objs.size X.env = ce at *
  refine dc2_out (I := Lp (X.blk s3 (upd H1 D (.dT [])) scope ce fp) [] (wipe σ (own.map (·.2))) fp tn W) (hs1 ce) (fun n s5 hl => ?_) ⟨0, _, I4, t4, n4, w0⟩
  refine thn (hl.turn (Y := X.blk s3 (upd H1 D (.dT [])) scope ce fp) T hc (fun H' σ' s' a b => blk_fp a b) st) fun r s6 h6 => ?_
  cases r with
  | none =>
    obtain ⟨H6, I6, q⟩ := h6
    exact fin H6 s6 I6 q
  | some u =>
    refine thn h6 fun _ s7 h7 => ?_
    obtain ⟨x, H7, pq, Nx, I7, rx, by7, on⟩ := h7
    refine thn (pg.run _ s7 _ H7 x u _ I7 rx by7) fun _ s8 h8 => ?_
    obtain ⟨σ8, H8, I8, w8, q8⟩ := h8
    refine thn (pi1.run _ s8 σ8 H8 _ I8 q8) fun xv s9 h9 => thn h9 fun jv s10 h10 => ?_
    obtain ⟨jt, fp1, tn1, J1, H10, rfl, I10, T1, t10, f10, W1, ⟨k0, v0⟩, st1⟩ := h10
    have inner : codeAny (model X.prog X.w) X.A (.compLoop (dc2 kx vx tg iter tg1 iter1 scope pos) 1 (.ref jt) (.ref D) ce) (fun r' g' => match r' with
        | .ok _ => ∃ m, m < n ∧ Lp (X.blk s3 (upd H1 D (.dT [])) scope ce fp) [] (wipe σ (own.map (·.2))) fp tn W m g'
        | .error _ => False) s10 := by
      refine dc2_in (I := Lp (X.blk s3 (upd H1 D (.dT [])) scope ce fp) ([] ++ pq) (wipe σ8 vs1) fp1 tn1 W1) (fun k s11 hl1 => ?_) ⟨0, H10, I10.weak (wipe_length _ _) (fun j v e => (wipe_some e).1), t10, fun b hb => (f10 b hb).1, v0⟩
      refine thn (hl1.turn (Y := X.blk s3 (upd H1 D (.dT [])) scope ce fp) T1 hc (fun H' σ' s' a _ b hb => ⟨a b hb, (f10 b hb).2⟩) st1) fun r s12 h12 => ?_
      cases r with
      | none =>
        obtain ⟨H12, I12, nx⟩ := h12
        refine on _ _ _ I12 ?_ ?_ nx
        · rw [← w8, wipe_length, wipe_length]
        · intro j v e
          rw [← w8] at e
          obtain ⟨e1, e2⟩ := wipe_some e
          rw [wipe_out fun z => e2 (h1 j z)]
          exact e1
      | some u1 =>
        refine thn h12 fun _ s13 h13 => ?_
        obtain ⟨x1, H13, pr, Nx1, I13, rx1, by13, on1⟩ := h13
        refine thn (pg1.run _ s13 _ H13 x1 u1 _ I13 rx1 by13) fun _ s14 h14 => ?_
        obtain ⟨σ14, H14, I14, w14, q14⟩ := h14
        refine thn (pk.run _ s14 σ14 H14 _ I14 q14) fun kv s15 h15 => ?_
        obtain ⟨y, H15, I15, ry, q15⟩ := h15
        refine thn (pv.run _ s15 σ14 H15 _ I15 q15) fun vv s16 h16 => ?_
        obtain ⟨z, H16, I16, rz, kvs, k', b, rfl, eb, eD, hz, nx⟩ := h16
        obtain rfl : kv = Value.ref b := ry
        refine put_tup (X := X.blk s3 (upd H1 D (.dT [])) scope ce fp) hu I16 eD eb hz rz fun s17 I17 => on1 _ _ _ I17 ?_ ?_ nx
        · rw [← w14, wipe_length]
        · intro j v e
          rw [← w14] at e
          exact (wipe_some e).1
    exact dc2_start inner (T1.self X.A 0 _ _ _ t10 inner)
section
variable {kx vx tg iter tg1 iter1 : Expr} {scope : Scope} {own : List (Str × Nat)} {vs1 : List Nat} {pos : Pos} {wi wi1 : TI} {g g1 : TG} {tk tv : TE} (hu : X.A.units + 1 < cLine) (hc : X.calm = true) (hN : X.N.Nodup) (hi : PI X tg iter wi) (ok : BlkOk X.N X.env.scope scope own) (h1 : ∀ i ∈ vs1, i ∈ own.map (·.2))
    (hg : ∀ (s : Shared) (H : Hp) (C : Addr) (cl : List (Str × Addr)) (fp : List Addr), PG (X.blk s H scope (compEnvC scope cl C X.env) fp) tg g)
    (hi1 : ∀ (s : Shared) (H : Hp) (C : Addr) (cl : List (Str × Addr)) (fp : List Addr), PI (X.blk s H scope (compEnvC scope cl C X.env) fp) tg1 iter1 wi1)
    (hg1 : ∀ (s : Shared) (H : Hp) (C : Addr) (cl : List (Str × Addr)) (fp : List Addr), PG (X.blk s H scope (compEnvC scope cl C X.env) fp) tg1 g1)
    (hk : ∀ (s : Shared) (H : Hp) (C : Addr) (cl : List (Str × Addr)) (fp : List Addr), PE (X.blk s H scope (compEnvC scope cl C X.env) fp) kx tk)
    (hv : ∀ (s : Shared) (H : Hp) (C : Addr) (cl : List (Str × Addr)) (fp : List Addr), PE (X.blk s H scope (compEnvC scope cl C X.env) fp) vx tv)
include hu hc hN hi ok h1 hg hi1 hg1 hk hv
theorem pe_dc2T (hs : ∀ x, foldedSetIterable iter X.env x = pure x := by intro _; rfl) (hs1 : ∀ env x, foldedSetIterable iter1 env x = pure x := by intro _ _; rfl) : PE X (dc2 kx vx tg iter tg1 iter1 scope pos) (tDc2T wi g wi1 g1 tk tv (own.map (·.2)) vs1) :=
  pe_dict (Go := goT2 g wi1 g1 tk tv (own.map (·.2)) vs1) hN hi ok hs fun σ Q => dc2T_loop hu hc h1 hg hi1 hg1 hk hv hs1 σ Q
theorem ps_dc2T {i : Nat} {y : Str} {py spos : Pos} (hy : X.N[i]? = some y) (hyl : X.env.scope.names.lookup y = some .local) (hsw : swapsWith (dc2 kx vx tg iter tg1 iter1 scope pos) (some (.Name y py)) spos.line X.env = pure true) (hs : ∀ x, foldedSetIterable iter X.env x = pure x := by intro _; rfl) (hs1 : ∀ env x, foldedSetIterable iter1 env x = pure x := by intro _ _; rfl) :
    PS X (.Assign [.Name y py] (dc2 kx vx tg iter tg1 iter1 scope pos) spos) (tAsg (tDc2T wi g wi1 g1 tk tv (own.map (·.2)) vs1) (gName i)) := by
  have h := ps_dict (Go := goT2 g wi1 g1 tk tv (own.map (fun x => x.2)) vs1) hN hy hyl hsw hi ok hs fun σ Q => dc2T_loop hu hc h1 hg hi1 hg1 hk hv hs1 σ Q
  exact h
end
end
/-- a walk answers what Stp asks -/
theorem stp_it {J : It} {n : Nat} {Gd : Hp → Prop} {Y : Nat → Hp → V → Hp → Prop} (w : Walk J n Gd Y) {Ed : Hp → Prop} {B : V → Hp → (Hp → Prop) → Prop} {H0 : Hp} (Pv : Nat → Hp → Prop) (h0 : Pv 0 H0) (hG : ∀ i H, i ≤ n → Pv i H → Gd H)
    (hs : ∀ i x H H', i < n → Pv i H → Y i H x H' → B x H' (Pv (i + 1))) (hd : ∀ H, Pv n H → Ed H) : ∃ W : Nat → Nat → Hp → Prop, (∃ m, W 0 m H0) ∧ Stp J W Ed B := by
  refine ⟨fun i m H => m = n - i ∧ i ≤ n ∧ Pv i H, ⟨n, rfl, Nat.zero_le _, h0⟩, fun i m H h => ?_⟩
  obtain ⟨rfl, le, pv⟩ := h
  rcases Nat.lt_or_ge i n with lt | ge
  · exact .inr ⟨w.goes i H lt (hG i H le pv), Pv (i + 1), fun H' p' => ⟨n - (i + 1), by omega, rfl, lt, p'⟩, fun x H' y => hs i x H H' lt pv (w.yields i H x H' lt (hG i H le pv) y)⟩
  · obtain rfl : i = n := by omega
    exact .inl ⟨w.stops H (hG i H le pv), hd H pv⟩
end NB

set_option Elab.async false
set_option linter.all false
set_option maxRecDepth 100000
set_option maxHeartbeats 1000000
/-! tuple(zip(a, b)) of two lists of one length. -/
namespace NB
open PySem PySem.Spec PyProof.Rows L2

theorem zip_len0 : typeLookup (.type "zip") "__len__" = pure none := by
  rw [typeLookup_type, builtinLookup_eq_fast]
  kernel_rfl
theorem zip_hint0 : typeLookup (.type "zip") "__length_hint__" = pure none := by
  rw [typeLookup_type, builtinLookup_eq_fast]
  kernel_rfl
/-- the tuples given out so far -/
def Gave (h : Heap) (ban : List Addr) (xs ys : Array Value) (Ts : List Addr) : Prop := ∀ (j : Nat) (T : Addr), Ts[j]? = some T → T ∉ ban ∧ ∃ x y, xs[j]? = some x ∧ ys[j]? = some y ∧ IsPair h T x y
/-- a zip of two lists behind k turns -/
def Zst (h : Heap) (z TI TO i1 i2 l1 l2 : Addr) (xs ys : Array Value) (k : Nat) (Ts : List Addr) : Prop :=
  ((IsZip h z TI TO .none ∧ Ts = []) ∨ ∃ T ∈ Ts, ∃ f, IsZipHeld h z TI TO T f) ∧ IsPair h TI (.ref i1) (.ref i2) ∧ (∃ a b, IsPair h TO a b) ∧ (h.IsListIter i1 l1 k ∧ h.IsListIter i2 l2 k) ∧ h.IsList l1 xs ∧ h.IsList l2 ys
theorem Gave.keep {h h' : Heap} {ban : List Addr} {xs ys : Array Value} {Ts : List Addr} (g : Gave h ban xs ys Ts) (k : ∀ b o, b ∉ ban → h.get? b = some o → h'.get? b = some o) : Gave h' ban xs ys Ts := fun j T e => by
  obtain ⟨n, x, y, ex, ey, p⟩ := g j T e
  exact ⟨n, x, y, ex, ey, k _ _ n p⟩
theorem Gave.snoc {h : Heap} {ban : List Addr} {xs ys : Array Value} {Ts : List Addr} {T : Addr} {x y : Value} (g : Gave h ban xs ys Ts) (n : T ∉ ban) (ex : xs[Ts.length]? = some x) (ey : ys[Ts.length]? = some y) (p : IsPair h T x y) : Gave h ban xs ys (Ts ++ [T]) := fun j T' e => by
  rcases Nat.lt_trichotomy j Ts.length with l | l | l
  · rw [List.getElem?_append_left l] at e
    exact g j T' e
  · rw [l, List.getElem?_append_right (Nat.le_refl _), Nat.sub_self] at e
    cases e
    exact ⟨n, x, y, l ▸ ex, l ▸ ey, p⟩
  · rw [List.getElem?_append_right (by omega)] at e
    rw [List.getElem?_eq_none (by simp; omega)] at e
    cases e
section
variable {prog : Program} {w : World} {A : Around} {E : Value → Shared → Prop} {z TI TO i1 i2 l1 l2 S : Addr} {xs ys : Array Value}
abbrev listAt (h : Heap) (S : Addr) (vs : Array Value) (c : Nat) : Prop := h.get? S = some { cls := .type "list", dict := none, data := .seq vs c, slots := #[] }
theorem zip_turn {s : Shared} {k : Nat} {Ts : List Addr} {x y : Value} {Q : Option Value → Shared → Prop} (D : ZipApart z TI TO i1 i2 l1 l2) (st : Zst s.heap z TI TO i1 i2 l1 l2 xs ys k Ts) (hT : ∀ T ∈ Ts, ∃ o, s.heap.get? T = some o) (hx : xs[k]? = some x) (hy : ys[k]? = some y)
    (hQ : ∀ h', Zst h' z TI TO i1 i2 l1 l2 xs ys (k + 1) (Ts ++ [s.heap.objs.size]) → IsPair h' s.heap.objs.size x y → (∀ b o, b ∉ [z, TO, i1, i2] → s.heap.get? b = some o → h'.get? b = some o) → Q (some (.ref s.heap.objs.size)) { s with heap := h' }) :
    wpAny (model prog w) A (pyNext (.ref z)) Q E s := by
  obtain ⟨zs, p1, ⟨a, b, p2⟩, ⟨t1, t2⟩, q1, q2⟩ := st
  rcases zs with ⟨z0, _⟩ | ⟨T, mT, f, zh⟩
  · refine wpAny_pyNext_zip_item D z0 p1 p2 t1 t2 q1 q2 hx hy fun h' a1 a2 a3 a4 a5 _ kp => hQ h' ⟨.inr ⟨_, List.mem_append_right _ (List.mem_singleton.mpr rfl), false, a1⟩, kp _ _ D.TIz D.TITO D.TIi1 D.TIi2 p1, ⟨_, _, a2⟩, ⟨a3, a4⟩, q1.at fun o e => kp _ o D.l1z D.l1TO D.l1i1 D.l1i2 e, q2.at fun o e => kp _ o D.l2z D.l2TO D.l2i1 D.l2i2 e⟩ a5 fun b o nb e => ?_
    simp only [List.mem_cons, List.not_mem_nil, or_false, not_or] at nb
    exact kp b o nb.1 nb.2.1 nb.2.2.1 nb.2.2.2 e
  · obtain ⟨o, eo⟩ := hT T mT
    refine wpAny_pyNext_zip_item_held D zh eo p1 t1 t2 q1 q2 hx hy fun h' a1 a3 a4 a5 _ kp => hQ h' ⟨.inr ⟨T, List.mem_append_left _ mT, true, a1⟩, kp _ _ D.TIz D.TIi1 D.TIi2 p1, ⟨_, _, kp _ _ D.TOz D.TOi1 D.TOi2 p2⟩, ⟨a3, a4⟩, q1.at fun o e => kp _ o D.l1z D.l1i1 D.l1i2 e, q2.at fun o e => kp _ o D.l2z D.l2i1 D.l2i2 e⟩ a5 fun b o nb e => ?_
    simp only [List.mem_cons, List.not_mem_nil, or_false, not_or] at nb
    exact kp b o nb.1 nb.2.2.1 nb.2.2.2 e
theorem zip_over {s : Shared} {k : Nat} {Ts : List Addr} {Q : Option Value → Shared → Prop} (hh : A.handled = none) (D : ZipApart z TI TO i1 i2 l1 l2) (st : Zst s.heap z TI TO i1 i2 l1 l2 xs ys k Ts) (hT : ∀ T ∈ Ts, ∃ o, s.heap.get? T = some o) (hx : xs[k]? = none)
    (hQ : ∀ h', (∀ b o, b ∉ [z, TO, i1, i2] → s.heap.get? b = some o → h'.get? b = some o) → Q none { s with heap := h' }) : wpAny (model prog w) A (pyNext (.ref z)) Q E s := by
  obtain ⟨zs, p1, ⟨a, b, p2⟩, ⟨t1, t2⟩, q1, q2⟩ := st
  rcases zs with ⟨z0, _⟩ | ⟨T, mT, f, zh⟩
  · refine wpAny_pyNext_zip_end hh D z0 p1 p2 t1 t2 q1 q2 (.inl hx) fun h' kp => hQ h' fun b o nb e => ?_
    simp only [List.mem_cons, List.not_mem_nil, or_false, not_or] at nb
    exact kp b o nb.1 nb.2.1 nb.2.2.1 nb.2.2.2 e
  · obtain ⟨o, eo⟩ := hT T mT
    refine wpAny_pyNext_zip_end_held hh D zh eo p1 t1 t2 q1 q2 (.inl hx) fun h' kp => hQ h' fun b o nb e => ?_
    simp only [List.mem_cons, List.not_mem_nil, or_false, not_or] at nb
    exact kp b o nb.1 nb.2.2.1 nb.2.2.2 e
theorem Zst.keep {h h' : Heap} {k : Nat} {Ts : List Addr} (st : Zst h z TI TO i1 i2 l1 l2 xs ys k Ts) (kp : ∀ b o, b ≠ S → h.get? b = some o → h'.get? b = some o) (n : S ∉ [z, TI, TO, i1, i2, l1, l2]) : Zst h' z TI TO i1 i2 l1 l2 xs ys k Ts := by
  simp only [List.mem_cons, List.not_mem_nil, or_false, not_or] at n
  obtain ⟨n1, n2, n3, n4, n5, n6, n7⟩ := n
  obtain ⟨zs, p1, ⟨a, b, p2⟩, ⟨t1, t2⟩, q1, q2⟩ := st
  refine ⟨?_, kp _ _ (Ne.symm n2) p1, ⟨a, b, kp _ _ (Ne.symm n3) p2⟩, ⟨t1.at fun o e => kp _ o (Ne.symm n4) e, t2.at fun o e => kp _ o (Ne.symm n5) e⟩, q1.at fun o e => kp _ o (Ne.symm n6) e, q2.at fun o e => kp _ o (Ne.symm n7) e⟩
  rcases zs with ⟨z0, e⟩ | ⟨T, mT, f, zh⟩
  · exact .inl ⟨kp _ _ (Ne.symm n1) z0, e⟩
  · exact .inr ⟨T, mT, f, kp _ _ (Ne.symm n1) zh⟩
theorem zip_loop {R : Result → Shared → Prop} (hh : A.handled = none) (D : ZipApart z TI TO i1 i2 l1 l2) (nS : S ∉ [z, TI, TO, i1, i2, l1, l2]) (hn : xs.size = ys.size) (hz : xs.size ≤ 1000) (res : Value) :
    ∀ (m k : Nat) (s : Shared) (Ts : List Addr) (c : Nat), xs.size - k = m → k ≤ xs.size → Ts.length = k → Zst s.heap z TI TO i1 i2 l1 l2 xs ys k Ts → Gave s.heap [S, z, TO, i1, i2] xs ys Ts → listAt s.heap S (Ts.map Value.ref).toArray c →
    (∀ (h' : Heap) (Us : List Addr) (c' : Nat), (∀ b o, b ∉ [S, z, TO, i1, i2] → s.heap.get? b = some o → h'.get? b = some o) → Us.length = xs.size → (∀ T ∈ Us, T ∈ Ts ∨ s.heap.objs.size ≤ T) → Us.Nodup ∨ True → Gave h' [S, z, TO, i1, i2] xs ys Us → listAt h' S (Us.map Value.ref).toArray c' → R (.ok (.ret res)) { s with heap := h' }) →
    codeAny (model prog w) A (.builtin "list.extend.loop" ⟨[.ref S, .ref z, res], []⟩) R s := by
  have hb : ∀ b, b ∉ [S, z, TO, i1, i2] → b ∉ [z, TO, i1, i2] := fun b h1 h2 => h1 (List.mem_cons_of_mem _ h2)
  intro m
  induction m with
  | zero =>
    intro k s Ts c em le lT st gv lS fin
    have ek : k = xs.size := by omega
    have al : ∀ T ∈ Ts, ∃ o, s.heap.get? T = some o := fun T mT => by
      obtain ⟨j, hj, e⟩ := List.getElem_of_mem mT
      obtain ⟨_, _, _, _, _, p⟩ := gv j T (by rw [List.getElem?_eq_getElem hj, e])
      exact ⟨_, p⟩
    refine codeAny_builtin F.entry_extend_loop ?_
    rw [Around.under_plainId F.plain_extend_loop _]
    show wpAny _ A.in1 (pyNext (.ref z) >>= _) _ _ s
    have sn : S ∉ [z, TO, i1, i2] := fun h => nS (by
      simp only [List.mem_cons, List.not_mem_nil, or_false] at h ⊢
      rcases h with h | h | h | h <;> simp [h])
    refine wpAny_bind (zip_over (A := A.in1) hh D st al (by rw [ek]; simp) fun h' kp => wpAny_pure ?_)
    exact fin h' Ts c (fun b o n e => kp b o (hb b n) e) (by omega) (fun T h => .inl h) (.inr trivial) (gv.keep fun b o n e => kp b o (hb b n) e) (kp _ _ sn lS)
  | succ m ih =>
    intro k s Ts c em le lT st gv lS fin
    have lk : k < xs.size := by omega
    have al : ∀ T ∈ Ts, ∃ o, s.heap.get? T = some o := fun T mT => by
      obtain ⟨j, hj, e⟩ := List.getElem_of_mem mT
      obtain ⟨_, _, _, _, _, p⟩ := gv j T (by rw [List.getElem?_eq_getElem hj, e])
      exact ⟨_, p⟩
    have sn : S ∉ [z, TO, i1, i2] := fun h => nS (by
      simp only [List.mem_cons, List.not_mem_nil, or_false] at h ⊢
      rcases h with h | h | h | h <;> simp [h])
    refine codeAny_builtin F.entry_extend_loop ?_
    rw [Around.under_plainId F.plain_extend_loop _]
    show wpAny _ A.in1 (pyNext (.ref z) >>= _) _ _ s
    have ex : xs[k]? = some xs[k] := Array.getElem?_eq_getElem lk
    have ey : ys[k]? = some (ys[k]'(by omega)) := Array.getElem?_eq_getElem _
    refine wpAny_bind (zip_turn (A := A.in1) D st al ex ey fun h' st' pr kp => ?_)
    have lS' : listAt h' S (Ts.map Value.ref).toArray c := kp _ _ sn lS
    show wpAny _ A.in1 (updateSeq S (·.push (.ref s.heap.objs.size)) >>= _) _ _ _
    have up : ∀ b o, b ≠ S → h'.get? b = some o → (h'.update S (Obj.mapSeq (·.push (Value.ref s.heap.objs.size)))).get? b = some o := fun b o n e => (Heap.get?_update_other _ _ (Ne.symm n)).trans e
    have nT : s.heap.objs.size ∉ [S, z, TO, i1, i2] := fun h => by
      have lt : ∀ {c o}, s.heap.get? c = some o → s.heap.objs.size ≠ c := fun e => Nat.ne_of_gt (Heap.lt_size e)
      obtain ⟨zs, p1, ⟨a, b, p2⟩, ⟨⟨_, t1, _⟩, ⟨_, t2, _⟩⟩, q1, q2⟩ := st
      simp only [List.mem_cons, List.not_mem_nil, or_false] at h
      rcases h with h | h | h | h | h
      · exact lt lS h
      · rcases zs with ⟨z0, _⟩ | ⟨T, mT, f, zh⟩
        · exact lt z0 h
        · exact lt zh h
      · exact lt p2 h
      · exact lt t1 h
      · exact lt t2 h
    have gv' : Gave h' [S, z, TO, i1, i2] xs ys (Ts ++ [s.heap.objs.size]) := (gv.keep fun b o n e => kp b o (hb b n) e).snoc nT (by rw [lT]; exact ex) (by rw [lT]; exact ey) pr
    refine wpAny_bind (wpAny_updateSeq lS' rfl (wpAny_pure ⟨plainId_quiet F.plain_extend_loop _, ih (k + 1) _ (Ts ++ [s.heap.objs.size]) (c + 1) (by omega) lk (by rw [List.length_append, lT]; rfl) (st'.keep up nS) (gv'.keep fun b o n e => up b o (fun z => n (by rw [z]; exact List.mem_cons_self)) e) ?_ fun h'' Us c' kk lU mU _ gU lU' => ?_⟩) ?_ ?_)
    · have := Heap.get?_update_self (Obj.mapSeq (·.push (Value.ref s.heap.objs.size))) lS' rfl
      refine this.trans ?_
      have sz : (((Ts.map Value.ref).toArray.push (Value.ref s.heap.objs.size)).size == (Ts.map Value.ref).toArray.size) = false := by
        rw [Array.size_push]
        exact beq_eq_false_iff_ne.mpr (by omega)
      have ea : (Ts.map Value.ref).toArray.push (Value.ref s.heap.objs.size) = ((Ts ++ [s.heap.objs.size]).map Value.ref).toArray := by simp
      show some (Obj.mapSeq _ _) = _
      unfold Obj.mapSeq
      rw [ea] at sz
      simp only [ea, sz]
      rfl
    · refine fin h'' Us c' (fun b o n e => kk b o n (up b o (fun z => n (by rw [z]; exact List.mem_cons_self)) (kp b o (hb b n) e))) lU (fun T h => ?_) (.inr trivial) gU lU'
      rcases mU T h with h | h
      · rcases List.mem_append.mp h with h | h
        · exact .inl h
        · exact .inr (by rw [List.mem_singleton.mp h]; exact Nat.le_refl _)
      · refine .inr (Nat.le_trans ?_ h)
        have := Heap.lt_size pr
        show s.heap.objs.size ≤ (h'.update S _).objs.size
        have e : (h'.update S (Obj.mapSeq (·.push (Value.ref s.heap.objs.size)))).objs.size = h'.objs.size := Heap.size_update ..
        rw [e]
        exact Nat.le_of_lt this
    · show (Ts.map Value.ref).toArray.size ≤ sizeLine
      simp only [List.size_toArray, List.length_map]
      exact Nat.le_of_lt (small1000 (by omega))
    · show ((Ts.map Value.ref).toArray.push _).size ≤ sizeLine + 1
      simp only [Array.size_push, List.size_toArray, List.length_map]
      have := small1000 (n := Ts.length) (by omega)
      omega

/-- the list of what a zip gives -/
theorem zip_collect {s : Shared} {Q : List Value → Shared → Prop} (hh : A.handled = none) (D : ZipApart z TI TO i1 i2 l1 l2) (hn : xs.size = ys.size) (hz : xs.size ≤ 1000) (st : Zst s.heap z TI TO i1 i2 l1 l2 xs ys 0 [])
    (hQ : ∀ (h' : Heap) (Us : List Addr), (∀ b o, b ∉ [z, TO, i1, i2] → s.heap.get? b = some o → h'.get? b = some o) → Us.length = xs.size → (∀ T ∈ Us, s.heap.objs.size ≤ T) → Gave h' [z, TO, i1, i2] xs ys Us → Q (Us.map Value.ref) { s with heap := h' }) :
    wpAny (model prog w) A (collect (.ref z)) Q E s := by
  have lt : ∀ {c o}, s.heap.get? c = some o → s.heap.objs.size ≠ c := fun e => Nat.ne_of_gt (Heap.lt_size e)
  have z0 : IsZip s.heap z TI TO .none := by
    rcases st.1 with ⟨h, _⟩ | ⟨_, h, _⟩
    · exact h
    · exact absurd h List.not_mem_nil
  have nS : s.heap.objs.size ∉ [z, TI, TO, i1, i2, l1, l2] := fun h => by
    obtain ⟨_, p1, ⟨a, b, p2⟩, ⟨⟨_, t1, _⟩, ⟨_, t2, _⟩⟩, ⟨_, q1, _⟩, ⟨_, q2, _⟩⟩ := st
    simp only [List.mem_cons, List.not_mem_nil, or_false] at h
    rcases h with h | h | h | h | h | h | h
    · exact lt z0 h
    · exact lt p1 h
    · exact lt p2 h
    · exact lt t1 h
    · exact lt t2 h
    · exact lt q1 h
    · exact lt q2 h
  unfold collect
  refine wpAny_bind (wpAny_runValue (codeAny_builtin F.entry_proto_collect ?_))
  rw [Around.under_plainId F.plain_proto_collect _]
  show wpAny _ A.in1 (newList [] >>= fun l => again (.builtin "list.__iadd__" ⟨[l, .ref z], []⟩)) _ _ s
  refine wpAny_bind (wpAny_newObj_type ?_)
  refine wpAny_pure ⟨plainId_quiet F.plain_list_iadd _, codeAny_builtin F.entry_list_iadd ?_⟩
  rw [Around.under_plainId F.plain_list_iadd _]
  obtain ⟨S, eS⟩ : ∃ S, S = s.heap.objs.size := ⟨_, rfl⟩
  rw [← eS] at nS lt ⊢
  obtain ⟨g, eg⟩ : ∃ g : Heap, g = s.heap.push { cls := .type "list", data := .seq ([] : List Value).toArray } := ⟨_, rfl⟩
  rw [← eg]
  have up : ∀ b o, s.heap.get? b = some o → g.get? b = some o := fun b o e => by rw [eg]; exact Heap.get?_push_of_some _ e
  have gS : listAt g S #[] 0 := by
    rw [eg, eS]
    exact Heap.get?_push_size _ rfl
  have gz : IsZip g z TI TO .none := up _ _ z0
  have ty : ({ s with heap := g } : Shared).TypeIs (.ref z) "zip" := ⟨_, gz, rfl⟩
  have nz : S ≠ z := fun e => nS (by simp [e])
  show wpAny _ A.in1 (Builtin.List.listExtendWith (.ref S) (.ref z) (.ref S)) _ _ { s with heap := g }
  unfold Builtin.List.listExtendWith
  refine wpAny_bind (wpAny_typeOf ty ?_)
  have k1 : Builtin.List.listSameRef (.ref S) (.ref z) = false := by simp [Builtin.List.listSameRef, nz]
  have k2 : (Value.type "zip" == Value.type "list") = false := by decide
  have k3 : (Value.type "zip" == Value.type "tuple") = false := by decide
  simp only [k1, k2, k3, Bool.or_false, Bool.false_eq_true, if_false]
  refine wpAny_bind (wpAny_pyIter_zip (s := { s with heap := g }) gz ?_)
  refine wpAny_bind (wpAny_holding ?_)
  unfold Builtin.List.listLengthHint
  refine wpAny_bind (wpAny_specialOf ty zip_len0 ?_)
  show wpAny _ A.in1 (specialOf (Value.ref z) (Str.ofString "__length_hint__") >>= _) _ _ _
  refine wpAny_bind (wpAny_specialOf ty zip_hint0 ?_)
  refine wpAny_pure ?_
  show wpAny _ A.in1 (rule "list.extend.makes-room" >>= fun _ => Builtin.List.listTouch (.ref S) >>= fun _ => again (.builtin "list.extend.loop" ⟨[.ref S, .ref z, .ref S], []⟩)) _ _ _
  refine wpAny_bind (wpAny_rule (wpAny_bind ?_))
  show wpAny _ A.in1 (updateSeq S (·.push .none) >>= fun _ => updateSeq S (·.pop)) _ _ _
  refine wpAny_bind (wpAny_updateSeq (s := { s with heap := g }) gS rfl ?_)
  have g2 := Heap.get?_update_self (Obj.mapSeq (·.push Value.none)) gS rfl
  refine wpAny_updateSeq g2 rfl ?_
  have g3 := Heap.get?_update_self (Obj.mapSeq (·.pop)) g2 rfl
  have oth : ∀ b o, b ≠ S → g.get? b = some o → ((g.update S (Obj.mapSeq (·.push Value.none))).update S (Obj.mapSeq (·.pop))).get? b = some o := fun b o n e => (Heap.get?_update_other _ _ (Ne.symm n)).trans ((Heap.get?_update_other _ _ (Ne.symm n)).trans e)
  have st' : Zst ((g.update S (Obj.mapSeq (·.push Value.none))).update S (Obj.mapSeq (·.pop))) z TI TO i1 i2 l1 l2 xs ys 0 [] := by
    refine Zst.keep (S := S) (h := g) ?_ oth nS
    obtain ⟨_, p1, ⟨a, b, p2⟩, ⟨t1, t2⟩, q1, q2⟩ := st
    exact ⟨.inl ⟨gz, rfl⟩, up _ _ p1, ⟨a, b, up _ _ p2⟩, ⟨t1.at fun o e => up _ o e, t2.at fun o e => up _ o e⟩, q1.at fun o e => up _ o e, q2.at fun o e => up _ o e⟩
  have sz : ((g.update S (Obj.mapSeq (·.push Value.none))).update S (Obj.mapSeq (·.pop))).objs.size = s.heap.objs.size + 1 := by
    have a1 : ((g.update S (Obj.mapSeq (·.push Value.none))).update S (Obj.mapSeq (·.pop))).objs.size = (g.update S (Obj.mapSeq (·.push Value.none))).objs.size := Heap.size_update ..
    have a2 : (g.update S (Obj.mapSeq (·.push Value.none))).objs.size = g.objs.size := Heap.size_update ..
    rw [a1, a2, eg, Heap.size_push]
  refine wpAny_pure ⟨plainId_quiet F.plain_extend_loop _, zip_loop hh D nS hn hz _ xs.size 0 _ [] _ (by omega) (Nat.zero_le _) rfl st' (fun j T e => by simp at e) g3 fun h' Us c' kp lU mU _ gU lU' => ?_⟩
  have nb : ∀ {b o}, s.heap.get? b = some o → b ≠ S := fun e z => lt e z.symm
  show wpAny _ A (load S >>= _) _ _ { s with heap := h' }
  refine wpAny_bind (wpAny_load lU' (wpAny_pure ?_))
  refine hQ h' Us (fun b o n e => kp b o (fun m => ?_) (oth b o (nb e) (up b o e))) lU (fun T h => ?_) fun j T e => ?_
  · rcases List.mem_cons.mp m with m | m
    · exact nb e m
    · exact n m
  · rcases mU T h with h | h
    · exact absurd h List.not_mem_nil
    · have : s.heap.objs.size + 1 ≤ T := by rw [← sz]; exact h
      exact Nat.le_of_succ_le this
  · obtain ⟨n, x, y, ex, ey, p⟩ := gU j T e
    exact ⟨fun m => n (List.mem_cons_of_mem _ m), x, y, ex, ey, p⟩
theorem zip_tuple {s : Shared} {Q : Value → Shared → Prop} (hh : A.handled = none) (D : ZipApart z TI TO i1 i2 l1 l2) (hn : xs.size = ys.size) (hz : xs.size ≤ 1000) (st : Zst s.heap z TI TO i1 i2 l1 l2 xs ys 0 [])
    (hQ : ∀ (h' : Heap) (Us : List Addr), (∀ b o, b ∉ [z, TO, i1, i2] → s.heap.get? b = some o → h'.get? b = some o) → Us.length = xs.size → (∀ T ∈ Us, s.heap.objs.size ≤ T) → Gave h' [z, TO, i1, i2] xs ys Us →
      Q (.ref h'.objs.size) { s with heap := h'.push { cls := .type "tuple", data := .seq (Us.map Value.ref).toArray } }) :
    wpAny (model prog w) A (call (.type "tuple") [.ref z]) Q E s := by
  refine callType_codes (Q₁ := fun o t => t.TypeIs o "tuple" ∧ Q o t) F.called_tuple (F.typeCall_tuple_1 _) F.entry_object_init ?_ fun o t ht => ⟨ht.1, F.args_object_init_2 o _, object_init_meets F.called_tuple.init.lookup F.called_tuple.made (by decide) prog w A.in1 _ t ⟨ht.1, rfl, ht.2⟩⟩
  have z0 : IsZip s.heap z TI TO .none := by
    rcases st.1 with ⟨h, _⟩ | ⟨_, h, _⟩
    · exact h
    · exact absurd h List.not_mem_nil
  have ty : s.TypeIs (.ref z) "zip" := ⟨_, z0, rfl⟩
  refine codeAny_of_tree ?_
  show wpAny _ A.in1.in1 (do checkBuiltinCall "tuple.__new__" ⟨[.type "tuple", .ref z], []⟩; again (.builtin "tuple.__new__" ⟨[.type "tuple", .ref z], []⟩)) _ _ s
  refine wpAny_bind (wpAny_of_eq (F.newCall_tuple_1 _) (wpAny_pure ⟨plainId_quiet F.plain_tuple_new _, codeAny_builtin F.entry_tuple_new ?_⟩))
  rw [Around.under_plainId F.plain_tuple_new _]
  have f1 := sub_tuple_self
  have f2 := init_tuple_lookup
  have f3 := madeHere_tuple
  have hh2 : A.in1.in1.handled = none := hh
  wp_walk using wpAny_typeOf ty, zip_collect (A := A.in1.in1) hh2 D hn hz st
  intro h' Us kp lU mU gU
  show wpAny _ _ (Builtin.Tuple.tupleExact (Us.map Value.ref).toArray >>= fun v => ret v) _ _ _
  unfold Builtin.Tuple.tupleExact
  refine wpAny_bind (wpAny_newObj_type (wpAny_pure ⟨⟨_, Heap.get?_push_size _ rfl, rfl⟩, hQ h' Us kp lU mU gU⟩) ?_)
  show (Us.map Value.ref).toArray.size ≤ sizeLine
  rw [List.size_toArray, List.length_map, lU]
  exact Nat.le_of_lt (small1000 hz)
end

section
variable {X : Cx} {pins : List (Addr × Obj)} {σ : L2.St} {H H' : Hp} {s : Shared}
/-- some objects laid and tracked at once -/
theorem inv_laid {h' : Heap} {t' : Nat} (I : Inv X pins σ H s) (k : ∀ b u, s.heap.get? b = some u → h'.get? b = some u) (old : ∀ b u, H b = some u → H' b = some u) (new : ∀ b u, H' b = some u → H b = some u ∨ (s.heap.objs.size ≤ b ∧ ObjOk X.prog X.w H' h' b u)) :
    Inv X pins σ H' { s with heap := h', toks := t' } := by
  refine I.un ⟨fun b o q _ _ _ => k b o q, fun b o q _ _ _ => ⟨o.slots, k b o q⟩, fun b o q n _ => ?_, fun b o q _ => ⟨o, k b o q⟩, fun b xs q => old _ _ q, fun b o u q => old _ _ q, fun b ps q => ⟨#[], by rw [old _ _ q]; simp⟩⟩ fun b u e => ?_
  · cases e : H' b with
    | none => rfl
    | some u =>
      rcases new b u e with h | ⟨h, _⟩
      · rw [n] at h
        cases h
      · exact absurd (Nat.lt_of_lt_of_le (Heap.lt_size q) h) (Nat.lt_irrefl _)
  · rcases new b u e with h | ⟨_, h⟩
    · exact (I.hok b u h).stay (fun c v _ q => k c v q) (fun c q => old _ _ q) fun c xs q => old _ _ q
    · exact h
/-- tuple(zip(a, b)) of two lists -/
def tTupZip (K : PySem.W.Frag) (ta : TA) : TE := fun σ H Q => ta σ H fun vs H1 => ∃ a b xs ys, vs = [.ref a, .ref b] ∧ SqL K H1 a xs ∧ SqL K H1 b ys ∧ xs.length = ys.length ∧ xs.length ≤ 1000 ∧
  ∀ H2 q (Us : List Addr), Same H1 H2 → H1 q = none → H2 q = some (.tup (Us.map V.ref)) → Us.length = xs.length → (∀ (j : Nat) T, Us[j]? = some T → ∃ x y, xs[j]? = some x ∧ ys[j]? = some y ∧ H2 T = some (.tup [x, y])) → Q (.ref q) H2
theorem pe_tupZip {e e2 : Expr} {ta : TA} {p p2 pos pos2 : Pos} (hc : X.calm = true) (hg : Gl X "tuple") (hm : X.mg "tuple" = none) (hg2 : Gl X "zip") (hm2 : X.mg "zip" = none) (ha : PA X [e, e2] ta)
    (hs : starEach [e, e2] X.env = (false, eval e X.env) :: starEach [e2] X.env := by rfl) (hpl : (backTo pos2 (starEach [e2] X.env)).any (·.1) = false := by rfl)
    (hs1 : starEach [.Call (.Name "zip" p2) [e, e2] [] pos2] X.env = (false, eval (.Call (.Name "zip" p2) [e, e2] [] pos2) X.env) :: starEach [] X.env := by rfl) :
    PE X (.Call (.Name "tuple" p) [.Call (.Name "zip" p2) [e, e2] [] pos2] [] pos) (tTupZip X.K ta) := by
  refine ⟨fun pins s σ H Q I h => ?_⟩
  refine Call_ (ld_blt I hg hm boot_tuple (PyProof.Rows.callWith_type1 (args_cons ?_ hs1) hs1))
  refine Call_ (ld_blt I hg2 hm2 PyProof.Rows.boot_zip (PyProof.Rows.callWith_type1 (thn (ha.run pos2 pins s σ H _ I h) fun us s1 h1 => ?_) hs hpl))
  obtain ⟨vs, H1, I1, r1, a, b, xs, ys, rfl, ha1, hb1, hl, h1000, q⟩ := h1
  obtain ⟨u1, us, rfl, ru1, r2⟩ : ∃ u us', us = u :: us' ∧ RelV (.ref a) u ∧ Vals [V.ref b] us' := by
    cases r1 with
    | cons r rr => exact ⟨_, _, rfl, r, rr⟩
  obtain ⟨u2, rfl, ru2⟩ : ∃ u, us = [u] ∧ RelV (.ref b) u := by
    cases r2 with
    | cons r rr =>
      cases rr
      exact ⟨_, rfl, r⟩
  obtain rfl : u1 = Value.ref a := ru1
  obtain rfl : u2 = Value.ref b := ru2
  obtain ⟨is1, v1, p1, _⟩ := I1.list ha1
  obtain ⟨is2, v2, p2', _⟩ := I1.list hb1
  have e1 : is1.length = xs.length := v1.length.symm
  have e2' : is2.length = ys.length := v2.length.symm
  refine call_zip_2 p1.isList p2'.isList fun h' hz hTI hTO t1 t2 hsz hk => args_nil ?_
  have D := PySem.W.ktu_apart s1.heap.objs.size a b p1.lt p2'.lt
  have st : Zst h' (s1.heap.objs.size + 4) (s1.heap.objs.size + 2) (s1.heap.objs.size + 3) s1.heap.objs.size (s1.heap.objs.size + 1) a b is1.toArray is2.toArray 0 [] :=
    ⟨.inl ⟨hz, rfl⟩, hTI, ⟨_, _, hTO⟩, ⟨t1, t2⟩, p1.isList.at fun o e => hk _ o e, p2'.isList.at fun o e => hk _ o e⟩
  have hh : X.A.handled = none := I1.ok.hd hc
  refine zip_tuple (s := { s1 with heap := h' }) hh D (by simp only [List.size_toArray]; omega) (by simp only [List.size_toArray]; omega) st fun g Us kp lU mU gU => ?_
  have lU' : Us.length = xs.length := by
    rw [lU, List.size_toArray]
    omega
  have old : ∀ b' o, s1.heap.get? b' = some o → g.get? b' = some o := fun b' o e => by
    have l := Heap.lt_size e
    refine kp b' o (fun m => ?_) (hk b' o e)
    simp only [List.mem_cons, List.not_mem_nil, or_false] at m
    have l' : b' < s1.heap.objs.size := l
    rcases m with m | m | m | m <;> (rw [m] at l'; first | exact absurd l' (Nat.lt_irrefl _) | exact absurd l' (Nat.not_lt.mpr (Nat.le_add_right _ _)))
  have big : ∀ T ∈ Us, s1.heap.objs.size ≤ T := fun T hT => by
    have := mU T hT
    have h5 : h'.objs.size ≤ T := this
    rw [hsz] at h5
    exact Nat.le_trans (Nat.le_add_right _ _) h5
  have gsz : s1.heap.objs.size ≤ g.objs.size := by
    have := Heap.lt_size (kp _ _ (fun m => by
      simp only [List.mem_cons, List.not_mem_nil, or_false] at m
      rcases m with m | m | m | m
      · exact D.TIz m
      · exact D.TITO m
      · exact D.TIi1 m
      · exact D.TIi2 m) hTI)
    exact Nat.le_trans (Nat.le_add_right _ _) (Nat.le_of_lt this)
  have idx : ∀ T ∈ Us, ∃ (j : Nat) (x y : V) (u v : Value), Us[j]? = some T ∧ xs[j]? = some x ∧ ys[j]? = some y ∧ RelV x u ∧ RelV y v ∧ IsPair g T u v := fun T hT => by
    obtain ⟨j, hj, e⟩ := List.getElem_of_mem hT
    have ej : Us[j]? = some T := by rw [List.getElem?_eq_getElem hj, e]
    obtain ⟨_, u, v, eu, ev, pr⟩ := gU j T ej
    have eu' : is1[j]? = some u := by simpa using eu
    have ev' : is2[j]? = some v := by simpa using ev
    have jx : j < xs.length := by
      have := (List.getElem?_eq_some_iff.mp eu').1
      omega
    have jy : j < ys.length := by omega
    obtain ⟨u', ru, hu⟩ := v1.get (List.getElem?_eq_getElem jx)
    obtain ⟨v', rv, hv⟩ := v2.get (List.getElem?_eq_getElem jy)
    rw [eu'] at ru
    rw [ev'] at rv
    cases ru
    cases rv
    exact ⟨j, xs[j], ys[j], u, v, ej, List.getElem?_eq_getElem jx, List.getElem?_eq_getElem jy, hu, hv, pr⟩
  let H2 : Hp := fun c => if c = g.objs.size then some (.tup (Us.map V.ref)) else if h : c ∈ Us then some (.tup [(idx c h).choose_spec.choose, (idx c h).choose_spec.choose_spec.choose]) else H1 c
  have nUg : ∀ T ∈ Us, T ≠ g.objs.size := fun T hT => by
    obtain ⟨_, _, _, _, _, _, _, _, _, _, pr⟩ := idx T hT
    exact Nat.ne_of_lt (Heap.lt_size pr)
  have atq : H2 g.objs.size = some (.tup (Us.map V.ref)) := if_pos rfl
  have atT : ∀ (j : Nat) (T : Addr), Us[j]? = some T → ∃ x y, xs[j]? = some x ∧ ys[j]? = some y ∧ H2 T = some (.tup [x, y]) := fun j T ej => by
    have hT := List.mem_of_getElem? ej
    obtain ⟨_, u, v, eu, ev, pr⟩ := gU j T ej
    have eu' : is1[j]? = some u := by simpa using eu
    have ev' : is2[j]? = some v := by simpa using ev
    have jx : j < xs.length := by
      have := (List.getElem?_eq_some_iff.mp eu').1
      omega
    have jy : j < ys.length := by omega
    obtain ⟨u', ru, hu⟩ := v1.get (List.getElem?_eq_getElem jx)
    obtain ⟨v', rv, hv⟩ := v2.get (List.getElem?_eq_getElem jy)
    rw [eu'] at ru
    rw [ev'] at rv
    cases ru
    cases rv
    refine ⟨xs[j], ys[j], List.getElem?_eq_getElem jx, List.getElem?_eq_getElem jy, ?_⟩
    have e2 : H2 T = some (.tup [(idx T hT).choose_spec.choose, (idx T hT).choose_spec.choose_spec.choose]) := (if_neg (nUg T hT)).trans (dif_pos hT)
    obtain ⟨u2, v2', _, _, _, hu2, hv2, pr2⟩ := (idx T hT).choose_spec.choose_spec.choose_spec
    rw [e2]
    have ed := congrArg Obj.data (Option.some.inj (pr.symm.trans pr2))
    injection ed with ea _
    have el := congrArg Array.toList ea
    have el' : [u, v] = [u2, v2'] := el
    injection el' with eu2 el2
    injection el2 with ev2 _
    subst eu2
    subst ev2
    rw [RelV.inj hu hu2, RelV.inj hv hv2]
  have sam : ∀ c u, H1 c = some u → H2 c = some u := fun c u e => by
    have l : c < s1.heap.objs.size := (I1.hok c u e).lt
    have n1 : c ≠ g.objs.size := Nat.ne_of_lt (Nat.lt_of_lt_of_le l gsz)
    have n2 : c ∉ Us := fun m => absurd (Nat.lt_of_lt_of_le l (big c m)) (Nat.lt_irrefl _)
    exact (if_neg n1).trans ((dif_neg n2).trans e)
  refine ⟨.ref g.objs.size, H2, ?_, rfl, q H2 _ Us sam (I1.hok.fresh gsz) atq lU' atT⟩
  show Inv X pins σ H2 { s1 with heap := g.push { cls := .type "tuple", data := .seq (Us.map Value.ref).toArray }, toks := s1.toks }
  refine inv_laid (t' := s1.toks) I1 (fun c o e => Heap.get?_push_of_some _ (old c o e)) sam fun c u e => ?_
  by_cases c1 : c = g.objs.size
  · subst c1
    rw [atq] at e
    cases e
    refine .inr ⟨gsz, ?_, Us.map Value.ref, vals_refs Us, IsTup.new _ _⟩
    rw [List.length_map, lU']
    exact Nat.le_of_lt (small1000 h1000)
  · by_cases c2 : c ∈ Us
    · obtain ⟨j, hj, ec⟩ := List.getElem_of_mem c2
      have ej : Us[j]? = some c := by rw [List.getElem?_eq_getElem hj, ec]
      obtain ⟨x, y, ex, ey, e2⟩ := atT j c ej
      rw [e2] at e
      cases e
      obtain ⟨_, u, v, eu, ev, pr⟩ := gU j c ej
      have eu' : is1[j]? = some u := by simpa using eu
      have ev' : is2[j]? = some v := by simpa using ev
      obtain ⟨u', ru, hu⟩ := v1.get ex
      obtain ⟨v', rv, hv⟩ := v2.get ey
      rw [eu'] at ru
      rw [ev'] at rv
      cases ru
      cases rv
      refine .inr ⟨big c c2, (show 2 ≤ sizeLine by decide), [u, v], .cons hu (.cons hv .nil), ?_⟩
      exact ⟨_, Heap.get?_push_of_some _ pr, rfl, _, rfl⟩
    · exact .inl (((if_neg c1).trans (dif_neg c2)).symm.trans e)
/-- a value whose object is locked from here on -/
def tFrz (t : TE) : TE := fun σ H Q => t σ H fun v H1 => ∃ d u, v = .ref d ∧ H1 d = some u ∧ Mut (some u) ∧ ∀ od, Q v (upd H1 d (.frz od u))
theorem pe_frz {e : Expr} {t : TE} (h : PE X e t) : PE X e (tFrz t) := by
  refine ⟨fun pins s σ H Q I q => thn (h.run pins s σ H _ I q) fun u s1 h1 => ?_⟩
  obtain ⟨x, H1, I1, rx, d, o, rfl, ed, mu, q⟩ := h1
  obtain ⟨od, I2⟩ := I1.lock ed mu
  exact ⟨_, _, I2, rx, q od⟩
end
end NB

set_option Elab.async false
set_option linter.all false
set_option maxRecDepth 100000
namespace K16
open PySem PySem.Spec PyProof.Rows L2 NB

/-! ### what chains lead to: dicts of sides -/
def KS (s : Sd) : List Key := [.inl (s.1 : Int), .inr (word s.2.1), .inl s.2.2]
theorem word_inj {a b : Bool} (h : word a = word b) : a = b := by
  revert h
  cases a <;> cases b <;> decide +kernel
theorem KS_inj {s t : Sd} (h : KS s = KS t) : s = t := by
  obtain ⟨i, b, p⟩ := s
  obtain ⟨j, c, q⟩ := t
  unfold KS at h
  injection h with h1 h2
  injection h2 with h2 h3
  injection h3 with h3 _
  injection h1 with h1
  injection h2 with h2
  injection h3 with h3
  have h1' : (i : Int) = j := h1
  have e1 : i = j := by omega
  have e2 : b = c := word_inj h2
  have e3 : p = q := h3
  rw [e1, e2, e3]
/-- tuples stay -/
def KT (H H' : Hp) : Prop := ∀ b xs, H b = some (.tup xs) → H' b = some (.tup xs)
theorem KT.of {H H' : Hp} (k : Keep H H') : KT H H' := fun b xs e => k.tup e
theorem KT.same {H H' : Hp} (s : Same H H') : KT H H' := fun b xs e => s _ _ e
theorem KT.trans {H H1 H2 : Hp} (a : KT H H1) (b : KT H1 H2) : KT H H2 := fun c xs e => b c xs (a c xs e)
theorem KT.refl (H : Hp) : KT H H := fun _ _ e => e
theorem KT.upd {H : Hp} {d : Addr} {o o' : HO} (e : H d = some o) (n : ∀ xs, o ≠ .tup xs) : KT H (upd H d o') := fun b xs q => by
  rw [upd_ne (fun z => by
    rw [z, e] at q
    cases q
    exact n _ rfl)]
  exact q
theorem SideAt.kt {H H' : Hp} {p : Addr} {s : Sd} (h : SideAt H p s) (k : KT H H') : SideAt H' p s := k _ _ h
theorem OthAt.kt {H H' : Hp} {v : V} {o : Option Sd} (h : OthAt H v o) (k : KT H H') : OthAt H' v o := by
  cases o with
  | none => exact h
  | some s =>
    obtain ⟨g, e, hs⟩ := h
    exact ⟨g, e, hs.kt k⟩
theorem SdsAt.kt {H H' : Hp} {L : List (Addr × Sd)} (h : SdsAt H L) (k : KT H H') : SdsAt H' L := fun z hz => (h z hz).kt k
/-- what a dict of sides holds: each with the one ahead of it -/
def AhK (H : Hp) (kvs : List (List Key × V)) (E : List (Sd × Option Sd)) : Prop := Paired (fun kv e => kv.1 = KS e.1 ∧ OthAt H kv.2 e.2) kvs E
theorem AhK.kt {H H' : Hp} {kvs : List (List Key × V)} {E : List (Sd × Option Sd)} (h : AhK H kvs E) (k : KT H H') : AhK H' kvs E := by
  unfold AhK at *
  induction h with
  | nil => exact .nil
  | cons a _ ih => exact .cons ⟨a.1, a.2.kt k⟩ ih
theorem AhK.len {H : Hp} {kvs : List (List Key × V)} {E : List (Sd × Option Sd)} (h : AhK H kvs E) : kvs.length = E.length := Paired.length h
theorem AhK.get {H : Hp} {kvs : List (List Key × V)} {E : List (Sd × Option Sd)} (h : AhK H kvs E) {i : Nat} {kv : List Key × V} (e : kvs[i]? = some kv) : ∃ x, E[i]? = some x ∧ kv.1 = KS x.1 ∧ OthAt H kv.2 x.2 := by
  unfold AhK at h
  induction h generalizing i with
  | nil => simp at e
  | cons a _ ih =>
    cases i with
    | zero => cases e; exact ⟨_, rfl, a⟩
    | succ i => exact ih e
theorem AhK.no {H : Hp} {kvs : List (List Key × V)} {E : List (Sd × Option Sd)} (h : AhK H kvs E) {s : Sd} (n : s ∉ E.map (·.1)) : valV kvs (KS s) = none := by
  unfold AhK at h
  unfold valV
  induction h with
  | nil => rfl
  | @cons kv x l1 l2 a _ ih =>
    rw [List.map_cons, List.mem_cons, not_or] at n
    rw [List.find?_cons, decide_eq_false (fun z => n.1 (KS_inj (a.1.symm.trans z)).symm)]
    exact ih n.2
theorem AhK.at' {H : Hp} {kvs : List (List Key × V)} {E : List (Sd × Option Sd)} (h : AhK H kvs E) (nd : (E.map (·.1)).Nodup) {x : Sd × Option Sd} (m : x ∈ E) : ∃ v, valV kvs (KS x.1) = some v ∧ OthAt H v x.2 := by
  unfold AhK at h
  unfold valV
  induction h with
  | nil => exact absurd m List.not_mem_nil
  | @cons kv y l1 l2 a _ ih =>
    rw [List.map_cons, List.nodup_cons] at nd
    rcases List.mem_cons.mp m with rfl | m
    · rw [List.find?_cons, decide_eq_true a.1]
      exact ⟨_, rfl, a.2⟩
    · have ne : ¬ kv.1 = KS x.1 := fun z => nd.1 (by
        have := KS_inj (a.1.symm.trans z)
        rw [this]
        exact List.mem_map.mpr ⟨x, m, rfl⟩)
      rw [List.find?_cons, decide_eq_false ne]
      exact ih nd.2 m
theorem AhK.isSome {H : Hp} {kvs : List (List Key × V)} {E : List (Sd × Option Sd)} (h : AhK H kvs E) (nd : (E.map (·.1)).Nodup) (s : Sd) : (valV kvs (KS s)).isSome = decide (s ∈ E.map (·.1)) := by
  by_cases c : s ∈ E.map (·.1)
  · obtain ⟨x, hx, rfl⟩ := List.mem_map.mp c
    obtain ⟨v, e, _⟩ := h.at' nd hx
    rw [e, decide_eq_true c]
    rfl
  · rw [h.no c, decide_eq_false c]
    rfl
/-- a dict of sides, all with one value -/
def insS (L : List Sd) (s : Sd) : List Sd := if s ∈ L then L else L ++ [s]
theorem ins_mem {L : List Sd} {s t : Sd} : t ∈ insS L s ↔ t ∈ L ∨ t = s := by
  unfold insS
  split
  · rename_i c
    exact ⟨.inl, fun h => h.elim id fun e => e ▸ c⟩
  · rw [List.mem_append, List.mem_singleton]
theorem ins_nd {L : List Sd} {s : Sd} (h : L.Nodup) : (insS L s).Nodup := by
  unfold insS
  split
  · exact h
  · rename_i c
    rw [List.nodup_append]
    refine ⟨h, by simp, fun a ha b hb e => c ?_⟩
    rw [List.mem_singleton.mp hb] at e
    exact e ▸ ha
theorem ins_len (L : List Sd) (s : Sd) : (insS L s).length ≤ L.length + 1 := by
  unfold insS
  split
  · omega
  · rw [List.length_append]
    exact Nat.le_refl _
theorem put_const (L : List Sd) (s : Sd) (v : V) : putK (L.map fun t => (KS t, v)) (KS s) v = (insS L s).map fun t => (KS t, v) := by
  unfold putK insS
  have e : ((L.map fun t => (KS t, v)).any fun kv => decide (kv.1 = KS s)) = true ↔ s ∈ L := by
    rw [List.any_map, List.any_eq_true]
    constructor
    · rintro ⟨t, ht, h⟩
      exact KS_inj (of_decide_eq_true h) ▸ ht
    · exact fun h => ⟨s, h, decide_eq_true rfl⟩
  by_cases c : s ∈ L
  · rw [if_pos (e.mpr c), if_pos c, List.map_map]
    refine List.map_congr_left fun t _ => ?_
    show (if KS t = KS s then (KS t, v) else (KS t, v)) = (KS t, v)
    split <;> rfl
  · rw [if_neg (fun h => c (e.mp h)), if_neg c, List.map_append]
    rfl
/-- how a dict of what is reached was grown -/
structure Ahd (tops : List Int) (rs : List Rl) (S : List Sd) (E : List (Sd × Option Sd)) : Prop where
  nd : (E.map (·.1)).Nodup
  st : ∀ s ∈ S, s ∈ E.map (·.1)
  n0 : ∀ (i : Nat) (s : Sd), E[i]? = some (s, none) → s ∈ S
  n1 : ∀ (i : Nat) (s a : Sd), E[i]? = some (s, some a) → s ∈ ledL tops rs a ∧ a ∈ (E.take i).map (·.1)
def CloE (tops : List Int) (rs : List Rl) (E : List (Sd × Option Sd)) (n : Nat) : Prop := ∀ x ∈ E.take n, ∀ b ∈ ledL tops rs x.1, b ∈ E.map (·.1)
theorem Ahd.rea {tops : List Int} {rs : List Rl} {S : List Sd} {E : List (Sd × Option Sd)} (A : Ahd tops rs S E) : ∀ (n i : Nat), i < n → ∀ x, E[i]? = some x → Rea tops rs (· ∈ S) x.1 := by
  intro n
  induction n with
  | zero => exact fun i h => absurd h (Nat.not_lt_zero _)
  | succ n ih =>
    intro i hi x ex
    obtain ⟨s, o⟩ := x
    cases o with
    | none => exact .base (A.n0 i s ex)
    | some a =>
      obtain ⟨h1, h2⟩ := A.n1 i s a ex
      obtain ⟨y, hy, ey⟩ := List.mem_map.mp h2
      obtain ⟨j, hj, e⟩ := List.getElem_of_mem hy
      have hj' : j < i := by
        rw [List.length_take] at hj
        omega
      have eE : E[j]? = some y := by
        have : (E.take i)[j]? = some y := by rw [List.getElem?_eq_getElem hj, e]
        rwa [List.getElem?_take_of_lt hj'] at this
      have := ih j (by omega) y eE
      rw [ey] at this
      exact .step this h1
theorem Ahd.mem {tops : List Int} {rs : List Rl} {S : List Sd} {E : List (Sd × Option Sd)} (A : Ahd tops rs S E) (c : CloE tops rs E E.length) {s : Sd} : s ∈ E.map (·.1) ↔ Rea tops rs (· ∈ S) s := by
  constructor
  · intro h
    obtain ⟨x, hx, rfl⟩ := List.mem_map.mp h
    obtain ⟨i, hi, e⟩ := List.getElem_of_mem hx
    exact A.rea (i + 1) i (by omega) x (by rw [List.getElem?_eq_getElem hi, e])
  · intro h
    induction h with
    | base h => exact A.st _ h
    | step _ l ih =>
      obtain ⟨x, hx, rfl⟩ := List.mem_map.mp ih
      exact c x (by rw [List.take_length]; exact hx) _ l
theorem Ahd.grow {tops : List Int} {rs : List Rl} {S : List Sd} {E : List (Sd × Option Sd)} (A : Ahd tops rs S E) {s a : Sd} (n : s ∉ E.map (·.1)) (l : s ∈ ledL tops rs a) (m : a ∈ E.map (·.1)) : Ahd tops rs S (E ++ [(s, some a)]) := by
  refine ⟨?_, fun t ht => ?_, fun i t e => ?_, fun i t b e => ?_⟩
  · rw [List.map_append, List.nodup_append]
    refine ⟨A.nd, by simp, fun x hx y hy e => n ?_⟩
    rw [List.map_cons, List.map_nil, List.mem_singleton] at hy
    have es : x = s := e.trans hy
    exact es ▸ hx
  · rw [List.map_append]
    exact List.mem_append_left _ (A.st t ht)
  · rcases Nat.lt_or_ge i E.length with c | c
    · rw [List.getElem?_append_left c] at e
      exact A.n0 i t e
    · rw [List.getElem?_append_right c] at e
      cases h : i - E.length with
      | zero => rw [h] at e; cases e
      | succ k => rw [h] at e; simp at e
  · rcases Nat.lt_or_ge i E.length with c | c
    · rw [List.getElem?_append_left c] at e
      rw [List.take_append_of_le_length (by omega)]
      exact A.n1 i t b e
    · rw [List.getElem?_append_right c] at e
      cases h : i - E.length with
      | zero =>
        rw [h] at e
        cases e
        have : i = E.length := by omega
        rw [this, List.take_left]
        exact ⟨l, m⟩
      | succ k => rw [h] at e; simp at e
/-- all sides of rules -/
def ruleSds (rs : List Rl) : List Sd := rs.flatMap fun q => [q.1, q.2]
theorem ruleSds_mem {rs : List Rl} {s : Sd} : s ∈ ruleSds rs ↔ RuleSd rs s := by
  unfold ruleSds RuleSd
  rw [List.mem_flatMap]
  constructor
  · rintro ⟨q, hq, h⟩
    simp only [List.mem_cons, List.not_mem_nil, or_false] at h
    exact ⟨q, hq, h⟩
  · rintro ⟨q, hq, h⟩
    exact ⟨q, hq, by simpa using h⟩
theorem ruleSds_len (rs : List Rl) : (ruleSds rs).length = 2 * rs.length := by
  unfold ruleSds
  induction rs with
  | nil => rfl
  | cons q rs ih =>
    rw [List.flatMap_cons, List.length_append, ih]
    simp only [List.length_cons, List.length_nil]
    omega
theorem led_rule {tops : List Int} {rs : List Rl} {a b : Sd} (h : b ∈ ledL tops rs a) : b ∈ ruleSds rs := by
  obtain ⟨q, hq, ⟨_, rfl⟩ | ⟨_, rfl⟩⟩ := led_iff.mp h
  · exact ruleSds_mem.mpr ⟨q, hq, .inr rfl⟩
  · exact ruleSds_mem.mpr ⟨q, hq, .inl rfl⟩
theorem Ahd.few {tops : List Int} {rs : List Rl} {S : List Sd} {E : List (Sd × Option Sd)} (A : Ahd tops rs S E) : E.length ≤ S.length + 2 * rs.length := by
  have h := nodup_len (E.map (·.1)) (S ++ ruleSds rs) A.nd fun s hs => by
    obtain ⟨x, hx, rfl⟩ := List.mem_map.mp hs
    obtain ⟨i, hi, e⟩ := List.getElem_of_mem hx
    obtain ⟨s, o⟩ := x
    have ex : E[i]? = some (s, o) := by rw [List.getElem?_eq_getElem hi, e]
    cases o with
    | none => exact List.mem_append_left _ (A.n0 i s ex)
    | some a => exact List.mem_append_right _ (led_rule (A.n1 i s a ex).1)
  rw [List.length_map, List.length_append, ruleSds_len] at h
  exact h
theorem keys_sds {H : Hp} {v : V} : ∀ {L : List Sd} {bs : List Addr}, IsKeys H (L.map fun t => (KS t, v)) bs → ∃ L0 : List (Addr × Sd), sdR L0 = bs.map V.ref ∧ L0.map (·.2) = L ∧ SdsAt H L0
  | [], bs, h => by
    cases h
    exact ⟨[], rfl, rfl, fun _ h => absurd h List.not_mem_nil⟩
  | s :: L, bs, h => by
    cases h with
    | cons a h =>
      obtain ⟨L0, e1, e2, e3⟩ := keys_sds h
      refine ⟨(_, s) :: L0, congrArg (V.ref _ :: ·) e1, by rw [List.map_cons, e2], fun z hz => ?_⟩
      rcases List.mem_cons.mp hz with rfl | hz
      · exact a
      · exact e3 z hz
theorem ahk_const {H : Hp} : ∀ (L : List Sd), AhK H (L.map fun t => (KS t, V.non)) (L.map fun t => (t, none))
  | [] => .nil
  | s :: L => .cons ⟨rfl, rfl⟩ (ahk_const L)
theorem ahd_const {tops : List Int} {rs : List Rl} {S L : List Sd} (nd : L.Nodup) (m : ∀ s, s ∈ L ↔ s ∈ S) : Ahd tops rs S (L.map fun t => (t, none)) := by
  have e : (L.map fun t => ((t, none) : Sd × Option Sd)).map (·.1) = L := by
    rw [List.map_map]
    exact List.map_id _
  refine ⟨by rw [e]; exact nd, fun s hs => by rw [e]; exact (m s).mpr hs, fun i s h => ?_, fun i s a h => ?_⟩
  · rw [List.getElem?_map] at h
    cases hl : L[i]? with
    | none => rw [hl] at h; cases h
    | some t =>
      rw [hl] at h
      cases h
      exact (m s).mp (List.mem_of_getElem? hl)
  · rw [List.getElem?_map] at h
    cases hl : L[i]? with
    | none => rw [hl] at h; cases h
    | some t => rw [hl] at h; cases h
section
variable {P : Program} {w : World} {K : PySem.W.Frag} {mg : Str → Option Value} {base : Heap}
def spRea (K : PySem.W.Frag) (C : Addr) : Sp := fun vs H Q _ => ∃ (x g : Addr) (tops : List Int) (rs : List Rl) (Ls : List (Addr × Sd)), vs = [.ref x, .ref g] ∧ PlanAt C H x tops rs ∧ SqT K H g (sdR Ls) ∧ SdsAt H Ls ∧ (∀ z ∈ Ls, SideOk tops z.2) ∧ (∀ q ∈ rs, RuleOk tops q) ∧ rs.length ≤ 40 ∧ Ls.length ≤ 200 ∧
  ∀ H' d od kvs E, Same H H' → H d = none → H' d = some (.frz od (.dT kvs)) → AhK H' kvs E → Ahd tops rs (Ls.map (·.2)) E → CloE tops rs E E.length → E.length ≤ 280 → Q (.ref d) H'
abbrev a_reached : Stmt := topS 24
abbrev n_reached : List Str := ["plan", "starts", "side", "ahead", "row", "at", "here"]
theorem sc_reached : FnScope n_reached ["plan", "starts"] (defScope a_reached) := ⟨rfl, rfl, rfl, by decide +kernel, rfl, by decide +kernel, by decide +kernel⟩
set_option maxHeartbeats 8000000 in
theorem ok_reached {f fLr : Addr} {fd fdLr : FuncData} {k : Nat} {C : Addr} (F : Fun K "reached" "reached" a_reached f fd) (Lr : Kn P w K mg base 3 "led_by_rules" ["plan", "side"] (spLed C) fLr fdLr)  (m_len : mg "len" = none) (m_list : mg "list" = none) : FnOk P w K mg base CX0 (k + 4) f fd ["plan", "starts"] (spRea K C) := by
  refine F.ok sc_reached (fun vs H Q E h => ?_) (fun cdv A outer s H vs Q E hr h => ?_)
  · obtain ⟨x, g, tops, rs, Ls, rfl, _⟩ := h
    rfl
  · obtain ⟨x, g, tops, rs, Ls, rfl, hp, eg, hL, okS, rok, l40, l100, q⟩ := h
    refine ⟨_, (pss_cons (ps_dcT (i := 3) (own := [("side", 2)]) (g := (gName 2)) (tk := (tVar 2)) (tv := (tC .non)) (Room.u1 hr) rfl sc_reached.nd (pi_tup (pv 1)) (blkOk_by (N := n_reached) (sc := defScope a_reached) (by decide +kernel))
          (fun _ _ _ _ _ => (pg_name (i := 2) sc_reached.nd rfl (.inl rfl) (hf := .inr rfl))) (fun _ _ _ _ _ => (pv 2)) (fun _ _ _ _ _ => pe_non) rfl rfl (sw_dict rfl rfl rfl (by decide +kernel)))
      (pss_cons (ps_set (i := 4) sc_reached.nd rfl (.inl rfl) (pe_callTy (call_list_dT rfl) (by rfl) m_list (by decide +kernel) (pa_cons (pv 3) pa_nil)))
      (pss_cons (ps_set (i := 5) sc_reached.nd rfl (.inl rfl) pe_int)
      (pss_cons (ps_while PassesOwn.never (pt_cmpR op_lt (pv 5) (pe_callB call_len_seq (by rfl) m_len (by decide +kernel) (pa_cons (pv 4) pa_nil)) (nomark _))
        (pss_cons (ps_set (i := 6) sc_reached.nd rfl (.inl rfl) (pe_ix ix_list (pv 4) (pv 5) (fun _ _ => rfl)))
      (pss_cons (ps_for PassesOwn.never rfl (pi_list (pe_kn Lr hr (by omega) (pa_cons (pv 0) (pa_cons (pv 6) pa_nil)))) (pg_name (i := 2) sc_reached.nd rfl (.inl rfl))
        (pss_one (ps_if (pt_cmp (pc_dnotin (Room.u1 hr) (pv 2) (pv 3))) (pss_cons (ps_dput (Room.u1 hr) (pv 3) (pv 2) (pv 6) rfl)
      (pss_one (ps_expr (pe_bm PySem.F.plainAttrs_list PySem.F.slot_list_append PySem.F.type_list_append mt_append (pv 4) (pa_cons (pv 2) pa_nil))))) pss_nil)))
      (pss_one (ps_aug (i := 5) sc_reached.nd rfl (.inl rfl) pe_int ip_add)))))
      (pss_one (ps_ret (pe_frz (pv 3)))))))), ?_⟩
    -- the dict of the starts
    refine ⟨.ref g, rfl, g, rfl, ⟨_, eg⟩, fun D nD => stp_it (walk_tup (xs := sdR Ls)) (fun i H' => Same H H' ∧ ∃ L : List Sd, H' D = some (.dT (L.map fun t => (KS t, V.non))) ∧ L.Nodup ∧ (∀ s, s ∈ L ↔ s ∈ (Ls.take i).map (·.2)) ∧ L.length ≤ i) ⟨same_new nD, [], upd_same, .nil, (fun s => by simp), Nat.le_refl _⟩ (fun i H' _ y => sameT y.1 eg) (fun i v H1 H2 hi y z => ?_) (fun H1 y => ?_)⟩
    · obtain ⟨s1, L, eD, nd, mL, lL⟩ := y
      obtain ⟨rfl, gv⟩ := z
      obtain ⟨zz, ez, rfl⟩ := mapGet gv
      have hz := List.mem_of_getElem? ez
      refine ⟨wipe_one, .ref zz.1, rfl, _, KS zz.2, zz.1, rfl, (hL zz hz).keep (.same s1), eD, by rw [List.length_map]; exact small1000 (by rw [List.length_map] at hi; omega), same_over s1 nD, insS L zz.2, by rw [upd_same, put_const], ins_nd nd, fun s => ?_, Nat.le_trans (ins_len L zz.2) (by omega)⟩
      rw [ins_mem, mL s, List.take_add_one, ez, List.map_append, List.mem_append]
      simp
    obtain ⟨s1, L, eD, nd, mL, lL⟩ := y
    rw [List.length_map, List.take_length] at mL
    refine ⟨.ref D, rfl, D, _, rfl, .inl eD, fun l bs nl ik => ?_⟩
    obtain ⟨L0, e0, m0, h0⟩ := keys_sds ik
    have sl := same_new (o := HO.lst (bs.map V.ref)) nl
    have eD1 := sl _ _ eD
    have nlH : H l = none := s1.free nl
    have s01 := s1.trans sl
    have el1 : (upd H1 l (.lst (bs.map V.ref))) l = some (.lst (sdR L0)) := by rw [upd_same, e0]
    have h01 := h0.keep (.same sl)
    have nlD : l ≠ D := fun e => by
      rw [e, eD] at nl
      cases nl
    generalize upd H1 l (.lst (bs.map V.ref)) = H2 at eD1 s01 el1 h01 ⊢
    refine ⟨fun m σ H' => ∃ (n : Nat) (u2 u6 : Option V) (kvs : List (List Key × V)) (E : List (Sd × Option Sd)) (L : List (Addr × Sd)), σ = [some (.ref x), some (.ref g), u2, some (.ref D), some (.ref l), some (.int (n : Int)), u6] ∧ m = 1000 - n ∧ n ≤ E.length ∧ Same H H' ∧ H' D = some (.dT kvs) ∧ AhK H' kvs E ∧ H' l = some (.lst (sdR L)) ∧ SdsAt H' L ∧ L.map (·.2) = E.map (·.1) ∧ Ahd tops rs (Ls.map (·.2)) E ∧ CloE tops rs E n,
      ⟨1000, 0, _, _, _, L.map (fun t => (t, none)), L0, rfl, rfl, Nat.zero_le _, s01, eD1, ahk_const L, el1, h01, ?_, ahd_const nd mL, fun x hx => absurd hx (by simp)⟩, fun m σ H3 W => ?_⟩
    · rw [m0, List.map_map]
      exact (List.map_id _).symm
    obtain ⟨n, u2, u6, kvs, E, L, rfl, rfl, nE, s3, eD3, aK, el3, hL3, eL3, A, cl⟩ := W
    have lE : E.length ≤ 280 := by
      have := A.few
      rw [List.length_map] at this
      omega
    have lLE : L.length = E.length := by
      have := congrArg List.length eL3
      rwa [List.length_map, List.length_map] at this
    refine ⟨_, rfl, .ref l, rfl, l, _, rfl, .inl (.inl (.inl el3)), _, _, rfl, rfl, _, rfl, ite2 (fun c => ?_) (fun c => ?_)⟩
    · have c' : n < L.length := by
        have := of_decide_eq_true c
        rw [List.length_map] at this
        omega
      have ez : L[n]? = some L[n] := List.getElem?_eq_getElem c'
      have hz := hL3 _ (List.getElem_mem c')
      have en : ∃ o, E[n]? = some (L[n].2, o) := by
        have h1 : (L.map (·.2))[n]? = some L[n].2 := by rw [List.getElem?_map, ez]; rfl
        rw [eL3] at h1
        obtain ⟨y, ey, e⟩ := mapGet h1
        exact ⟨y.2, by rw [ey, e]⟩
      obtain ⟨o, eo⟩ := en
      have okz : SideOk tops L[n].2 := (A.rea (n + 1) n (by omega) _ eo).ok rok fun s hs => by
        obtain ⟨z, hz, rfl⟩ := List.mem_map.mp hs
        exact okS z hz
      have mz : L[n].2 ∈ E.map (·.1) := List.mem_map.mpr ⟨_, List.mem_of_getElem? eo, rfl⟩
      refine ⟨fun σ' H' => ∃ (n' : Nat) (u2 u6 : Option V) (kvs : List (List Key × V)) (E : List (Sd × Option Sd)) (L : List (Addr × Sd)), σ' = [some (.ref x), some (.ref g), u2, some (.ref D), some (.ref l), some (.int (n' : Int)), u6] ∧ n' = n + 1 ∧ n' ≤ E.length ∧ Same H H' ∧ H' D = some (.dT kvs) ∧ AhK H' kvs E ∧ H' l = some (.lst (sdR L)) ∧ SdsAt H' L ∧ L.map (·.2) = E.map (·.1) ∧ Ahd tops rs (Ls.map (·.2)) E ∧ CloE tops rs E n', fun σ' H' w' => ?_, ?_⟩
      · obtain ⟨n', u2, u6, kvs, E', L', e1, e2, rest⟩ := w'
        exact ⟨1000 - n', by omega, n', u2, u6, kvs, E', L', e1, rfl, rest⟩
      refine ⟨.ref l, rfl, _, rfl, l, _, n, _, rfl, rfl, .inl (.inl el3), atI_nat (by rw [List.getElem?_map, ez]; rfl), ?_⟩
      refine ⟨.ref x, rfl, .ref L[n].1, rfl, x, L[n].1, tops, rs, L[n].2, rfl, hp.keep (.same s3), hz, okz, rok, l40, fun H4 fl F s4 nfl efl hF eF => ⟨fl, rfl, ⟨_, .inl (.inl efl)⟩, ?_⟩⟩
      have nflH : H fl = none := s3.free nfl
      have nll : fl ≠ l := fun e => by
        rw [e, el3] at nfl
        cases nfl
      have nlf : fl ≠ D := fun e => by
        rw [e, eD3] at nfl
        cases nfl
      have hzn : SideAt H4 L[n].1 L[n].2 := hz.keep (.same s4)
      refine for_it (walk_list (xs := sdR F)) (fun j σ H' => ∃ (u2 : Option V) (kvs : List (List Key × V)) (E' : List (Sd × Option Sd)) (L' : List (Addr × Sd)), σ = [some (.ref x), some (.ref g), u2, some (.ref D), some (.ref l), some (.int (n : Int)), some (.ref L[n].1)] ∧ Same H H' ∧ KT H4 H' ∧ H' fl = some (.lst (sdR F)) ∧ H' D = some (.dT kvs) ∧ AhK H' kvs E' ∧ H' l = some (.lst (sdR L')) ∧ SdsAt H' L' ∧ L'.map (·.2) = E'.map (·.1) ∧ Ahd tops rs (Ls.map (·.2)) E' ∧ (∃ Ex, E' = E ++ Ex) ∧ ∀ b ∈ (F.take j).map (·.2), b ∈ E'.map (·.1))
        ⟨_, kvs, E, L, rfl, s3.trans s4, KT.refl _, efl, s4 _ _ eD3, aK.kt (KT.same s4), s4 _ _ el3, hL3.keep (.same s4), eL3, A, ⟨[], (List.append_nil _).symm⟩, (fun b h => absurd h (by simp))⟩ (fun j σ H' _ y => by
          obtain ⟨_, _, _, _, _, _, _, e, _⟩ := y
          exact .inl (.inl e)) (fun j v σ H5 H5' hj y z => ?_) (fun σ H5 y => ?_)
      · obtain ⟨u2', kvs', E', L', rfl, s5, k5, ef5, eD5, aK5, el5, hL5, eL5, A5, ⟨Ex, rfl⟩, in5⟩ := y
        obtain ⟨rfl, gv⟩ := z
        obtain ⟨fz, efz, rfl⟩ := mapGet gv
        have hfz := (hF fz (List.mem_of_getElem? efz)).kt k5
        have lE5 : (E ++ Ex).length ≤ 280 := by
          have := A5.few
          rw [List.length_map] at this
          omega
        have lL5 : L'.length ≤ 280 := by
          have := congrArg List.length eL5
          rw [List.length_map, List.length_map] at this
          omega
        have mF : fz.2 ∈ ledL tops rs L[n].2 := by
          rw [← eF]
          exact List.mem_map.mpr ⟨fz, List.mem_of_getElem? efz, rfl⟩
        have tkF : (F.take (j + 1)).map (·.2) = (F.take j).map (·.2) ++ [fz.2] := by
          rw [List.take_add_one, efz, List.map_append]
          rfl
        refine ⟨.ref fz.1, rfl, .ref D, rfl, D, _, rfl, DGet.t (k := KS fz.2) eD5 hfz, _, rfl, ?_⟩
        rw [aK5.isSome A5.nd]
        by_cases cin : fz.2 ∈ (E ++ Ex).map (·.1)
        · rw [decide_eq_true cin]
          refine iteF ⟨_, kvs', E ++ Ex, L', rfl, s5, k5, ef5, eD5, aK5, el5, hL5, eL5, A5, ⟨Ex, rfl⟩, fun b hb => ?_⟩
          rw [tkF] at hb
          rcases List.mem_append.mp hb with h | h
          · exact in5 b h
          · rw [List.mem_singleton.mp h]
            exact cin
        · rw [decide_eq_false cin]
          refine iteT ⟨.ref L[n].1, rfl, .ref D, rfl, .ref fz.1, rfl, D, _, rfl, DPut.t (k := KS fz.2) eD5 hfz (small1000 (by rw [aK5.len]; omega)), ?_⟩
          rw [putK_new _ (aK5.no cin)]
          have kD : KT H5' (upd H5' D (.dT (kvs' ++ [(KS fz.2, V.ref L[n].1)]))) := KT.upd eD5 (fun xs e => nomatch e)
          have el6 : (upd H5' D (.dT (kvs' ++ [(KS fz.2, V.ref L[n].1)]))) l = some (.lst (sdR L')) := by rw [upd_ne nlD]; exact el5
          have s6 : Same H (upd H5' D (.dT (kvs' ++ [(KS fz.2, V.ref L[n].1)]))) := same_over s5 nD
          have ef6 : (upd H5' D (.dT (kvs' ++ [(KS fz.2, V.ref L[n].1)]))) fl = some (.lst (sdR F)) := by rw [upd_ne nlf]; exact ef5
          have eD6 : (upd H5' D (.dT (kvs' ++ [(KS fz.2, V.ref L[n].1)]))) D = some (.dT (kvs' ++ [(KS fz.2, V.ref L[n].1)])) := upd_same
          generalize upd H5' D (.dT (kvs' ++ [(KS fz.2, V.ref L[n].1)])) = H6 at kD el6 s6 ef6 eD6 ⊢
          have k6 := k5.trans kD
          refine ⟨.ref l, rfl, .inl ⟨rfl, _, .inl (.inl el6)⟩, .ref fz.1, rfl, l, _, _, rfl, rfl, el6, by rw [List.length_map]; exact small1000 (by omega), ?_⟩
          have kl : KT H6 (upd H6 l (.lst (sdR L' ++ [V.ref fz.1]))) := KT.upd el6 (fun xs e => by cases e)
          have k7 := k6.trans kl
          refine ⟨_, kvs' ++ [(KS fz.2, V.ref L[n].1)], (E ++ Ex) ++ [(fz.2, some L[n].2)], L' ++ [fz], rfl, same_over s6 nlH, k7, by rw [upd_ne nll]; exact ef6, by rw [upd_ne (Ne.symm nlD)]; exact eD6, Paired.snoc (aK5.kt (kD.trans kl)) ⟨rfl, _, rfl, hzn.kt k7⟩, by rw [upd_same]; simp [sdR], (hL5.kt (kD.trans kl)).snoc (hfz.kt (kD.trans kl)), by rw [List.map_append, List.map_append, eL5]; rfl, A5.grow cin mF (by rw [List.map_append]; exact List.mem_append_left _ mz), ⟨Ex ++ [(fz.2, some L[n].2)], List.append_assoc ..⟩, fun b hb => ?_⟩
          rw [tkF] at hb
          rw [List.map_append]
          rcases List.mem_append.mp hb with h | h
          · exact List.mem_append_left _ (in5 b h)
          · rw [List.mem_singleton.mp h]
            exact List.mem_append_right _ (by simp)
      · obtain ⟨u2', kvs', E', L', rfl, s5, k5, ef5, eD5, aK5, el5, hL5, eL5, A5, ⟨Ex, rfl⟩, in5⟩ := y
        rw [List.length_map, List.take_length, eF] at in5
        refine ⟨_, rfl, _, _, rfl, rfl, n + 1, _, _, kvs', E ++ Ex, L', rfl, rfl, ?_, s5, eD5, aK5, el5, hL5, eL5, A5, fun y hy b hb => ?_⟩
        · rw [List.length_append]
          omega
        · rw [List.take_append_of_le_length (by omega), List.take_add_one, eo] at hy
          rcases List.mem_append.mp hy with h | h
          · rw [List.map_append]
            exact List.mem_append_left _ (cl y h b hb)
          · have ey : y = (L[n].2, o) := by simpa using h
            rw [ey] at hb
            exact in5 b hb
    · have c' : n = E.length := by
        have : ¬ ((n : Int) < ((sdR L).length : Int)) := fun z => c (decide_eq_true z)
        rw [List.length_map] at this
        omega
      subst c'
      refine ⟨.ref D, rfl, D, _, rfl, eD3, trivial, fun od => ?_⟩
      have kd : KT H3 (upd H3 D (.frz od (.dT kvs))) := KT.upd eD3 (fun xs e => by cases e)
      exact q _ D od kvs E (same_over s3 nD) nD upd_same (aK.kt kd) A cl lE
end
end K16

set_option Elab.async false
set_option linter.all false
set_option maxRecDepth 100000
namespace K16
open PySem PySem.Spec PyProof.Rows L2 NB

/-! ### chains -/
inductive RCh (tops : List Int) (rs : List Rl) (S : List Sd) : List Sd → Prop where
  | one {s : Sd} : s ∈ S → RCh tops rs S [s]
  | cons {a b : Sd} {t : List Sd} : RCh tops rs S (a :: t) → b ∈ ledL tops rs a → RCh tops rs S (b :: a :: t)
/-- a chain's later part, behind what is still to be found -/
def Lnk (tops : List Int) (rs : List Rl) (S : List Sd) (s : Sd) (R : List Sd) : Option Sd → Prop
  | none => RCh tops rs S R ∧ R.head? = some s
  | some c => (∀ t, RCh tops rs S (c :: t) → RCh tops rs S (R ++ c :: t)) ∧ (R ++ [c]).head? = some s
theorem Lnk.next0 {tops : List Int} {rs : List Rl} {S : List Sd} {s c : Sd} {R : List Sd} (h : Lnk tops rs S s R (some c)) (m : c ∈ S) : Lnk tops rs S s (R ++ [c]) none := ⟨h.1 [] (.one m), h.2⟩
theorem Lnk.next1 {tops : List Int} {rs : List Rl} {S : List Sd} {s c a : Sd} {R : List Sd} (h : Lnk tops rs S s R (some c)) (m : c ∈ ledL tops rs a) : Lnk tops rs S s (R ++ [c]) (some a) := by
  refine ⟨fun t ht => ?_, ?_⟩
  · rw [List.append_assoc]
    exact h.1 (a :: t) (.cons ht m)
  · rw [List.head?_append, h.2]
    rfl
def sdD (s : Sd) : PyData := .tuple [.int s.1, .str (word s.2.1), .int s.2.2]
theorem dp_sd {K : PySem.W.Frag} {H : Hp} {p : Addr} {s : Sd} (h : SideAt H p s) : Dp K H (.ref p) (sdD s) := .tup (.inl (.inl h)) (.cons (.int _) (.cons (.str _) (.cons (.int _) .nil)))
theorem shaped_sd (s : Sd) : SeqAt.shaped (sdD s) = true := by
  unfold SeqAt.shaped sdD
  have h : PyData.strOk (word s.2.1) = true := by
    cases s.2.1 <;> decide +kernel
  simp [PyData.canLay0, PyData.canLayAll0, PyData.depth, PyData.depthAll, h]
theorem eqv_sd (a b : Sd) : PyData.eqv (sdD a) (sdD b) = decide (a = b) := by
  unfold sdD
  simp only [PyData.eqv, PyData.eqvAll, Bool.and_true]
  rw [Bool.eq_iff_iff]
  simp only [Bool.and_eq_true, decide_eq_true_eq]
  constructor
  · rintro ⟨h1, h2, h3⟩
    obtain ⟨i, b', p⟩ := a
    obtain ⟨j, c, q⟩ := b
    simp only [beq_iff_eq] at h1 h2 h3
    have e1 : i = j := by omega
    have e2 : b' = c := word_inj h2
    rw [e1, e2, h3]
  · rintro rfl
    simp
section
variable {P : Program} {w : World} {K : PySem.W.Frag} {mg : Str → Option Value} {base : Heap}
def spCin : Sp := fun vs H Q _ => ∃ (d p : Addr) (od : Obj) (kvs : List (List Key × V)) (E : List (Sd × Option Sd)) (tops : List Int) (rs : List Rl) (S : List Sd) (s : Sd), vs = [.ref d, .ref p] ∧ H d = some (.frz od (.dT kvs)) ∧ AhK H kvs E ∧ Ahd tops rs S E ∧ E.length ≤ 280 ∧ SideAt H p s ∧ s ∈ E.map (·.1) ∧
  ∀ H' g L R, Same H H' → H g = none → H' g = some (.tup (sdR L)) → SdsAt H' L → L.map (·.2) = R.reverse → RCh tops rs S R → R.head? = some s → R.length ≤ 280 → Q (.ref g) H'
abbrev a_chain_in : Stmt := topS 25
abbrev n_chain_in : List Str := ["ahead", "side", "row"]
theorem sc_chain_in : FnScope n_chain_in ["ahead", "side"] (defScope a_chain_in) := ⟨rfl, rfl, rfl, by decide +kernel, rfl, by decide +kernel, by decide +kernel⟩
set_option maxHeartbeats 8000000 in
theorem ok_chain_in {f  : Addr} {fd  : FuncData} {k : Nat}  (F : Fun K "chain_in" "chain_in" a_chain_in f fd)   (m_tuple : mg "tuple" = none) : FnOk P w K mg base CX0 (k + 1) f fd ["ahead", "side"] spCin := by
  refine F.ok sc_chain_in (fun vs H Q E h => ?_) (fun cdv A outer s H vs Q E hr h => ?_)
  · obtain ⟨d, p, od, kvs, E, tops, rs, S, s', rfl, _⟩ := h
    rfl
  · obtain ⟨d, p, od, kvs, E, tops, rs, S, s', rfl, ed, aK, A, lE, hs, ms, q⟩ := h
    refine ⟨_, (pss_cons (ps_set (i := 2) sc_chain_in.nd rfl (.inl rfl) (pe_lst pa_nil))
      (pss_cons (ps_while PassesOwn.never (pt_cmpR op_notN (pv 1) pe_non (nomark _))
        (pss_cons (ps_expr (pe_bm PySem.F.plainAttrs_list PySem.F.slot_list_append PySem.F.type_list_append mt_append (pv 2) (pa_cons (pv 1) pa_nil)))
      (pss_one (ps_set (i := 1) sc_chain_in.nd rfl (.inl rfl) (pe_dget (Room.u1 hr) (pv 0) (pv 1) (fun _ _ => rfl))))))
      (pss_one (ps_ret (pe_callTy call_tuple_of (by rfl) m_tuple (by decide +kernel) (pa_cons (pe_revL (pv 2)) pa_nil)))))), ?_⟩
    refine ⟨Nat.zero_le _, fun l nl => ?_⟩
    have s0 : Same H (upd H l (.lst [])) := same_new nl
    obtain ⟨x0, hx0, ex0⟩ := List.mem_map.mp ms
    obtain ⟨i0, hi0, ei0⟩ := List.getElem_of_mem hx0
    refine ⟨fun m σ H' => ∃ (v : V) (o : Option Sd) (L : List (Addr × Sd)), σ = [some (.ref d), some v, some (.ref l)] ∧ OthAt H' v o ∧ Same H H' ∧ H' l = some (.lst (sdR L)) ∧ SdsAt H' L ∧ Lnk tops rs S s' (L.map (·.2)) o ∧ (match o with
        | none => m = 0 ∧ L.length ≤ E.length
        | some c => ∃ (i : Nat) (o' : Option Sd), E[i]? = some (c, o') ∧ m = i + 1 ∧ L.length + i + 1 ≤ E.length),
      ⟨i0 + 1, .ref p, some s', [], rfl, ⟨p, rfl, hs.keep (.same s0)⟩, s0, upd_same, (fun _ h => absurd h List.not_mem_nil), ⟨fun t ht => ht, rfl⟩, i0, x0.2, ?_, rfl, ?_⟩, fun m σ H1 W => ?_⟩
    · rw [List.getElem?_eq_getElem hi0, ei0, ← ex0]
    · simp only [List.length_nil]
      omega
    obtain ⟨v, o, L, rfl, ho, s1, el, hL, lk, ms'⟩ := W
    cases o with
    | none =>
      cases (show v = .non from ho)
      obtain ⟨_, lL⟩ := ms'
      refine ⟨_, rfl, rfl, _, rfl, iteFa rfl ⟨.ref l, rfl, l, _, rfl, .inl (.inl el), fun p2 np2 => ⟨p2, _, rfl, .inl ⟨.inl (.inl upd_same), fun t nt => ?_⟩⟩⟩⟩
      have st := (same_new (o := HO.lst (sdR L).reverse) np2).trans (same_new (o := HO.tup (sdR L).reverse) nt)
      refine q _ t L.reverse (L.map (·.2)) (s1.trans st) (s1.free ((same_new (o := HO.lst (sdR L).reverse) np2).free nt)) ?_ (fun z hz => (hL z (List.mem_reverse.mp hz)).keep (.same st)) (by rw [List.map_reverse]) lk.1 lk.2 (by rw [List.length_map]; omega)
      rw [upd_same]
      simp only [sdR, List.map_reverse]
    | some c =>
      obtain ⟨pc, rfl, hpc⟩ := ho
      obtain ⟨i, o', eE, rfl, lL⟩ := ms'
      obtain ⟨v2, ev2, hv2⟩ := aK.at' A.nd (List.mem_of_getElem? eE)
      refine ⟨_, rfl, rfl, _, rfl, iteTr rfl ⟨fun σ' H' => ∃ m', m' < i + 1 ∧ ∃ (v : V) (o : Option Sd) (L : List (Addr × Sd)), σ' = [some (.ref d), some v, some (.ref l)] ∧ OthAt H' v o ∧ Same H H' ∧ H' l = some (.lst (sdR L)) ∧ SdsAt H' L ∧ Lnk tops rs S s' (L.map (·.2)) o ∧ (match o with
        | none => m' = 0 ∧ L.length ≤ E.length
        | some c => ∃ (i : Nat) (o' : Option Sd), E[i]? = some (c, o') ∧ m' = i + 1 ∧ L.length + i + 1 ≤ E.length), fun σ' H' h => h, ?_⟩⟩
      refine ⟨.ref l, rfl, .inl ⟨rfl, _, .inl (.inl el)⟩, .ref pc, rfl, l, _, _, rfl, rfl, el, by rw [List.length_map]; exact small1000 (by omega), ?_⟩
      have kl : Keep H1 (upd H1 l (.lst (sdR L ++ [V.ref pc]))) := Keep.upd el
      have s2 : Same H (upd H1 l (.lst (sdR L ++ [V.ref pc]))) := same_over s1 nl
      refine ⟨.ref d, rfl, .ref pc, rfl, d, v2, rfl, .inr ⟨kvs, KS c, pc, .inr ⟨od, s2 _ _ ed⟩, rfl, hpc.keep kl, ev2.symm⟩, ?_⟩
      have e3 : (upd H1 l (.lst (sdR L ++ [V.ref pc]))) l = some (.lst (sdR (L ++ [(pc, c)]))) := by
        rw [upd_same]
        simp [sdR]
      have hL3 : SdsAt (upd H1 l (.lst (sdR L ++ [V.ref pc]))) (L ++ [(pc, c)]) := (hL.keep kl).snoc (hpc.keep kl)
      cases o' with
      | none =>
        have m0 := A.n0 i c eE
        refine ⟨0, by omega, v2, none, L ++ [(pc, c)], rfl, hv2, s2, e3, hL3, ?_, rfl, ?_⟩
        · rw [List.map_append]
          exact lk.next0 m0
        · rw [List.length_append]
          simp only [List.length_cons, List.length_nil]
          omega
      | some a =>
        obtain ⟨m1, m2⟩ := A.n1 i c a eE
        obtain ⟨y, hy, ey⟩ := List.mem_map.mp m2
        obtain ⟨j, hj, e⟩ := List.getElem_of_mem hy
        have hj' : j < i := by
          rw [List.length_take] at hj
          omega
        have eEj : E[j]? = some y := by
          have : (E.take i)[j]? = some y := by rw [List.getElem?_eq_getElem hj, e]
          rwa [List.getElem?_take_of_lt hj'] at this
        refine ⟨j + 1, by omega, v2, some a, L ++ [(pc, c)], rfl, hv2.keep (.same s2), s2, e3, hL3, ?_, j, y.2, by rw [eEj, ← ey], rfl, ?_⟩
        · rw [List.map_append]
          exact lk.next1 m1
        · rw [List.length_append]
          simp only [List.length_cons, List.length_nil]
          omega
/-- what chain_to tells -/
def CTo (tops : List Int) (rs : List Rl) (S : List Sd) (s : Sd) (cs : List Sd) : Prop :=
  (cs = [] ∧ ∀ z, Rea tops rs (· ∈ S) z → withinB tops z s = false) ∨ ∃ R z, RCh tops rs S R ∧ R.head? = some z ∧ withinB tops z s = true ∧ Rea tops rs (· ∈ S) z ∧ ((z = s ∧ cs = R.reverse) ∨ (z ≠ s ∧ cs = R.reverse ++ [s]))
def spCto (K : PySem.W.Frag) (C : Addr) : Sp := fun vs H Q _ => ∃ (x g p : Addr) (tops : List Int) (rs : List Rl) (Ls : List (Addr × Sd)) (s : Sd), vs = [.ref x, .ref g, .ref p] ∧ PlanAt C H x tops rs ∧ SqT K H g (sdR Ls) ∧ SdsAt H Ls ∧ (∀ z ∈ Ls, SideOk tops z.2) ∧ (∀ q ∈ rs, RuleOk tops q) ∧ rs.length ≤ 40 ∧ Ls.length ≤ 200 ∧ SideAt H p s ∧ SideOk tops s ∧
  ∀ H' c L, Same H H' → H' c = some (.tup (sdR L)) → SdsAt H' L → CTo tops rs (Ls.map (·.2)) s (L.map (·.2)) → L.length ≤ 281 → Q (.ref c) H'
abbrev a_chain_to : Stmt := topS 26
abbrev n_chain_to : List Str := ["plan", "starts", "goal", "ahead", "side", "chain"]
theorem sc_chain_to : FnScope n_chain_to ["plan", "starts", "goal"] (defScope a_chain_to) := ⟨rfl, rfl, rfl, by decide +kernel, rfl, by decide +kernel, by decide +kernel⟩
set_option maxHeartbeats 8000000 in
theorem ok_chain_to {f fRe fWi fCi : Addr} {fd fdRe fdWi fdCi : FuncData} {k : Nat} {C : Addr} (F : Fun K "chain_to" "chain_to" a_chain_to f fd) (Re : Kn P w K mg base 4 "reached" ["plan", "starts"] (spRea K C) fRe fdRe) (Wi : Kn P w K mg base 2 "is_within" ["plan", "one", "other"] (spTwo C withinB) fWi fdWi) (Ci : Kn P w K mg base 1 "chain_in" ["ahead", "side"] spCin fCi fdCi)   : FnOk P w K mg base CX0 (k + 5) f fd ["plan", "starts", "goal"] (spCto K C) := by
  refine F.ok sc_chain_to (fun vs H Q E h => ?_) (fun cdv A outer s H vs Q E hr h => ?_)
  · obtain ⟨x, g, p, tops, rs, Ls, s', rfl, _⟩ := h
    rfl
  · obtain ⟨x, g, p, tops, rs, Ls, s', rfl, hp, eg, hLs, okS, rok, l40, l100, hs, ok, q⟩ := h
    refine ⟨_, (pss_cons (ps_set (i := 3) sc_chain_to.nd rfl (.inl rfl) (pe_kn Re hr (by omega) (pa_cons (pv 0) (pa_cons (pv 1) pa_nil))))
      (pss_cons (ps_for PassesOwn.never rfl (pi_keys (pv 3)) (pg_name (i := 4) sc_chain_to.nd rfl (.inl rfl))
        (pss_one (ps_if (pt_val (pe_kn Wi hr (by omega) (pa_cons (pv 0) (pa_cons (pv 4) (pa_cons (pv 2) pa_nil))))) (pss_cons (ps_set (i := 5) sc_chain_to.nd rfl (.inl rfl) (pe_kn Ci hr (by omega) (pa_cons (pv 3) (pa_cons (pv 4) pa_nil))))
      (pss_one (ps_ret (pe_ifExp (pt_cmpR (op_eqD hr.units) (pv 4) (pv 2) (nomark _)) (pv 5) (pe_tup (StX.pa_star (pv 5) (pa_cons (pv 2) pa_nil))))))) pss_nil)))
      (pss_one (ps_ret (pe_tup pa_nil))))), ?_⟩
    refine ⟨.ref x, rfl, .ref g, rfl, x, g, tops, rs, Ls, rfl, hp, eg, hLs, okS, rok, l40, l100, fun H1 d od kvs E s1 nd ed aK A cl lE => ?_⟩
    have okR : ∀ z, Rea tops rs (· ∈ Ls.map (·.2)) z → SideOk tops z := fun z h => h.ok rok fun s hs => by
      obtain ⟨y, hy, rfl⟩ := List.mem_map.mp hs
      exact okS y hy
    refine ⟨.ref d, rfl, d, od, rfl, .inr ⟨kvs, ed, for_it walk_keysT (fun i σ H' => (∃ u4, σ = [some (.ref x), some (.ref g), some (.ref p), some (.ref d), u4, none]) ∧ Same H1 H' ∧ ∀ z ∈ (E.take i).map (·.1), withinB tops z s' = false) ⟨⟨_, rfl⟩, Same.refl _, (fun z h => absurd h (by simp))⟩ (fun i σ H' _ y => y.2.1 _ _ ed) (fun i v σ H2 H2' hi y z => ?_) (fun σ H2 y => ?_)⟩⟩
    · obtain ⟨⟨u4, rfl⟩, s2, al⟩ := y
      obtain ⟨rfl, k, v', qa, ekv, rfl, eqa⟩ := z
      obtain ⟨e, ee, ek, _⟩ := aK.get ekv
      have ek' : k = KS e.1 := ek
      subst ek'
      have hqa : SideAt H2' qa e.1 := eqa
      have me : e.1 ∈ E.map (·.1) := List.mem_map.mpr ⟨e, List.mem_of_getElem? ee, rfl⟩
      have re := (A.mem cl).mp me
      have s02 := s1.trans s2
      refine ⟨.ref x, rfl, .ref qa, rfl, .ref p, rfl, x, qa, p, tops, rs, e.1, s', rfl, hp.keep (.same s02), hqa, hs.keep (.same s02), okR _ re, ok, fun H3 s3 => ⟨_, rfl, ite2 (fun c => ?_) (fun c => ?_)⟩⟩
      · refine ⟨.ref d, rfl, .ref qa, rfl, d, qa, od, kvs, E, tops, rs, Ls.map (·.2), e.1, rfl, (s2.trans s3) _ _ ed, aK.kt (KT.same (s2.trans s3)), A, lE, hqa.keep (.same s3), me, fun H4 cc L R s4 nc ec hL eL rc hd lR => ?_⟩
        have s04 := (s02.trans s3).trans s4
        have lL : L.length ≤ 280 := by
          have := congrArg List.length eL
          rw [List.length_map, List.length_reverse] at this
          omega
        refine ⟨.ref qa, rfl, .ref p, rfl, _, _, dp_sd (hqa.keep (.same (s3.trans s4))), dp_sd (hs.keep (.same s04)), shaped_sd _, shaped_sd _, _, rfl, ?_⟩
        rw [eqv_sd]
        refine ite2 (fun c2 => ?_) (fun c2 => ?_)
        · refine ⟨_, rfl, q H4 cc L s04 ec hL (.inr ⟨R, e.1, rc, hd, c, re, .inl ⟨of_decide_eq_true c2, eL⟩⟩) (by omega)⟩
        · refine ⟨.ref cc, rfl, cc, _, rfl, .inl (.inl (.inl ec)), .ref p, rfl, Nat.le_of_lt (small1000 (by rw [List.length_append, List.length_map]; simp only [List.length_cons, List.length_nil]; omega)), fun t nt => ?_⟩
          have st := same_new (o := HO.tup (sdR L ++ [V.ref p])) nt
          refine q _ t (L ++ [(p, s')]) (s04.trans st) (by rw [upd_same]; simp [sdR]) ((hL.keep (.same st)).snoc (hs.keep (.same (s04.trans st)))) (.inr ⟨R, e.1, rc, hd, c, re, .inr ⟨fun z => c2 (decide_eq_true z), ?_⟩⟩) (by rw [List.length_append]; simp only [List.length_cons, List.length_nil]; omega)
          rw [List.map_append, eL]
          rfl
      · refine ⟨⟨_, rfl⟩, s2.trans s3, fun z hz => ?_⟩
        rw [List.take_add_one, ee, List.map_append] at hz
        rcases List.mem_append.mp hz with h | h
        · exact al z h
        · have : z = e.1 := by simpa using h
          rw [this]
          exact Bool.not_eq_true _ |>.mp c
    · obtain ⟨⟨u4, rfl⟩, s2, al⟩ := y
      rw [aK.len, List.take_length] at al
      refine ⟨Nat.zero_le _, fun t nt => q _ t [] ((s1.trans s2).trans (same_new nt)) upd_same (fun _ h => absurd h List.not_mem_nil) (.inl ⟨rfl, fun z hz => al z ((A.mem cl).mpr hz)⟩) (Nat.zero_le _)⟩
end
end K16

set_option Elab.async false
set_option linter.all false
set_option maxRecDepth 100000
namespace K16
open PySem PySem.Spec PyProof.Rows L2 NB

/-! ### what follows -/
def BndAt (H : Hp) (p : Addr) (lows highs : List Int) : Prop := ∃ Us : List Addr, H p = some (.tup (Us.map V.ref)) ∧ Us.length = lows.length ∧ ∀ (j : Nat) (T : Addr), Us[j]? = some T → H T = some (.tup [.int (plc lows j), .int (plc highs j)])
theorem BndAt.keep {H H' : Hp} {p : Addr} {lows highs : List Int} (h : BndAt H p lows highs) (k : Keep H H') : BndAt H' p lows highs := by
  obtain ⟨Us, e, l, t⟩ := h
  exact ⟨Us, k.tup e, l, fun j T ej => k.tup (t j T ej)⟩
theorem plcSet {l : List Int} {i : Nat} {v : Int} (h : i < l.length) (j : Nat) : plc (l.set i v) j = if j = i then v else plc l j := by
  show (l.set i v).getD j 0 = _
  rw [List.getD_eq_getElem?_getD]
  by_cases c : j = i
  · rw [c, List.getElem?_set_self h, if_pos rfl]
    rfl
  · rw [List.getElem?_set_ne (Ne.symm c), if_neg c]
    exact (List.getD_eq_getElem?_getD ..).symm
structure FolP (tops : List Int) (ks : List Sd) (lows highs : List Int) : Prop where
  ll : lows.length = tops.length
  lh : highs.length = tops.length
  l0 : ∀ i, i < tops.length → plc lows i = 0 ∨ (i, true, plc lows i) ∈ ks
  h0 : ∀ i, i < tops.length → plc highs i = plc tops i ∨ (i, false, plc highs i) ∈ ks
  l1 : ∀ i p, (i, true, p) ∈ ks → p ≤ plc lows i
  h1 : ∀ i p, (i, false, p) ∈ ks → plc highs i ≤ p
  lz : ∀ i, i < tops.length → 0 ≤ plc lows i
  hz : ∀ i, i < tops.length → plc highs i ≤ plc tops i
theorem FolP.init (tops : List Int) : FolP tops [] (List.replicate tops.length 0) tops := by
  have e : ∀ i, plc (List.replicate tops.length (0 : Int)) i = 0 := fun i => by
    show (List.replicate tops.length (0 : Int)).getD i 0 = 0
    rw [List.getD_eq_getElem?_getD, List.getElem?_replicate]
    split <;> rfl
  exact ⟨List.length_replicate, rfl, fun i _ => .inl (e i), fun i _ => .inl rfl, fun _ _ h => absurd h List.not_mem_nil, fun _ _ h => absurd h List.not_mem_nil, fun i _ => by rw [e i]; exact Int.le_refl _, fun i _ => Int.le_refl _⟩
theorem FolP.from' {tops : List Int} {ks : List Sd} {lows highs : List Int} (F : FolP tops ks lows highs) {i : Nat} {p : Int} (li : i < tops.length) : FolP tops (ks ++ [(i, true, p)]) (lows.set i (if p > plc lows i then p else plc lows i)) highs := by
  have lw : i < lows.length := by rw [F.ll]; exact li
  refine ⟨by rw [List.length_set]; exact F.ll, F.lh, fun j hj => ?_, fun j hj => ?_, fun j r h => ?_, fun j r h => ?_, fun j hj => ?_, F.hz⟩
  · rw [plcSet lw]
    by_cases c : j = i
    · rw [if_pos c]
      split
      · rw [c]
        exact .inr (List.mem_append_right _ (List.mem_singleton.mpr rfl))
      · rcases F.l0 i li with h | h
        · exact .inl h
        · rw [c]
          exact .inr (List.mem_append_left _ h)
    · rw [if_neg c]
      rcases F.l0 j hj with h | h
      · exact .inl h
      · exact .inr (List.mem_append_left _ h)
  · rcases F.h0 j hj with h | h
    · exact .inl h
    · exact .inr (List.mem_append_left _ h)
  · rw [plcSet lw]
    rcases List.mem_append.mp h with h | h
    · have := F.l1 j r h
      by_cases c : j = i
      · rw [if_pos c]
        rw [c] at this
        split <;> omega
      · rw [if_neg c]
        exact this
    · have e := List.mem_singleton.mp h
      injection e with e1 e2
      injection e2 with _ e3
      rw [if_pos e1, e3]
      split <;> omega
  · rcases List.mem_append.mp h with h | h
    · exact F.h1 j r h
    · have e := List.mem_singleton.mp h
      injection e with e1 e2
      injection e2 with e2 _
      cases e2
  · rw [plcSet lw]
    have := F.lz j hj
    have := F.lz i li
    split
    · split <;> omega
    · omega
theorem FolP.to' {tops : List Int} {ks : List Sd} {lows highs : List Int} (F : FolP tops ks lows highs) {i : Nat} {p : Int} (li : i < tops.length) : FolP tops (ks ++ [(i, false, p)]) lows (highs.set i (if p < plc highs i then p else plc highs i)) := by
  have lw : i < highs.length := by rw [F.lh]; exact li
  refine ⟨F.ll, by rw [List.length_set]; exact F.lh, fun j hj => ?_, fun j hj => ?_, fun j r h => ?_, fun j r h => ?_, F.lz, fun j hj => ?_⟩
  · rcases F.l0 j hj with h | h
    · exact .inl h
    · exact .inr (List.mem_append_left _ h)
  · rw [plcSet lw]
    by_cases c : j = i
    · rw [if_pos c]
      split
      · rw [c]
        exact .inr (List.mem_append_right _ (List.mem_singleton.mpr rfl))
      · rcases F.h0 i li with h | h
        · rw [c]
          exact .inl h
        · rw [c]
          exact .inr (List.mem_append_left _ h)
    · rw [if_neg c]
      rcases F.h0 j hj with h | h
      · exact .inl h
      · exact .inr (List.mem_append_left _ h)
  · rcases List.mem_append.mp h with h | h
    · exact F.l1 j r h
    · have e := List.mem_singleton.mp h
      injection e with e1 e2
      injection e2 with e2 _
      cases e2
  · rw [plcSet lw]
    rcases List.mem_append.mp h with h | h
    · have := F.h1 j r h
      by_cases c : j = i
      · rw [if_pos c]
        rw [c] at this
        split <;> omega
      · rw [if_neg c]
        exact this
    · have e := List.mem_singleton.mp h
      injection e with e1 e2
      injection e2 with _ e3
      rw [if_pos e1, e3]
      split <;> omega
  · rw [plcSet lw]
    have := F.hz j hj
    have h2 := F.hz i li
    by_cases c : j = i
    · rw [if_pos c, c]
      split <;> omega
    · rw [if_neg c]
      exact this
theorem FolP.fol {tops : List Int} {rs : List Rl} {ks : List Sd} {lows highs : List Int} {S : Sd → Prop} (F : FolP tops ks lows highs) (m : ∀ s, s ∈ ks ↔ Rea tops rs S s) : Fol tops rs S lows highs :=
  ⟨F.ll, F.lh, fun i hi => (F.l0 i hi).imp_right (m _).mp, fun i hi => (F.h0 i hi).imp_right (m _).mp, fun i p h => F.l1 i p ((m _).mpr h), fun i p h => F.h1 i p ((m _).mpr h), F.lz, F.hz⟩
theorem rep_flat (n : Nat) : (List.replicate n [V.int 0]).flatten = (List.replicate n (0 : Int)).map V.int := by
  induction n with
  | zero => rfl
  | succ n ih =>
    rw [List.replicate_succ, List.flatten_cons, ih, List.replicate_succ]
    rfl
section
variable {P : Program} {w : World} {K : PySem.W.Frag} {mg : Str → Option Value} {base : Heap}
/-- what is handed to those who look at a want -/
structure Wnt (K : PySem.W.Frag) (C : Addr) (H : Hp) (x g : Addr) (tops : List Int) (rs : List Rl) (Ls : List (Addr × Sd)) : Prop where
  hp : PlanAt C H x tops rs
  eg : SqT K H g (sdR Ls)
  hL : SdsAt H Ls
  okS : ∀ z ∈ Ls, SideOk tops z.2
  rok : ∀ q ∈ rs, RuleOk tops q
  l40 : rs.length ≤ 40
  lS : Ls.length ≤ 200
  l12 : tops.length ≤ 12
  pl : ∀ i, i < tops.length → 0 ≤ plc tops i
theorem Wnt.same {C : Addr} {H H' : Hp} {x g : Addr} {tops : List Int} {rs : List Rl} {Ls : List (Addr × Sd)} (h : Wnt K C H x g tops rs Ls) (s : Same H H') : Wnt K C H' x g tops rs Ls :=
  ⟨h.hp.keep (.same s), sameT s h.eg, h.hL.keep (.same s), h.okS, h.rok, h.l40, h.lS, h.l12, h.pl⟩
theorem Wnt.ok {C : Addr} {H : Hp} {x g : Addr} {tops : List Int} {rs : List Rl} {Ls : List (Addr × Sd)} (h : Wnt K C H x g tops rs Ls) : ∀ s, s ∈ Ls.map (·.2) → SideOk tops s := fun s hs => by
  obtain ⟨z, hz, rfl⟩ := List.mem_map.mp hs
  exact h.okS z hz
def spFol (K : PySem.W.Frag) (C : Addr) : Sp := fun vs H Q _ => ∃ (x g : Addr) (tops : List Int) (rs : List Rl) (Ls : List (Addr × Sd)), vs = [.ref x, .ref g] ∧ Wnt K C H x g tops rs Ls ∧
  ∀ H' p lows highs, Same H H' → H p = none → BndAt H' p lows highs → Fol tops rs (· ∈ Ls.map (·.2)) lows highs → Q (.ref p) H'
abbrev a_follows : Stmt := topS 35
abbrev n_follows : List Str := ["plan", "want", "lows", "highs", "thing", "word", "place"]
theorem sc_follows : FnScope n_follows ["plan", "want"] (defScope a_follows) := ⟨rfl, rfl, rfl, by decide +kernel, rfl, by decide +kernel, by decide +kernel⟩
set_option maxHeartbeats 8000000 in
theorem ok_follows {f fRe : Addr} {fd fdRe : FuncData} {k : Nat} {C : Addr} (F : Fun K "follows" "follows" a_follows f fd) (Re : Kn P w K mg base 4 "reached" ["plan", "starts"] (spRea K C) fRe fdRe) (T : PlanTxt K mg C) (m_zip : mg "zip" = none) (m_len : mg "len" = none) (m_list : mg "list" = none) (m_max : mg "max" = none) (m_min : mg "min" = none) (m_tuple : mg "tuple" = none) : FnOk P w K mg base CX0 (k + 5) f fd ["plan", "want"] (spFol K C) := by
  refine F.ok sc_follows (fun vs H Q E h => ?_) (fun cdv A outer s H vs Q E hr h => ?_)
  · obtain ⟨x, g, tops, rs, Ls, rfl, _⟩ := h
    rfl
  · obtain ⟨x, g, tops, rs, Ls, rfl, W, q⟩ := h
    refine ⟨_, (pss_cons (ps_set (i := 2) sc_follows.nd rfl (.inl rfl) (pe_op op_rep (pe_lst (pa_cons pe_int pa_nil)) (pe_callB call_len_seq (by rfl) m_len (by decide +kernel) (pa_cons (pe_fld (pv 0) rfl) pa_nil))))
      (pss_cons (ps_set (i := 3) sc_follows.nd rfl (.inl rfl) (pe_callTy call_list_of (by rfl) m_list (by decide +kernel) (pa_cons (pe_fld (pv 0) rfl) pa_nil)))
      (pss_cons (ps_for PassesOwn.never rfl (pi_keys (pe_kn Re hr (by omega) (pa_cons (pv 0) (pa_cons (pv 1) pa_nil)))) (pg_tup rfl (pgs_cons (pg_name (i := 4) sc_follows.nd rfl (.inl rfl)) (pgs_cons (pg_name (i := 5) sc_follows.nd rfl (.inl rfl)) (pgs_cons (pg_name (i := 6) sc_follows.nd rfl (.inl rfl)) pgs_nil))))
        (pss_one (ps_if (pt_cmpR op_eq (pv 5) pe_str (nomark _)) (pss_one (ps_asg (pe_callB (call_max2 rfl) (by rfl) m_max (by decide +kernel) (pa_cons (pe_ix ix_list (pv 2) (pv 4) (fun _ _ => rfl)) (pa_cons (pv 6) pa_nil))) (pg_sub (pv 2) (pv 4) set_list))) (pss_one (ps_asg (pe_callB (call_min2 rfl) (by rfl) m_min (by decide +kernel) (pa_cons (pe_ix ix_list (pv 3) (pv 4) (fun _ _ => rfl)) (pa_cons (pv 6) pa_nil))) (pg_sub (pv 3) (pv 4) set_list))))))
      (pss_one (ps_ret (pe_tupZip rfl (by rfl) m_tuple (by rfl) m_zip (pa_cons (pv 2) (pa_cons (pv 3) pa_nil)))))))), ?_⟩
    have hp := W.hp
    have l12 := W.l12
    obtain ⟨dx, t, R, ex, et, hR⟩ := hp
    refine ⟨(show 1 ≤ sizeLine by decide), fun l0 nl0 => ?_⟩
    have s0 := same_new (o := HO.lst [V.int 0]) nl0
    refine ⟨.ref x, rfl, x, C, dx, _, _, rfl, s0 _ _ ex, T.cl, T.nT, look_tops _ _, t, _, rfl, .inr (.inl (.inl (s0 _ _ et))), l0, _, _, rfl, rfl, upd_same, by omega, by rw [List.length_map]; omega, ?_, fun lw nlw => ?_⟩
    · rw [List.length_map]
      exact Nat.le_of_lt (small1000 (by simp only [List.length_cons, List.length_nil]; omega))
    have s1 := s0.trans (same_new (o := HO.lst (List.replicate (((tops.map V.int).length : Int)).toNat [V.int 0]).flatten) nlw)
    have nlwH : H lw = none := s0.free nlw
    have elw : (upd (upd H l0 (.lst [V.int 0])) lw (.lst (List.replicate (((tops.map V.int).length : Int)).toNat [V.int 0]).flatten)) lw = some (.lst ((List.replicate tops.length (0 : Int)).map V.int)) := by
      rw [upd_same, rep_flat, List.length_map]
      simp
    generalize upd (upd H l0 (.lst [V.int 0])) lw (.lst (List.replicate (((tops.map V.int).length : Int)).toNat [V.int 0]).flatten) = H1 at s1 elw ⊢
    refine ⟨.ref x, rfl, x, C, dx, _, _, rfl, s1 _ _ ex, T.cl, T.nT, look_tops _ _, t, _, rfl, .inr (.inl (.inl (s1 _ _ et))), fun hg nhg => ?_⟩
    have sh := same_new (o := HO.lst (tops.map V.int)) nhg
    have s2 := s1.trans sh
    have nhgH : H hg = none := s1.free nhg
    have nlh : lw ≠ hg := ne_of_none elw nhg
    have elw2 := sh _ _ elw
    have ehg2 : (upd H1 hg (.lst (tops.map V.int))) hg = some (.lst (tops.map V.int)) := upd_same
    generalize upd H1 hg (.lst (tops.map V.int)) = H2 at s2 elw2 ehg2 ⊢
    have W2 := W.same s2
    refine ⟨.ref x, rfl, .ref g, rfl, x, g, tops, rs, Ls, rfl, W2.hp, W2.eg, W2.hL, W2.okS, W2.rok, W2.l40, W2.lS, fun H3 d od kvs E s3 nd ed aK A cl lE => ?_⟩
    have okR : ∀ s, s ∈ E.map (·.1) → SideOk tops s := fun s hs => ((A.mem cl).mp hs).ok W.rok W.ok
    refine ⟨d, od, rfl, .inr ⟨kvs, ed, for_it walk_keysT (fun i σ H' => (∃ u4 u5 u6, σ = [some (.ref x), some (.ref g), some (.ref lw), some (.ref hg), u4, u5, u6]) ∧ Same H H' ∧ H' d = some (.frz od (.dT kvs)) ∧ ∃ lows highs, H' lw = some (.lst (lows.map V.int)) ∧ H' hg = some (.lst (highs.map V.int)) ∧ FolP tops ((E.take i).map (·.1)) lows highs) ⟨⟨_, _, _, rfl⟩, s2.trans s3, ed, _, _, s3 _ _ elw2, s3 _ _ ehg2, FolP.init tops⟩ (fun i σ H' _ y => y.2.2.1) (fun i v σ H4 H4' hi y z => ?_) (fun σ H4 y => ?_)⟩⟩
    · obtain ⟨⟨u4, u5, u6, rfl⟩, s4, ed4, lows, highs, el4, eh4, F⟩ := y
      obtain ⟨rfl, k, v', qa, ekv, rfl, eqa⟩ := z
      obtain ⟨e, ee, ek, _⟩ := aK.get ekv
      have ek' : k = KS e.1 := ek
      subst ek'
      have hqa : SideAt H4' qa e.1 := eqa
      have ok := okR e.1 (List.mem_map.mpr ⟨e, List.mem_of_getElem? ee, rfl⟩)
      have tk : (E.take (i + 1)).map (·.1) = (E.take i).map (·.1) ++ [e.1] := by
        rw [List.take_add_one, ee, List.map_append]
        rfl
      have ndl : d ≠ lw := fun z => by
        rw [z, el4] at ed4
        cases ed4
      have ndh : d ≠ hg := fun z => by
        rw [z, eh4] at ed4
        cases ed4
      have li := ok.lt
      obtain ⟨⟨j, b, p⟩, o⟩ := e
      have li' : j < tops.length := li
      refine ⟨qa, _, rfl, .inl (.inl hqa), rfl, _, _, rfl, _, _, rfl, _, _, rfl, rfl, _, rfl, rfl, _, rfl, ?_⟩
      cases b with
      | true =>
        refine iteTr w_from ⟨.ref lw, rfl, _, rfl, lw, _, j, _, rfl, rfl, .inl (.inl el4), plc_at (by rw [F.ll]; exact li'), _, rfl, _, _, rfl, .ref lw, rfl, _, rfl, lw, _, j, j, rfl, rfl, el4, by rw [List.length_map, F.ll]; exact ixN_nat li', ⟨_, _, _, rfl⟩, same_over s4 nlwH, by rw [upd_ne ndl]; exact ed4, _, highs, by rw [upd_same, List.map_set], by rw [upd_ne (Ne.symm nlh)]; exact eh4, by rw [tk]; exact F.from' li'⟩
      | false =>
        refine iteFa w_to ⟨.ref hg, rfl, _, rfl, hg, _, j, _, rfl, rfl, .inl (.inl eh4), plc_at (by rw [F.lh]; exact li'), _, rfl, _, _, rfl, .ref hg, rfl, _, rfl, hg, _, j, j, rfl, rfl, eh4, by rw [List.length_map, F.lh]; exact ixN_nat li', ⟨_, _, _, rfl⟩, same_over s4 nhgH, by rw [upd_ne ndh]; exact ed4, lows, _, by rw [upd_ne nlh]; exact el4, by rw [upd_same, List.map_set], by rw [tk]; exact F.to' li'⟩
    · obtain ⟨⟨u4, u5, u6, rfl⟩, s4, ed4, lows, highs, el4, eh4, F⟩ := y
      rw [aK.len, List.take_length] at F
      refine ⟨.ref lw, rfl, .ref hg, rfl, lw, hg, _, _, rfl, .inl (.inl el4), .inl (.inl eh4), by rw [List.length_map, List.length_map, F.ll, F.lh], by rw [List.length_map, F.ll]; omega, fun H5 p Us s5 np ep lU aU => q H5 p lows highs (s4.trans s5) (s4.free np) ⟨Us, ep, by rw [lU, List.length_map], fun j T ej => ?_⟩ (F.fol fun s => A.mem cl)⟩
      obtain ⟨a, b, ea, eb, eT⟩ := aU j T ej
      obtain ⟨a', ea', rfl⟩ := mapGet ea
      obtain ⟨b', eb', rfl⟩ := mapGet eb
      have e1 : plc lows j = a' := by
        show lows.getD j 0 = a'
        rw [List.getD_eq_getElem?_getD, ea']
        rfl
      have e2 : plc highs j = b' := by
        show highs.getD j 0 = b'
        rw [List.getD_eq_getElem?_getD, eb']
        rfl
      rw [e1, e2]
      exact eT
def spPull (K : PySem.W.Frag) (C : Addr) : Sp := fun vs H Q _ => ∃ (x a g : Addr) (tops st : List Int) (rs : List Rl) (Ls : List (Addr × Sd)), vs = [.ref x, .ref a, .ref g] ∧ Wnt K C H x g tops rs Ls ∧ H a = some (.tup (st.map V.int)) ∧ st.length = tops.length ∧
  ∀ H' p lows highs, Same H H' → H' p = some (.tup ((pullF lows highs st).map V.int)) → Fol tops rs (· ∈ Ls.map (·.2)) lows highs → Q (.ref p) H'
theorem pull_take (lows highs st : List Int) (i : Nat) (h : i < st.length) : (pullF lows highs st).take (i + 1) = (pullF lows highs st).take i ++ [max (plc lows i) (min (plc st i) (plc highs i))] := by
  rw [List.take_add_one]
  congr 1
  unfold pullF
  rw [List.getElem?_map, List.getElem?_range h]
  rfl
abbrev a_pulled : Stmt := topS 49
abbrev n_pulled : List Str := ["plan", "standing", "want", "place", "low", "high"]
theorem sc_pulled : FnScope n_pulled ["plan", "standing", "want"] (defScope a_pulled) := ⟨rfl, rfl, rfl, by decide +kernel, rfl, by decide +kernel, by decide +kernel⟩
set_option maxHeartbeats 8000000 in
theorem ok_pulled {f fFl : Addr} {fd fdFl : FuncData} {k : Nat} {C : Addr} (F : Fun K "pulled" "pulled" a_pulled f fd) (Fl : Kn P w K mg base 5 "follows" ["plan", "want"] (spFol K C) fFl fdFl)  (m_max : mg "max" = none) (m_min : mg "min" = none) (m_tuple : mg "tuple" = none) (m_zip : mg "zip" = none) : FnOk P w K mg base CX0 (k + 6) f fd ["plan", "standing", "want"] (spPull K C) := by
  refine F.ok sc_pulled (fun vs H Q E h => ?_) (fun cdv A outer s H vs Q E hr h => ?_)
  · obtain ⟨x, a, g, tops, st, rs, Ls, rfl, _⟩ := h
    rfl
  · obtain ⟨x, a, g, tops, st, rs, Ls, rfl, W, ea, ls, q⟩ := h
    refine ⟨_, (pss_one (ps_ret (pe_callTy call_tuple_of (by rfl) m_tuple (by decide +kernel) (pa_cons (
        pe_lc (own := [("place", 3), ("low", 4), ("high", 5)]) (g := (gTup K 2 (gCons (gName 3) (gCons (gTup K 2 (gCons (gName 4) (gCons (gName 5) gNil))) gNil)))) (tt := tYes)  rfl sc_pulled.nd (RZ.pi_zipA (by rfl) m_zip (pa_cons (pv 1) (pa_cons (pe_kn Fl hr (by omega) (pa_cons (pv 0) (pa_cons (pv 2) pa_nil))) pa_nil))) (blkOk_by (N := n_pulled) (sc := defScope a_pulled) (by decide +kernel))
          (fun _ _ _ _ _ => (pg_tup rfl (pgs_cons (pg_name (i := 3) sc_pulled.nd rfl (.inl rfl) (hf := .inr rfl)) (pgs_cons (pg_tup rfl (pgs_cons (pg_name (i := 4) sc_pulled.nd rfl (.inl rfl) (hf := .inr rfl)) (pgs_cons (pg_name (i := 5) sc_pulled.nd rfl (.inl rfl) (hf := .inr rfl)) pgs_nil))) pgs_nil)))) (fun _ _ _ _ _ => pts_nil) (fun _ _ _ _ _ => (pe_callB (call_max2 rfl) (by rfl) m_max (by decide +kernel) (pa_cons (pv 4) (pa_cons (pe_callB (call_min2 rfl) (by rfl) m_min (by decide +kernel) (pa_cons (pv 3) (pa_cons (pv 5) pa_nil))) pa_nil))))) pa_nil)))), ?_⟩
    refine ⟨.ref a, rfl, .ref x, rfl, .ref g, rfl, x, g, tops, rs, Ls, rfl, W, fun H1 p lows highs s1 np hb F => ?_⟩
    obtain ⟨Us, ep, lU, aU⟩ := hb
    have l12 := W.l12
    have lU' : Us.length = st.length := by rw [lU, F.ll, ls]
    refine ⟨a, p, _, _, rfl, .inr ⟨.inl (.inl (s1 _ _ ea)), .inl (.inl ep), fun D nD => lc_it (walk_zipT (xs := st.map V.int) (ys := Us.map V.ref) (by rw [List.length_map, List.length_map, lU'])) (fun i H' => Same H1 H' ∧ H' D = some (.lst (((pullF lows highs st).take i).map V.int))) ⟨same_new nD, upd_same⟩ (fun i H' _ y => ⟨.inl (.inl (y.1 _ _ (s1 _ _ ea))), .inl (.inl (y.1 _ _ ep))⟩) (fun i v H2 H3 hi y z => ?_) (fun H2 y => ?_)⟩⟩
    · obtain ⟨s2, eD⟩ := y
      obtain ⟨T', x1, x2, rfl, nT, rfl, gx1, gx2⟩ := z
      obtain ⟨a1, e1, rfl⟩ := mapGet gx1
      obtain ⟨T, e2, rfl⟩ := mapGet gx2
      have hi' : i < st.length := by simpa using hi
      have eT := s2 _ _ (aU i T e2)
      have sT := same_new (o := HO.tup [V.int a1, V.ref T]) nT
      have ea1 : plc st i = a1 := by
        show st.getD i 0 = a1
        rw [List.getD_eq_getElem?_getD, e1]
        rfl
      refine ⟨T', _, rfl, .inl (.inl upd_same), rfl, _, _, rfl, _, _, rfl, T, _, rfl, .inl (.inl (sT _ _ eT)), rfl, _, _, rfl, _, _, rfl, rfl, rfl, ?_⟩
      refine ⟨rfl, _, rfl, _, rfl, _, rfl, _, _, rfl, _, _, rfl, _, sT _ _ eD, ?_, same_over (s2.trans sT) nD, ?_⟩
      · rw [List.length_map, List.length_take, pull_len]
        exact small1000 (by omega)
      · rw [upd_same, pull_take _ _ _ _ hi', List.map_append, ← ea1]
        have em : (if (if plc highs i < plc st i then plc highs i else plc st i) > plc lows i then (if plc highs i < plc st i then plc highs i else plc st i) else plc lows i) = max (plc lows i) (min (plc st i) (plc highs i)) := by
          repeat' split
          all_goals omega
        rw [em]
        rfl
    · obtain ⟨s2, eD⟩ := y
      rw [List.length_map, List.take_of_length_le (by rw [pull_len]; exact Nat.le_refl _)] at eD
      refine ⟨D, _, rfl, .inl ⟨.inl (.inl eD), fun r nr => q _ r lows highs ((s1.trans s2).trans (same_new nr)) upd_same F⟩⟩
end
end K16

set_option Elab.async false
set_option linter.all false
set_option maxRecDepth 100000
namespace K16
open PySem PySem.Spec PyProof.Rows L2 NB

/-! ### wants that none has: the mathematics -/
section
variable {tops : List Int} {rs : List Rl}
/-- a want is had by a good standing, or one that follows from it bars a wanted one -/
theorem some_goodS (rok : ∀ q ∈ rs, RuleOk tops q) (pl : ∀ i, i < tops.length → 0 ≤ plc tops i) {st : List Int} (hg : st ∈ goods tops rs) {S : Sd → Prop} (hS : ∀ s, S s → SideOk tops s) : (∃ g ∈ goods tops rs, ∀ s, S s → inB g s = true) ∨ ∃ w z, S w ∧ Rea tops rs S z ∧ barsB tops z w = true := by
  obtain ⟨lows, highs, F⟩ := fol_ex rok pl hS
  by_cases c : ∀ i, i < tops.length → plc lows i ≤ plc highs i
  · obtain ⟨g, h⟩ := F.good rok hS c hg
    exact .inl ⟨_, g, fun s hs => h s (.base hs)⟩
  · obtain ⟨i, h⟩ := Classical.not_forall.mp c
    obtain ⟨hi, h⟩ := Classical.not_imp.mp h
    have p0 := pl i hi
    have a : Rea tops rs S (i, true, plc lows i) := (F.l0 i hi).resolve_left fun e => by
      rcases F.h0 i hi with h' | h'
      · omega
      · have := (h'.ok rok hS).bd
        have h2 : 0 ≤ plc highs i := this.1
        omega
    have b : Rea tops rs S (i, false, plc highs i) := (F.h0 i hi).resolve_left fun e => by
      have := (a.ok rok hS).bd
      have h2 : plc lows i ≤ plc tops i := this.2
      omega
    obtain ⟨w, hw, bw⟩ := b.one
    obtain ⟨z, hz, bz⟩ := bw.turn (a := (i, true, plc lows i)) (by
      rw [bars_iff]
      refine ⟨rfl, .inr ?_⟩
      show plc highs i < plc lows i
      omega)
    exact .inr ⟨w, z, hw, a.trans hz, bz⟩
theorem bar_none (rok : ∀ q ∈ rs, RuleOk tops q) {S : Sd → Prop} (hS : ∀ s, S s → SideOk tops s) {w z : Sd} (hw : S w) (hz : Rea tops rs S z) (b : barsB tops z w = true) : ¬ ∃ g ∈ goods tops rs, ∀ s, S s → inB g s = true := fun ⟨g, hg, h⟩ => by
  have := bars_out hg (hz.ok rok hS) (hS w hw) b (hz.in' rok hS hg h)
  rw [h w hw] at this
  cases this
end

/-! ### papers that are none, what is forced, bounds, rooms by their bounds -/
theorem Fol.iff {tops : List Int} {rs : List Rl} {S T : Sd → Prop} {lows highs : List Int} (F : Fol tops rs S lows highs) (h : ∀ s, S s ↔ T s) : Fol tops rs T lows highs := by
  have e : S = T := funext fun s => propext (h s)
  exact e ▸ F
theorem cto_tn {tops : List Int} {rs : List Rl} {s o : Sd} {cs : List Sd} (h : CTo tops rs [o] s cs) (eo : othS tops s = some o) : cs ≠ [] ↔ Tn tops rs s := by
  have one : ∀ {z}, Rea tops rs (· ∈ [o]) z ↔ Rea tops rs (· = o) z := fun {z} => ⟨fun r => r.mono fun s h => List.mem_singleton.mp h, fun r => r.mono fun s h => List.mem_singleton.mpr h⟩
  constructor
  · intro ne
    rcases h with ⟨e, _⟩ | ⟨R, z, rc, hd, wi, re, _⟩
    · exact absurd e ne
    · exact ⟨o, eo, z, one.mp re, wi⟩
  · rintro ⟨o', eo', z, re, wi⟩ e
    rw [eo] at eo'
    cases eo'
    rcases h with ⟨_, al⟩ | ⟨R, z', rc, hd, wi', re', h | h⟩
    · rw [al z (one.mpr re)] at wi
      cases wi
    · rw [h.2, List.reverse_eq_nil_iff] at e
      rw [e] at hd
      cases hd
    · rw [h.2] at e
      exact absurd e (by simp)
theorem oth_back {tops : List Int} {s o : Sd} (ok : SideOk tops s) (h : othS tops s = some o) : ∃ o', othS tops o = some o' := by
  have b := ok.bd
  rcases oth_cases h with ⟨_, c, rfl⟩ | ⟨_, c, rfl⟩
  · exact ⟨_, oth_to (by omega)⟩
  · exact ⟨_, oth_from (by omega)⟩
theorem any_false (n : Nat) : (List.replicate n false).any id = false := by simp
theorem more_false (n : Nat) : (List.replicate (n + 1) false).map V.bl = (List.replicate n false).map V.bl ++ [V.bl false] := by
  rw [List.replicate_succ', List.map_append]
  rfl
theorem cat_sq {K : PySem.W.Frag} {H : Hp} {a b : Addr} {xs ys : List V} {Q : VK} (ea : SqT K H a xs) (eb : SqT K H b ys) (hz : xs.length + ys.length ≤ 1000) (q : ∀ g H', Same H H' → SqT K H' g (xs ++ ys) → Q (.ref g) H') : rCatA K (.ref a) (.ref b) H Q := by
  refine ⟨a, b, xs, ys, rfl, rfl, ea, eb, Nat.le_of_lt (small1000 hz), fun e => ?_, fun _ e => ?_, fun _ _ p np => q p _ (same_new np) (.inl (.inl upd_same))⟩
  · subst e
    exact q b H (Same.refl H) eb
  · subst e
    refine q a H (Same.refl H) ?_
    rw [List.append_nil]
    exact ea
section
variable {P : Program} {w : World} {K : PySem.W.Frag} {mg : Str → Option Value} {base : Heap}
/-- a want that some good standing has -/
def Had (tops : List Int) (rs : List Rl) (Ls : List (Addr × Sd)) : Prop := ∃ st ∈ goods tops rs, ∀ s, s ∈ Ls.map (·.2) → inB st s = true
def spRs (C : Addr) : Sp := fun vs H Q _ => ∃ (x : Addr) (tops : List Int) (rs : List Rl), vs = [.ref x] ∧ PlanAt C H x tops rs ∧ (∀ q ∈ rs, RuleOk tops q) ∧ rs.length ≤ 40 ∧
  ∀ H' l L, Same H H' → H' l = some (.lst (sdR L)) → SdsAt H' L → (∀ s, s ∈ L.map (·.2) ↔ RuleSd rs s ∧ othS tops s ≠ none) → L.length ≤ 80 → Q (.ref l) H'
theorem ruleSd_take {rs : List Rl} {i : Nat} {q : Rl} (h : rs[i]? = some q) {s : Sd} : RuleSd (rs.take (i + 1)) s ↔ RuleSd (rs.take i) s ∨ s = q.1 ∨ s = q.2 := by
  unfold RuleSd
  rw [List.take_add_one, h]
  constructor
  · rintro ⟨r, hr, e⟩
    rcases List.mem_append.mp hr with h | h
    · exact .inl ⟨r, h, e⟩
    · have : r = q := by simpa using h
      rw [this] at e
      exact .inr e
  · rintro (⟨r, hr, e⟩ | e)
    · exact ⟨r, List.mem_append_left _ hr, e⟩
    · exact ⟨q, List.mem_append_right _ (by simp), e⟩
abbrev a_rule_sides : Stmt := topS 41
abbrev n_rule_sides : List Str := ["plan", "sides", "rule", "side"]
theorem sc_rule_sides : FnScope n_rule_sides ["plan"] (defScope a_rule_sides) := ⟨rfl, rfl, rfl, by decide +kernel, rfl, by decide +kernel, by decide +kernel⟩
set_option maxHeartbeats 8000000 in
theorem ok_rule_sides {f fOt : Addr} {fd fdOt : FuncData} {k : Nat} {C : Addr} (F : Fun K "rule_sides" "rule_sides" a_rule_sides f fd) (Ot : Kn P w K mg base 2 "other_side" ["plan", "side"] (spOth C) fOt fdOt) (T : PlanTxt K mg C)  : FnOk P w K mg base CX0 (k + 3) f fd ["plan"] (spRs C) := by
  refine F.ok sc_rule_sides (fun vs H Q E h => ?_) (fun cdv A outer s H vs Q E hr h => ?_)
  · obtain ⟨x, tops, rs, rfl, _⟩ := h
    rfl
  · obtain ⟨x, tops, rs, rfl, hp, rok, l40, q⟩ := h
    refine ⟨_, (pss_cons (ps_dc2T (i := 1) (own := [("rule", 2), ("side", 3)]) (vs1 := [3]) (g := (gName 2)) (wi1 := iTup K (tVar 2)) (g1 := (gName 3)) (tk := (tVar 3)) (tv := (tC (.bl true))) (Room.u1 hr) rfl sc_rule_sides.nd (pi_tup (pe_fld (pv 0) rfl)) (blkOk_by (N := n_rule_sides) (sc := defScope a_rule_sides) (by decide +kernel)) (by decide)
          (fun _ _ _ _ _ => (pg_name (i := 2) sc_rule_sides.nd rfl (.inl rfl) (hf := .inr rfl))) (fun _ _ _ _ _ => (pi_tup (pv 2))) (fun _ _ _ _ _ => (pg_name (i := 3) sc_rule_sides.nd rfl (.inl rfl) (hf := .inr rfl))) (fun _ _ _ _ _ => (pv 3)) (fun _ _ _ _ _ => pe_bl) rfl rfl (sw_dict rfl rfl rfl (by decide +kernel)))
      (pss_one (ps_ret (
        pe_lock (pe_lc (own := [("side", 3)]) (g := (gName 3)) (tt := (tTest (tOp rNotN (tCall (spOth C) [] E0 (tCons (tVar 0) (tCons (tVar 3) tNil))) (tC .non)))) (te := (tVar 3)) rfl sc_rule_sides.nd (pi_keys (pv 1)) (blkOk_by (N := n_rule_sides) (sc := defScope a_rule_sides) (by decide +kernel))
          (fun _ _ _ _ _ => (pg_name (i := 3) sc_rule_sides.nd rfl (.inl rfl) (hf := .inr rfl))) (fun _ _ _ _ _ => pts_one (pt_cmpR op_notN1 (pe_kn Ot hr (by omega) (pa_cons (pv 0) (pa_cons (pv 3) pa_nil))) pe_non (nomark _))) (fun _ _ _ _ _ => (pv 3))))))), ?_⟩
    have hp' := hp
    obtain ⟨dx, t, R, ex, et, as, eR, la, ha⟩ := hp'
    refine ⟨.ref x, rfl, x, C, dx, _, _, rfl, ex, T.cl, T.nR, look_rules _ _, R, rfl, ⟨_, .inl (.inl eR)⟩, fun D nD => stp_it (walk_tup (xs := as.map V.ref)) (fun i H' => Same H H' ∧ ∃ L : List Sd, H' D = some (.dT (L.map fun t => (KS t, V.bl true))) ∧ (∀ s, s ∈ L ↔ RuleSd (rs.take i) s) ∧ L.length ≤ 2 * i) ⟨same_new nD, [], upd_same, (fun s => by simp [RuleSd]), Nat.le_refl _⟩ (fun i H' _ y => .inl (.inl (y.1 _ _ eR))) (fun i v H1 H2 hi y z => ?_) (fun H1 y => ?_)⟩
    · obtain ⟨s1, L, eD, mL, lL⟩ := y
      obtain ⟨rfl, gv⟩ := z
      obtain ⟨r, er, rfl⟩ := mapGet gv
      have hi' : i < as.length := by simpa using hi
      have eq : rs[i]? = some rs[i] := List.getElem?_eq_getElem (by omega)
      obtain ⟨p1, p2, eR1, h1, h2⟩ := (ha i r _ er eq).keep (.same s1)
      have nDr : r ≠ D := fun e => by
        rw [e, eD] at eR1
        cases eR1
      refine ⟨rfl, .ref r, rfl, r, rfl, ⟨_, .inl (.inl eR1)⟩, stp_it (walk_tup (xs := [V.ref p1, V.ref p2])) (fun j H' => Same H H' ∧ KT H2 H' ∧ ∃ L : List Sd, H' D = some (.dT (L.map fun t => (KS t, V.bl true))) ∧ (∀ s, s ∈ L ↔ RuleSd (rs.take i) s ∨ s ∈ [rs[i].1, rs[i].2].take j) ∧ L.length ≤ 2 * i + j) ⟨s1, KT.refl _, L, eD, (fun s => by simp [mL s]), by omega⟩ (fun j H' _ y => .inl (.inl (y.2.1 _ _ eR1))) (fun j v H3 H4 hj y z => ?_) (fun H3 y => ?_)⟩
      · obtain ⟨s3, k3, L3, eD3, mL3, lL3⟩ := y
        obtain ⟨rfl, gv⟩ := z
        have hj2 : j < 2 := hj
        obtain ⟨pj, sj, ev, hj', ej⟩ : ∃ (pj : Addr) (sj : Sd), v = .ref pj ∧ SideAt H4 pj sj ∧ [rs[i].1, rs[i].2][j]? = some sj := by
          have : j = 0 ∨ j = 1 := by omega
          rcases this with rfl | rfl
          · exact ⟨p1, rs[i].1, (Option.some.inj gv).symm, h1.kt k3, rfl⟩
          · exact ⟨p2, rs[i].2, (Option.some.inj gv).symm, h2.kt k3, rfl⟩
        subst ev
        refine ⟨wipe_one (n := "side"), .ref pj, rfl, _, KS sj, pj, rfl, hj', eD3, by rw [List.length_map]; exact small1000 (by omega), same_over s3 nD, k3.trans (KT.upd eD3 (fun xs e => nomatch e)), insS L3 sj, by rw [upd_same, put_const], fun s => ?_, Nat.le_trans (ins_len L3 sj) (by omega)⟩
        rw [ins_mem, mL3 s, List.take_add_one, ej, List.mem_append, or_assoc]
        simp
      · obtain ⟨s3, k3, L3, eD3, mL3, lL3⟩ := y
        refine ⟨s3, L3, eD3, fun s => ?_, ?_⟩
        · rw [mL3 s, ruleSd_take eq]
          simp
        · have : L3.length ≤ 2 * i + 2 := lL3
          omega
    obtain ⟨s1, L, eD, mL, lL⟩ := y
    rw [List.length_map, la] at mL lL
    rw [List.take_length] at mL
    refine ⟨D, _, eD, trivial, fun od => ?_⟩
    have sF : Same H (upd H1 D (.frz od (.dT (L.map fun t => (KS t, V.bl true))))) := same_over s1 nD
    have eF : (upd H1 D (.frz od (.dT (L.map fun t => (KS t, V.bl true))))) D = some (.frz od (.dT (L.map fun t => (KS t, V.bl true)))) := upd_same
    generalize upd H1 D (.frz od (.dT (L.map fun t => (KS t, V.bl true)))) = HF at sF eF ⊢
    refine ⟨.ref D, rfl, D, od, rfl, .inr ⟨_, eF, fun D2 nD2 => lc_it walk_keysT (fun i H' => Same HF H' ∧ ∃ L', H' D2 = some (.lst (sdR L')) ∧ SdsAt H' L' ∧ (∀ s, s ∈ L'.map (·.2) ↔ s ∈ L.take i ∧ othS tops s ≠ none) ∧ L'.length ≤ i) ⟨same_new nD2, [], upd_same, (fun _ h => absurd h List.not_mem_nil), (fun s => by simp), Nat.le_refl _⟩ (fun i H' _ y => y.1 _ _ eF) (fun i v H2 H3 hi y z => ?_) (fun H2 y => ?_)⟩⟩
    · obtain ⟨s2, L', eD2, hL', mL', lL'⟩ := y
      obtain ⟨rfl, k, v', qa, ekv, rfl, eqa⟩ := z
      obtain ⟨sd, esd, ekk⟩ := mapGet ekv
      injection ekk with ek _
      subst ek
      have hqa : SideAt H3 qa sd := eqa
      have oks : SideOk tops sd := by
        obtain ⟨q', hq', h⟩ := (mL sd).mp (List.mem_of_getElem? esd)
        rcases h with rfl | rfl
        · exact (rok q' hq').1
        · exact (rok q' hq').2
      have tk : ∀ s, s ∈ L.take (i + 1) ↔ s ∈ L.take i ∨ s = sd := fun s => by
        rw [List.take_add_one, esd, List.mem_append]
        simp
      refine ⟨wipe_one, .ref x, rfl, .ref qa, rfl, x, qa, tops, rs, sd, rfl, hp.keep (.same (sF.trans s2)), hqa, oks, fun H4 v s4 ho => ⟨rfl, _, rfl, ?_⟩⟩
      cases eo : othS tops sd with
      | none =>
        rw [eo] at ho
        cases (show v = .non from ho)
        refine iteFa rfl ⟨s2.trans s4, L', s4 _ _ eD2, hL'.keep (.same s4), fun s => ?_, by omega⟩
        rw [mL' s, tk s]
        constructor
        · rintro ⟨h1, h2⟩
          exact ⟨.inl h1, h2⟩
        · rintro ⟨h1 | h1, h2⟩
          · exact ⟨h1, h2⟩
          · exact absurd (h1 ▸ eo) h2
      | some o =>
        rw [eo] at ho
        obtain ⟨go, rfl, _⟩ := ho
        have eD4 := s4 _ _ eD2
        have lw : i < L.length := by simpa using hi
        refine iteTr rfl ⟨_, rfl, _, eD4, by rw [List.length_map]; exact small1000 (by omega), same_over (s2.trans s4) nD2, L' ++ [(qa, sd)], by rw [upd_same]; simp [sdR], ((hL'.keep (.same s4)).keep (Keep.upd eD4)).snoc ((hqa.keep (.same s4)).keep (Keep.upd eD4)), fun s => ?_, by rw [List.length_append]; simp only [List.length_cons, List.length_nil]; omega⟩
        rw [List.map_append, List.mem_append, mL' s, tk s]
        constructor
        · rintro (⟨h1, h2⟩ | h)
          · exact ⟨.inl h1, h2⟩
          · have : s = sd := by simpa using h
            exact ⟨.inr this, by rw [this, eo]; simp⟩
        · rintro ⟨h1 | h1, h2⟩
          · exact .inl ⟨h1, h2⟩
          · exact .inr (by simp [h1])
    · obtain ⟨s2, L', eD2, hL', mL', lL'⟩ := y
      rw [List.length_map] at mL' lL'
      rw [List.take_length] at mL'
      refine ⟨s2 _ _ eF, ?_⟩
      have nDD : D2 ≠ D := fun e => by
        rw [e, eF] at nD2
        cases nD2
      have kD : KT H2 (upd H2 D (.dT (L.map fun t => (KS t, V.bl true)))) := KT.upd (s2 _ _ eF) (fun xs e => nomatch e)
      exact q _ D2 L' (same_over (sF.trans s2) nD) (by rw [upd_ne nDD]; exact eD2) (hL'.kt kD) (fun s => by rw [mL' s, mL s]) (by omega)
end

/-! ### barred papers, of any want -/
section
variable {P : Program} {w : World} {K : PySem.W.Frag} {mg : Str → Option Value} {base : Heap}
def spBarG (K : PySem.W.Frag) (C : Addr) : Sp := fun vs H Q _ => ∃ (x g : Addr) (tops : List Int) (rs : List Rl) (Ls : List (Addr × Sd)), vs = [.ref x, .ref g] ∧ Wnt K C H x g tops rs Ls ∧
  (∀ H', Same H H' → (∀ s w, Rea tops rs (· ∈ Ls.map (·.2)) s → w ∈ Ls.map (·.2) → barsB tops s w = false) → Q .non H') ∧
  ∀ H' h c L R s w, Same H H' → H' h = some (.tup [.str "barred", .ref c]) → H' c = some (.tup (sdR L)) → SdsAt H' L → L.map (·.2) = R.reverse → RCh tops rs (Ls.map (·.2)) R → R.head? = some s → R.length ≤ 280 → Rea tops rs (· ∈ Ls.map (·.2)) s → w ∈ Ls.map (·.2) → barsB tops s w = true → Q (.ref h) H'
abbrev a_barred_paper : Stmt := topS 40
abbrev n_barred_paper : List Str := ["plan", "want", "ahead", "side", "wanted"]
theorem sc_barred_paper : FnScope n_barred_paper ["plan", "want"] (defScope a_barred_paper) := ⟨rfl, rfl, rfl, by decide +kernel, rfl, by decide +kernel, by decide +kernel⟩
set_option maxHeartbeats 8000000 in
theorem ok_barred_paper {f fRe fBr fCi : Addr} {fd fdRe fdBr fdCi : FuncData} {k : Nat} {C : Addr} (F : Fun K "barred_paper" "barred_paper" a_barred_paper f fd) (Re : Kn P w K mg base 4 "reached" ["plan", "starts"] (spRea K C) fRe fdRe) (Br : Kn P w K mg base 2 "bars" ["plan", "one", "other"] (spTwo C barsB) fBr fdBr) (Ci : Kn P w K mg base 1 "chain_in" ["ahead", "side"] spCin fCi fdCi)  (m_any : mg "any" = none) : FnOk P w K mg base CX0 (k + 5) f fd ["plan", "want"] (spBarG K C) := by
  refine F.ok sc_barred_paper (fun vs H Q E h => ?_) (fun cdv A outer s H vs Q E hr h => ?_)
  · obtain ⟨x, g, tops, rs, Ls, rfl, _⟩ := h
    rfl
  · obtain ⟨x, g, tops, rs, Ls, rfl, W, q0, q1⟩ := h
    refine ⟨_, (pss_cons (ps_set (i := 2) sc_barred_paper.nd rfl (.inl rfl) (pe_kn Re hr (by omega) (pa_cons (pv 0) (pa_cons (pv 1) pa_nil))))
      (pss_cons (ps_for PassesOwn.never rfl (pi_keys (pv 2)) (pg_name (i := 3) sc_barred_paper.nd rfl (.inr rfl))
        (pss_one (ps_if (pt_val (pe_callB (cr_any rfl) (by rfl) m_any (by decide +kernel) (pa_cons (
        pe_lc (own := [("wanted", 4)]) (g := (gName 4)) (tt := tYes) (te := (tCall (spTwo C barsB) [] E0 (tCons (tVar 0) (tCons (tVar 3) (tCons (tVar 4) tNil))))) rfl sc_barred_paper.nd (pi_tup (pv 1)) (blkOk_by (N := n_barred_paper) (sc := defScope a_barred_paper) (by decide +kernel))
          (fun _ _ _ _ _ => (pg_name (i := 4) sc_barred_paper.nd rfl (.inl rfl) (hf := .inr rfl))) (fun _ _ _ _ _ => pts_nil) (fun _ _ _ _ _ => (pe_kn Br hr (by omega) (pa_cons (pv 0) (pa_cons (pv 3) (pa_cons (pv 4) pa_nil)))))) pa_nil))) (pss_one (ps_ret (pe_tup (pa_cons pe_str (pa_cons (pe_kn Ci hr (by omega) (pa_cons (pv 2) (pa_cons (pv 3) pa_nil))) pa_nil))))) pss_nil)))
      (pss_one (ps_ret pe_non)))), ?_⟩
    have lS := W.lS
    refine ⟨.ref x, rfl, .ref g, rfl, x, g, tops, rs, Ls, rfl, W.hp, W.eg, W.hL, W.okS, W.rok, W.l40, W.lS, fun H1 d od kvs E s1 nd ed aK A cl lE => ?_⟩
    refine ⟨.ref d, rfl, d, od, rfl, .inr ⟨kvs, ed, for_it walk_keysT (fun i σ H' => (∃ u3, σ = [some (.ref x), some (.ref g), some (.ref d), u3, none]) ∧ Same H1 H' ∧ ∀ z ∈ (E.take i).map (·.1), ∀ w ∈ Ls.map (·.2), barsB tops z w = false) ⟨⟨_, rfl⟩, Same.refl _, (fun z h => absurd h (by simp))⟩ (fun i σ H' _ y => y.2.1 _ _ ed) (fun i v σ H2' H2 hi y z => ?_) (fun σ H2 y => ?_)⟩⟩
    · obtain ⟨⟨u3, rfl⟩, s2, al⟩ := y
      obtain ⟨rfl, k, v', qa, ekv, rfl, eqa⟩ := z
      obtain ⟨e, ee, ek, _⟩ := aK.get ekv
      have ek' : k = KS e.1 := ek
      subst ek'
      have hqa : SideAt H2 qa e.1 := eqa
      have me : e.1 ∈ E.map (·.1) := List.mem_map.mpr ⟨e, List.mem_of_getElem? ee, rfl⟩
      have re := (A.mem cl).mp me
      have oke := re.ok W.rok W.ok
      have s02 := s1.trans s2
      have W2 := W.same s02
      refine ⟨.ref g, rfl, g, rfl, ⟨_, W2.eg⟩, fun D nD => lc_it (walk_tup (xs := sdR Ls)) (fun j H' => Same H2 H' ∧ H' D = some (.lst (((Ls.take j).map fun z => barsB tops e.1 z.2).map V.bl))) ⟨same_new nD, upd_same⟩ (fun j H' _ y => sameT y.1 W2.eg) (fun j v H4 H3 hj y z => ?_) (fun H3 y => ?_)⟩
      · obtain ⟨s3, eD⟩ := y
        obtain ⟨rfl, gv⟩ := z
        obtain ⟨zz, ez, rfl⟩ := mapGet gv
        have hz := List.mem_of_getElem? ez
        refine ⟨wipe_one, .ref x, rfl, .ref qa, rfl, .ref zz.1, rfl, x, qa, zz.1, tops, rs, e.1, zz.2, rfl, W2.hp.keep (.same s3), hqa.keep (.same s3), (W2.hL zz hz).keep (.same s3), oke, W.okS zz hz, fun H5 s5 => ?_⟩
        refine ⟨_, s5 _ _ eD, ?_, same_over (s3.trans s5) nD, ?_⟩
        · rw [List.length_map, List.length_map, List.length_take]
          exact small1000 (by omega)
        · rw [upd_same, List.take_add_one, ez, List.map_append, List.map_append]
          rfl
      · obtain ⟨s3, eD⟩ := y
        have lr : (sdR Ls).length = Ls.length := List.length_map _
        rw [lr, List.take_length] at eD
        refine ⟨D, _, rfl, .inl (.inl eD), _, rfl, ite2 (fun c => ?_) (fun c => ?_)⟩
        · rw [List.any_map] at c
          obtain ⟨zz, hz, bz⟩ := List.any_eq_true.mp c
          refine ⟨.ref d, rfl, .ref qa, rfl, d, qa, od, kvs, E, tops, rs, Ls.map (·.2), e.1, rfl, (s2.trans s3) _ _ ed, aK.kt (KT.same (s2.trans s3)), A, lE, hqa.keep (.same s3), me, fun H4 cc L R s4 nc ec hL eL rc hd lR => ⟨(show 2 ≤ sizeLine by decide), fun h nh => ?_⟩⟩
          have sh := same_new (o := HO.tup [V.str "barred", V.ref cc]) nh
          exact q1 _ h cc L R e.1 zz.2 (((s02.trans s3).trans s4).trans sh) upd_same (sh _ _ ec) (hL.keep (.same sh)) eL rc hd lR re (List.mem_map.mpr ⟨zz, hz, rfl⟩) bz
        · refine ⟨⟨_, rfl⟩, s2.trans s3, fun z hz w hw => ?_⟩
          rw [List.take_add_one, ee, List.map_append] at hz
          rcases List.mem_append.mp hz with h | h
          · exact al z h w hw
          · have ez : z = e.1 := by simpa using h
            subst ez
            obtain ⟨zz, hzz, rfl⟩ := List.mem_map.mp hw
            cases b : barsB tops e.1 zz.2 with
            | false => rfl
            | true =>
              refine absurd ?_ c
              rw [List.any_map]
              exact List.any_eq_true.mpr ⟨zz, hzz, b⟩
    · obtain ⟨⟨u3, rfl⟩, s2, al⟩ := y
      refine q0 H2 (s1.trans s2) fun s w hs hw => al s ?_ w hw
      have lk := aK.length
      rw [lk, List.take_length]
      exact (A.mem cl).mpr hs
end
end K16

set_option Elab.async false
set_option linter.all false
set_option maxRecDepth 100000
namespace K16
open PySem PySem.Spec PyProof.Rows L2 NB

/-! ### turning, rings, papers of any want in any plan -/
def rNe0 (K : PySem.W.Frag) : R2 := fun x y H Q => ∃ a b xs, x = .ref a ∧ y = .ref b ∧ SqT K H a xs ∧ SqT K H b [] ∧ Q (.bl (!xs.isEmpty)) H
theorem op_ne0R {X : Cx} (hu : X.A.units < cLine) : OpR X (compareOp .NotEq) (rNe0 X.K) := op_ne0 hu
theorem oth_oth {tops : List Int} {s o : Sd} (ok : SideOk tops s) (h : othS tops s = some o) : othS tops o = some s := by
  have b := ok.bd
  obtain ⟨i, c, p⟩ := s
  have b' : 0 ≤ p ∧ p ≤ plc tops i := b
  rcases oth_cases h with ⟨e, h1, rfl⟩ | ⟨e, h1, rfl⟩
  · have e' : c = true := e
    have h1' : 0 < p := h1
    subst e'
    have := oth_to (tops := tops) (i := i) (p := p - 1) (by omega)
    rw [Int.sub_add_cancel] at this
    exact this
  · have e' : c = false := e
    have h1' : p < plc tops i := h1
    subst e'
    have := oth_from (tops := tops) (i := i) (p := p + 1) (by omega)
    rw [Int.add_sub_cancel] at this
    exact this
theorem ring_bad {tops : List Int} {rs : List Rl} (rok : ∀ q ∈ rs, RuleOk tops q) {s o : Sd} (ok : SideOk tops s) (eo : othS tops s = some o) (t1 : Tn tops rs s) (t2 : Tn tops rs o) {st : List Int} (hst : st ∈ goods tops rs) : False := by
  have h1 := t1.in' rok hst ok
  have h2 := t2.in' rok hst (oth_ok ok eo)
  rw [oth_in hst ok eo, h1] at h2
  cases h2
section
variable {P : Program} {w : World} {K : PySem.W.Frag} {mg : Str → Option Value} {base : Heap}
def spTurn (C : Addr) : Sp := fun vs H Q _ => ∃ (x p : Addr) (tops : List Int) (rs : List Rl) (s o : Sd), vs = [.ref x, .ref p] ∧ PlanAt C H x tops rs ∧ (∀ q ∈ rs, RuleOk tops q) ∧ rs.length ≤ 40 ∧ SideAt H p s ∧ SideOk tops s ∧ othS tops s = some o ∧
  ∀ H' c L, Same H H' → H' c = some (.tup (sdR L)) → SdsAt H' L → CTo tops rs [o] s (L.map (·.2)) → L.length ≤ 281 → Q (.ref c) H'
abbrev a_turning : Stmt := topS 42
abbrev n_turning : List Str := ["plan", "side"]
theorem sc_turning : FnScope n_turning ["plan", "side"] (defScope a_turning) := ⟨rfl, rfl, rfl, by decide +kernel, rfl, by decide +kernel, by decide +kernel⟩
set_option maxHeartbeats 8000000 in
theorem ok_turning {f fCt fOt : Addr} {fd fdCt fdOt : FuncData} {k : Nat} {C : Addr} (F : Fun K "turning" "turning" a_turning f fd) (Ct : Kn P w K mg base 5 "chain_to" ["plan", "starts", "goal"] (spCto K C) fCt fdCt) (Ot : Kn P w K mg base 2 "other_side" ["plan", "side"] (spOth C) fOt fdOt)   : FnOk P w K mg base CX0 (k + 6) f fd ["plan", "side"] (spTurn C) := by
  refine F.ok sc_turning (fun vs H Q E h => ?_) (fun cdv A outer s H vs Q E hr h => ?_)
  · obtain ⟨x, p, tops, rs, s', o, rfl, _⟩ := h
    rfl
  · obtain ⟨x, p, tops, rs, s', o, rfl, hp, rok, l40, hs, ok, eo, q⟩ := h
    refine ⟨_, (pss_one (ps_ret (pe_kn Ct hr (by omega) (pa_cons (pv 0) (pa_cons (pe_tup (pa_cons (pe_kn Ot hr (by omega) (pa_cons (pv 0) (pa_cons (pv 1) pa_nil))) pa_nil)) (pa_cons (pv 1) pa_nil)))))), ?_⟩
    refine ⟨.ref x, rfl, .ref x, rfl, .ref p, rfl, x, p, tops, rs, s', rfl, hp, hs, ok, fun H1 v s1 ho => ?_⟩
    rw [eo] at ho
    obtain ⟨g, rfl, hg⟩ := ho
    refine ⟨(show 1 ≤ sizeLine by decide), fun t nt => ?_⟩
    have st := same_new (o := HO.tup [V.ref g]) nt
    have s2 := s1.trans st
    refine ⟨.ref p, rfl, x, t, p, tops, rs, [(g, o)], s', rfl, hp.keep (.same s2), .inl (.inl upd_same), fun z hz => ?_, fun z hz => ?_, rok, l40, by simp, hs.keep (.same s2), ok, fun H3 c L s3 ec hL ct lL => q H3 c L (s2.trans s3) ec hL ct lL⟩
    · rw [List.mem_singleton.mp hz]
      exact hg.keep (.same st)
    · rw [List.mem_singleton.mp hz]
      exact oth_ok ok eo
/-- the paper of a ring -/
structure RgP (H : Hp) (h : Addr) (tops : List Int) (rs : List Rl) : Prop where
  ex : ∃ (c1 c2 : Addr) (L1 L2 : List (Addr × Sd)) (s o : Sd), H h = some (.tup [.str "ring", .ref c1, .ref c2]) ∧ H c1 = some (.tup (sdR L1)) ∧ H c2 = some (.tup (sdR L2)) ∧ SdsAt H L1 ∧ SdsAt H L2 ∧ SideOk tops s ∧ othS tops s = some o ∧ CTo tops rs [s] o (L1.map (·.2)) ∧ CTo tops rs [o] s (L2.map (·.2)) ∧ L1 ≠ [] ∧ L2 ≠ [] ∧ L1.length ≤ 281 ∧ L2.length ≤ 281
theorem RgP.same {H H' : Hp} {h : Addr} {tops : List Int} {rs : List Rl} (b : RgP H h tops rs) (s : Same H H') : RgP H' h tops rs := by
  obtain ⟨c1, c2, L1, L2, s', o, e1, e2, e3, e4, e5, e6⟩ := b.ex
  exact ⟨c1, c2, L1, L2, s', o, s _ _ e1, s _ _ e2, s _ _ e3, e4.keep (.same s), e5.keep (.same s), e6⟩
def spRpG (C : Addr) : Sp := fun vs H Q _ => ∃ (x : Addr) (tops : List Int) (rs : List Rl), vs = [.ref x] ∧ PlanAt C H x tops rs ∧ (∀ q ∈ rs, RuleOk tops q) ∧ rs.length ≤ 40 ∧
  (∀ H', Same H H' → ¬ Ring tops rs → Q .non H') ∧ ∀ H' h, Same H H' → RgP H' h tops rs → (∀ st, st ∉ goods tops rs) → Q (.ref h) H'
abbrev a_ring_paper : Stmt := topS 43
abbrev n_ring_paper : List Str := ["plan", "side", "back", "there"]
theorem sc_ring_paper : FnScope n_ring_paper ["plan"] (defScope a_ring_paper) := ⟨rfl, rfl, rfl, by decide +kernel, rfl, by decide +kernel, by decide +kernel⟩
set_option maxHeartbeats 8000000 in
theorem ok_ring_paper {f fRs fTu fOt : Addr} {fd fdRs fdTu fdOt : FuncData} {k : Nat} {C : Addr} (F : Fun K "ring_paper" "ring_paper" a_ring_paper f fd) (Rs : Kn P w K mg base 3 "rule_sides" ["plan"] (spRs C) fRs fdRs) (Tu : Kn P w K mg base 6 "turning" ["plan", "side"] (spTurn C) fTu fdTu) (Ot : Kn P w K mg base 2 "other_side" ["plan", "side"] (spOth C) fOt fdOt)   : FnOk P w K mg base CX0 (k + 7) f fd ["plan"] (spRpG C) := by
  refine F.ok sc_ring_paper (fun vs H Q E h => ?_) (fun cdv A outer s H vs Q E hr h => ?_)
  · obtain ⟨x, tops, rs, rfl, _⟩ := h
    rfl
  · obtain ⟨x, tops, rs, rfl, hp, rok, l40, q0, q1⟩ := h
    refine ⟨_, (pss_cons (ps_for PassesOwn.never rfl (pi_list (pe_kn Rs hr (by omega) (pa_cons (pv 0) pa_nil))) (pg_name (i := 1) sc_ring_paper.nd rfl (.inl rfl))
        (pss_cons (ps_set (i := 2) sc_ring_paper.nd rfl (.inl rfl) (pe_kn Tu hr (by omega) (pa_cons (pv 0) (pa_cons (pv 1) pa_nil))))
      (pss_cons (ps_set (i := 3) sc_ring_paper.nd rfl (.inl rfl) (pe_ifExp (pt_cmpR (op_ne0 hr.units0) (pv 2) (pe_tup pa_nil) (nomark _)) (pe_kn Tu hr (by omega) (pa_cons (pv 0) (pa_cons (pe_kn Ot hr (by omega) (pa_cons (pv 0) (pa_cons (pv 1) pa_nil))) pa_nil))) (pe_tup pa_nil)))
      (pss_one (ps_if (pt_cmpR (op_ne0 hr.units0) (pv 3) (pe_tup pa_nil) (nomark _)) (pss_one (ps_ret (pe_tup (pa_cons pe_str (pa_cons (pv 3) (pa_cons (pv 2) pa_nil)))))) pss_nil)))))
      (pss_one (ps_ret pe_non))), ?_⟩
    refine ⟨.ref x, rfl, x, tops, rs, rfl, hp, rok, l40, fun H1 l L s1 el hL mL lL => ⟨l, rfl, ⟨_, .inl (.inl el)⟩, ?_⟩⟩
    refine for_it (walk_list (xs := sdR L)) (fun i σ H' => (∃ u1 u2 u3, σ = [some (.ref x), u1, u2, u3]) ∧ Same H1 H' ∧ ∀ z ∈ L.take i, ∀ o, othS tops z.2 = some o → ¬ (Tn tops rs z.2 ∧ Tn tops rs o)) ⟨⟨_, _, _, rfl⟩, Same.refl _, (fun z h => absurd h (by simp))⟩ (fun i σ H' _ y => .inl (.inl (y.2.1 _ _ el))) (fun i v σ H2 H2' hi y z => ?_) (fun σ H2 y => ?_)
    · obtain ⟨⟨u1, u2, u3, rfl⟩, s2, al⟩ := y
      obtain ⟨rfl, gv⟩ := z
      obtain ⟨zz, ez, rfl⟩ := mapGet gv
      have hz := List.mem_of_getElem? ez
      obtain ⟨hr1, hr2⟩ := (mL zz.2).mp (List.mem_map.mpr ⟨zz, hz, rfl⟩)
      have ok : SideOk tops zz.2 := by
        obtain ⟨q', hq', h⟩ := hr1
        rcases h with e | e
        · rw [e]; exact (rok q' hq').1
        · rw [e]; exact (rok q' hq').2
      obtain ⟨o, eo⟩ := Option.ne_none_iff_exists'.mp hr2
      have more : ¬ (Tn tops rs zz.2 ∧ Tn tops rs o) → ∀ z ∈ L.take (i + 1), ∀ o, othS tops z.2 = some o → ¬ (Tn tops rs z.2 ∧ Tn tops rs o) := fun no z hz' o' eo' => by
        rw [List.take_add_one, ez] at hz'
        rcases List.mem_append.mp hz' with h | h
        · exact al z h o' eo'
        · have : z = zz := by simpa using h
          subst this
          rw [eo] at eo'
          cases eo'
          exact no
      have s02 := s1.trans s2
      refine ⟨.ref x, rfl, .ref zz.1, rfl, x, zz.1, tops, rs, zz.2, o, rfl, hp.keep (.same s02), rok, l40, (hL zz hz).keep (.same s2), ok, eo, fun H3 c L3 s3 ec hL3 ct lL3 => ?_⟩
      refine ⟨.ref c, rfl, Nat.zero_le _, fun z0 nz0 => ?_⟩
      have sz := same_new (o := HO.tup []) nz0
      have s24 := (s2.trans s3).trans sz
      refine ⟨c, z0, _, rfl, rfl, .inl (.inl (sz _ _ ec)), .inl (.inl upd_same), _, rfl, ?_⟩
      cases hc : (sdR L3).isEmpty with
      | true =>
        have nt : ¬ Tn tops rs zz.2 := fun h => (cto_tn ct eo).mpr h (by
          rw [List.isEmpty_iff] at hc
          have : L3 = [] := List.map_eq_nil_iff.mp hc
          rw [this]
          rfl)
        refine iteFa rfl ⟨Nat.zero_le _, fun t nt' => ?_⟩
        have st' := same_new (o := HO.tup []) nt'
        refine ⟨.ref t, rfl, Nat.zero_le _, fun z1 nz1 => ?_⟩
        have s1' := same_new (o := HO.tup []) nz1
        exact ⟨t, z1, [], rfl, rfl, .inl (.inl (s1' _ _ upd_same)), .inl (.inl upd_same), _, rfl, iteFa rfl ⟨⟨_, _, _, rfl⟩, (s24.trans st').trans s1', more fun h => nt h.1⟩⟩
      | false =>
        have ne3 : L3 ≠ [] := fun e => by
          rw [e] at hc
          cases hc
        have tn : Tn tops rs zz.2 := (cto_tn ct eo).mp fun e => ne3 (List.map_eq_nil_iff.mp e)
        have s14 := s1.trans s24
        refine iteTr rfl ⟨.ref x, rfl, .ref x, rfl, .ref zz.1, rfl, x, zz.1, tops, rs, zz.2, rfl, hp.keep (.same s14), (hL zz hz).keep (.same s24), ok, fun H5 v s5 ho => ?_⟩
        rw [eo] at ho
        obtain ⟨g, rfl, hg⟩ := ho
        have oko := oth_ok ok eo
        have eo' := oth_oth ok eo
        refine ⟨x, g, tops, rs, o, zz.2, rfl, hp.keep (.same (s14.trans s5)), rok, l40, hg, oko, eo', fun H6 c6 L6 s6 ec6 hL6 ct6 lL6 => ?_⟩
        refine ⟨.ref c6, rfl, Nat.zero_le _, fun z1 nz1 => ?_⟩
        have s1' := same_new (o := HO.tup []) nz1
        have s46 := (s5.trans s6).trans s1'
        refine ⟨c6, z1, _, rfl, rfl, .inl (.inl (s1' _ _ ec6)), .inl (.inl upd_same), _, rfl, ?_⟩
        cases hc6 : (sdR L6).isEmpty with
        | true =>
          have nt : ¬ Tn tops rs o := fun h => (cto_tn ct6 eo').mpr h (by
            rw [List.isEmpty_iff] at hc6
            have : L6 = [] := List.map_eq_nil_iff.mp hc6
            rw [this]
            rfl)
          exact iteFa rfl ⟨⟨_, _, _, rfl⟩, s24.trans s46, more fun h => nt h.2⟩
        | false =>
          have ne6 : L6 ≠ [] := fun e => by
            rw [e] at hc6
            cases hc6
          have tn6 : Tn tops rs o := (cto_tn ct6 eo').mp fun e => ne6 (List.map_eq_nil_iff.mp e)
          refine iteTr rfl ⟨_, rfl, _, rfl, (show 3 ≤ sizeLine by decide), fun h nh => ?_⟩
          have sh := same_new (o := HO.tup [V.str "ring", V.ref c6, V.ref c]) nh
          have s46h := s46.trans sh
          refine q1 _ h (s14.trans s46h) ⟨c6, c, L6, L3, zz.2, o, upd_same, (s1'.trans sh) _ _ ec6, (sz.trans s46h) _ _ ec, hL6.keep (.same (s1'.trans sh)), hL3.keep (.same (sz.trans s46h)), ok, eo, ct6, ct, ne6, ne3, lL6, lL3⟩ (fun st hst => ring_bad rok ok eo tn tn6 hst)
    · obtain ⟨_, s2, al⟩ := y
      have lr : (sdR L).length = L.length := List.length_map _
      rw [lr, List.take_length] at al
      refine q0 H2 (s1.trans s2) fun ⟨s, o, h1, h2, h3, h4⟩ => ?_
      have : s ∈ L.map (·.2) := (mL s).mpr ⟨h1, by rw [h2]; simp⟩
      obtain ⟨z, hz, rfl⟩ := List.mem_map.mp this
      exact al z hz o h2 ⟨h3, h4⟩
/-- the paper that a want is barred -/
structure BarAt (H : Hp) (h : Addr) (tops : List Int) (rs : List Rl) (Ls : List (Addr × Sd)) : Prop where
  ex : ∃ (c : Addr) (L : List (Addr × Sd)) (R : List Sd) (s w : Sd), H h = some (.tup [.str "barred", .ref c]) ∧ H c = some (.tup (sdR L)) ∧ SdsAt H L ∧ L.map (·.2) = R.reverse ∧ RCh tops rs (Ls.map (·.2)) R ∧ R.head? = some s ∧ R.length ≤ 280 ∧ Rea tops rs (· ∈ Ls.map (·.2)) s ∧ w ∈ Ls.map (·.2) ∧ barsB tops s w = true
theorem BarAt.same {H H' : Hp} {h : Addr} {tops : List Int} {rs : List Rl} {Ls : List (Addr × Sd)} (b : BarAt H h tops rs Ls) (s : Same H H') : BarAt H' h tops rs Ls := by
  obtain ⟨c, L, R, s', w, e1, e2, e3, e4⟩ := b.ex
  exact ⟨c, L, R, s', w, s _ _ e1, s _ _ e2, e3.keep (.same s), e4⟩
def spNoneA (K : PySem.W.Frag) (C : Addr) : Sp := fun vs H Q _ => ∃ (x g : Addr) (tops : List Int) (rs : List Rl) (Ls : List (Addr × Sd)), vs = [.ref x, .ref g] ∧ Wnt K C H x g tops rs Ls ∧ (∀ H', Same H H' → Had tops rs Ls → Q .non H') ∧ ∀ H' h, Same H H' → (BarAt H' h tops rs Ls ∨ RgP H' h tops rs) → ¬ Had tops rs Ls → Q (.ref h) H'
abbrev a_none_paper : Stmt := topS 44
abbrev n_none_paper : List Str := ["plan", "want", "paper"]
theorem sc_none_paper : FnScope n_none_paper ["plan", "want"] (defScope a_none_paper) := ⟨rfl, rfl, rfl, by decide +kernel, rfl, by decide +kernel, by decide +kernel⟩
set_option maxHeartbeats 8000000 in
theorem ok_none_paper {f fBp fRp : Addr} {fd fdBp fdRp : FuncData} {k : Nat} {C : Addr} (F : Fun K "none_paper" "none_paper" a_none_paper f fd) (Bp : Kn P w K mg base 5 "barred_paper" ["plan", "want"] (spBarG K C) fBp fdBp) (Rp : Kn P w K mg base 7 "ring_paper" ["plan"] (spRpG C) fRp fdRp)   : FnOk P w K mg base CX0 (k + 8) f fd ["plan", "want"] (spNoneA K C) := by
  refine F.ok sc_none_paper (fun vs H Q E h => ?_) (fun cdv A outer s H vs Q E hr h => ?_)
  · obtain ⟨x, g, tops, rs, Ls, rfl, _⟩ := h
    rfl
  · obtain ⟨x, g, tops, rs, Ls, rfl, W, q0, q1⟩ := h
    refine ⟨_, (pss_cons (ps_set (i := 2) sc_none_paper.nd rfl (.inl rfl) (pe_kn Bp hr (by omega) (pa_cons (pv 0) (pa_cons (pv 1) pa_nil))))
      (pss_cons (ps_if (pt_cmpR op_isN (pv 2) pe_non (nomark _)) (pss_one (ps_set (i := 2) sc_none_paper.nd rfl (.inl rfl) (pe_kn Rp hr (by omega) (pa_cons (pv 0) pa_nil)))) pss_nil)
      (pss_one (ps_ret (pv 2))))), ?_⟩
    refine ⟨.ref x, rfl, .ref g, rfl, x, g, tops, rs, Ls, rfl, W, fun H1 s1 nb => ?_, fun H1 h c L R s w s1 eh ec hL eL rc hd lR re hw b => ?_⟩
    · refine ⟨_, rfl, rfl, _, rfl, iteTr rfl ⟨.ref x, rfl, x, tops, rs, rfl, W.hp.keep (.same s1), W.rok, W.l40, fun H2 s2 nr => ⟨_, rfl, q0 H2 (s1.trans s2) ?_⟩, fun H2 h s2 rg no => ⟨_, rfl, q1 H2 h (s1.trans s2) (.inr rg) fun ⟨st, hst, _⟩ => no st hst⟩⟩⟩
      obtain ⟨st, hst⟩ := (ring_ex W.rok W.pl).resolve_right nr
      exact (some_goodS W.rok W.pl hst W.ok).resolve_right fun ⟨w, z, hw, hz, b⟩ => by
        rw [nb z w hz hw] at b
        cases b
    · exact ⟨_, rfl, rfl, _, rfl, iteFa rfl ⟨_, rfl, q1 H1 h s1 (.inl ⟨c, L, R, s, w, eh, ec, hL, eL, rc, hd, lR, re, hw, b⟩) (bar_none W.rok W.ok hw re b)⟩⟩
end
end K16

set_option Elab.async false
set_option linter.all false
set_option maxRecDepth 100000
namespace K16
open PySem PySem.Spec PyProof.Rows L2 NB

/-! ### what is forced, bounds of any want in any plan -/
section
variable {P : Program} {w : World} {K : PySem.W.Frag} {mg : Str → Option Value} {base : Heap}
def spForced (C : Addr) : Sp := fun vs H Q _ => ∃ (x : Addr) (tops : List Int) (rs : List Rl), vs = [.ref x] ∧ PlanAt C H x tops rs ∧ (∀ q ∈ rs, RuleOk tops q) ∧ rs.length ≤ 40 ∧
  ∀ H' g L, Same H H' → H' g = some (.tup (sdR L)) → SdsAt H' L → (∀ s, s ∈ L.map (·.2) ↔ Frc tops rs s) → L.length ≤ 80 → Q (.ref g) H'
abbrev a_forced : Stmt := topS 45
abbrev n_forced : List Str := ["plan", "side"]
theorem sc_forced : FnScope n_forced ["plan"] (defScope a_forced) := ⟨rfl, rfl, rfl, by decide +kernel, rfl, by decide +kernel, by decide +kernel⟩
set_option maxHeartbeats 8000000 in
theorem ok_forced {f fRs fTu : Addr} {fd fdRs fdTu : FuncData} {k : Nat} {C : Addr} (F : Fun K "forced" "forced" a_forced f fd) (Rs : Kn P w K mg base 3 "rule_sides" ["plan"] (spRs C) fRs fdRs) (Tu : Kn P w K mg base 6 "turning" ["plan", "side"] (spTurn C) fTu fdTu)  (m_tuple : mg "tuple" = none) : FnOk P w K mg base CX0 (k + 7) f fd ["plan"] (spForced C) := by
  refine F.ok sc_forced (fun vs H Q E h => ?_) (fun cdv A outer s H vs Q E hr h => ?_)
  · obtain ⟨x, tops, rs, rfl, _⟩ := h
    rfl
  · obtain ⟨x, tops, rs, rfl, hp, rok, l40, q⟩ := h
    refine ⟨_, (pss_one (ps_ret (pe_callTy call_tuple_of (by rfl) m_tuple (by decide +kernel) (pa_cons (
        pe_lc (own := [("side", 1)]) (g := (gName 1)) (tt := (tTest (tOp (rNe0 K) (tCall (spTurn C) [] E0 (tCons (tVar 0) (tCons (tVar 1) tNil))) (tTup tNil)))) (te := (tVar 1)) rfl sc_forced.nd (pi_list (pe_kn Rs hr (by omega) (pa_cons (pv 0) pa_nil))) (blkOk_by (N := n_forced) (sc := defScope a_forced) (by decide +kernel))
          (fun _ _ _ _ _ => (pg_name (i := 1) sc_forced.nd rfl (.inl rfl) (hf := .inr rfl))) (fun _ _ _ _ _ => pts_one (pt_cmpR (op_ne0R hr.units0) (pe_kn Tu hr (by omega) (pa_cons (pv 0) (pa_cons (pv 1) pa_nil))) (pe_tup pa_nil) (nomark _))) (fun _ _ _ _ _ => (pv 1))) pa_nil)))), ?_⟩
    refine ⟨.ref x, rfl, x, tops, rs, rfl, hp, rok, l40, fun H1 l L s1 el hL mL lL => ⟨l, rfl, ⟨_, .inl (.inl el)⟩, fun D nD => ?_⟩⟩
    refine lc_it (walk_list (xs := sdR L)) (fun i H' => Same H1 H' ∧ ∃ L', H' D = some (.lst (sdR L')) ∧ SdsAt H' L' ∧ (∀ s, s ∈ L'.map (·.2) ↔ s ∈ (L.take i).map (·.2) ∧ Tn tops rs s) ∧ L'.length ≤ i) ⟨same_new nD, [], upd_same, (fun _ h => absurd h List.not_mem_nil), (fun s => by simp), Nat.le_refl _⟩ (fun i H' _ y => .inl (.inl (y.1 _ _ el))) (fun i v H2 H2' hi y z => ?_) (fun H2 y => ?_)
    · obtain ⟨s2, L', eD, hL', mL', lL'⟩ := y
      obtain ⟨rfl, gv⟩ := z
      obtain ⟨zz, ez, rfl⟩ := mapGet gv
      have hz := List.mem_of_getElem? ez
      obtain ⟨hr1, hr2⟩ := (mL zz.2).mp (List.mem_map.mpr ⟨zz, hz, rfl⟩)
      have ok : SideOk tops zz.2 := by
        obtain ⟨q', hq', h⟩ := hr1
        rcases h with e | e
        · rw [e]; exact (rok q' hq').1
        · rw [e]; exact (rok q' hq').2
      obtain ⟨o, eo⟩ := Option.ne_none_iff_exists'.mp hr2
      have lw : i < L.length := by simpa using hi
      have tk : ∀ s, s ∈ (L.take (i + 1)).map (·.2) ↔ s ∈ (L.take i).map (·.2) ∨ s = zz.2 := fun s => by
        rw [List.take_add_one, ez, List.map_append, List.mem_append]
        simp
      refine ⟨wipe_one, .ref x, rfl, .ref zz.1, rfl, x, zz.1, tops, rs, zz.2, o, rfl, hp.keep (.same (s1.trans s2)), rok, l40, (hL zz hz).keep (.same s2), ok, eo, fun H3 c L3 s3 ec hL3 ct lL3 => ⟨Nat.zero_le _, fun z0 nz0 => ?_⟩⟩
      have sz := s3.trans (same_new (o := HO.tup []) nz0)
      refine ⟨c, z0, _, rfl, rfl, .inl (.inl (same_new (o := HO.tup []) nz0 _ _ ec)), .inl (.inl upd_same), _, rfl, ?_⟩
      have eD4 := sz _ _ eD
      cases hc : (sdR L3).isEmpty with
      | true =>
        have nt : ¬ Tn tops rs zz.2 := fun h => (cto_tn ct eo).mpr h (by
          rw [List.isEmpty_iff] at hc
          have : L3 = [] := List.map_eq_nil_iff.mp hc
          rw [this]
          rfl)
        refine iteFa rfl ⟨s2.trans sz, L', eD4, hL'.keep (.same sz), fun s => ?_, by omega⟩
        rw [mL' s, tk s]
        constructor
        · rintro ⟨h1, h2⟩
          exact ⟨.inl h1, h2⟩
        · rintro ⟨h1 | h1, h2⟩
          · exact ⟨h1, h2⟩
          · exact absurd (h1 ▸ h2) nt
      | false =>
        have tn : Tn tops rs zz.2 := (cto_tn ct eo).mp fun e => by
          have e' : L3 = [] := List.map_eq_nil_iff.mp e
          rw [e'] at hc
          cases hc
        refine iteTr rfl ⟨_, rfl, _, eD4, by rw [List.length_map]; exact small1000 (by omega), same_over (s2.trans sz) nD, L' ++ [zz], by rw [upd_same]; simp [sdR], ((hL'.keep (.same sz)).keep (Keep.upd eD4)).snoc (((hL zz hz).keep (.same (s2.trans sz))).keep (Keep.upd eD4)), fun s => ?_, by rw [List.length_append]; simp only [List.length_cons, List.length_nil]; omega⟩
        rw [List.map_append, List.mem_append, mL' s, tk s]
        constructor
        · rintro (⟨h1, h2⟩ | h)
          · exact ⟨.inl h1, h2⟩
          · have : s = zz.2 := by simpa using h
            exact ⟨.inr this, this ▸ tn⟩
        · rintro ⟨h1 | h1, h2⟩
          · exact .inl ⟨h1, h2⟩
          · exact .inr (by simp [h1])
    · obtain ⟨s2, L', eD, hL', mL', lL'⟩ := y
      rw [List.length_map] at mL' lL'
      rw [List.take_length] at mL'
      refine ⟨D, _, rfl, .inl ⟨.inl (.inl eD), fun r nr => ?_⟩⟩
      have sr := same_new (o := HO.tup (sdR L')) nr
      refine q _ r L' ((s1.trans s2).trans sr) upd_same (hL'.keep (.same sr)) (fun s => ?_) (by omega)
      rw [mL' s, mL s]
      constructor
      · rintro ⟨⟨h1, _⟩, h2⟩
        exact ⟨h1, h2⟩
      · rintro ⟨h1, h2⟩
        refine ⟨⟨h1, ?_⟩, h2⟩
        obtain ⟨o, eo, _⟩ := h2
        rw [eo]
        simp
def spBoA (K : PySem.W.Frag) (C : Addr) : Sp := fun vs H Q _ => ∃ (x g : Addr) (tops : List Int) (rs : List Rl) (Ls : List (Addr × Sd)), vs = [.ref x, .ref g] ∧ Wnt K C H x g tops rs Ls ∧ Ls.length ≤ 100 ∧
  (∀ H' h p lows highs, Same H H' → Had tops rs Ls → H' h = some (.tup [.str "bounds", .ref p]) → BndAt H' p lows highs → Fol tops rs (fun s => s ∈ Ls.map (·.2) ∨ Frc tops rs s) lows highs → Q (.ref h) H') ∧ ∀ H' h h', Same H H' → H' h = some (.tup [.str "none", .ref h']) → (BarAt H' h' tops rs Ls ∨ RgP H' h' tops rs) → ¬ Had tops rs Ls → Q (.ref h) H'
abbrev a_bounds : Stmt := topS 46
abbrev n_bounds : List Str := ["plan", "want", "paper"]
theorem sc_bounds : FnScope n_bounds ["plan", "want"] (defScope a_bounds) := ⟨rfl, rfl, rfl, by decide +kernel, rfl, by decide +kernel, by decide +kernel⟩
set_option maxHeartbeats 8000000 in
theorem ok_bounds {f fNp fFo fFl : Addr} {fd fdNp fdFo fdFl : FuncData} {k : Nat} {C : Addr} {ed : Addr} (F : FunD K "bounds" "bounds" (defArgs a_bounds) (defBody a_bounds) (defScope a_bounds) [V.ref ed] [] f fd) (Np : Kn P w K mg base 8 "none_paper" ["plan", "want"] (spNoneA K C) fNp fdNp) (Fo : Kn P w K mg base 7 "forced" ["plan"] (spForced C) fFo fdFo) (Fl : Kn P w K mg base 5 "follows" ["plan", "want"] (spFol K C) fFl fdFl)   : FnOk P w K mg base CX0 (k + 9) f fd ["plan", "want"] (spBoA K C) := by
  refine F.ok sc_bounds (fun vs H Q E h => ?_) (fun cdv A outer s H vs Q E hr h => ?_)
  · obtain ⟨x, g, tops, rs, Ls, rfl, _⟩ := h
    rfl
  · obtain ⟨x, g, tops, rs, Ls, rfl, W, l100, q, q1⟩ := h
    refine ⟨_, (pss_cons (ps_set (i := 2) sc_bounds.nd rfl (.inl rfl) (pe_kn Np hr (by omega) (pa_cons (pv 0) (pa_cons (pv 1) pa_nil))))
      (pss_cons (ps_if (pt_cmpR op_notN (pv 2) pe_non (nomark _)) (pss_one (ps_ret (pe_tup (pa_cons pe_str (pa_cons (pv 2) pa_nil))))) pss_nil)
      (pss_one (ps_ret (pe_tup (pa_cons pe_str (pa_cons (pe_kn Fl hr (by omega) (pa_cons (pv 0) (pa_cons (pe_op (r := rCatA K) op_catA (pv 1) (pe_kn Fo hr (by omega) (pa_cons (pv 0) pa_nil))) pa_nil))) pa_nil))))))), ?_⟩
    refine ⟨.ref x, rfl, .ref g, rfl, x, g, tops, rs, Ls, rfl, W, fun H1 s1 had => ?_, fun H1 h' s1 bar nhad => ?_⟩
    rotate_left
    · refine ⟨_, rfl, rfl, _, rfl, iteTr rfl ⟨_, rfl, (show 2 ≤ sizeLine by decide), fun h nh => ?_⟩⟩
      have sh := same_new (o := HO.tup [V.str "none", V.ref h']) nh
      exact q1 _ h h' (s1.trans sh) upd_same (bar.imp (fun z => z.same sh) (fun z => z.same sh)) nhad
    have W1 := W.same s1
    refine ⟨_, rfl, rfl, _, rfl, iteFa rfl ⟨.ref x, rfl, .ref g, rfl, .ref x, rfl, x, tops, rs, rfl, W1.hp, W.rok, W.l40, fun H2 f L s2 ef hL mL lL => ?_⟩⟩
    have W2 := W1.same s2
    refine cat_sq W2.eg (.inl (.inl ef)) (by rw [List.length_map, List.length_map]; omega) fun c H3 s3 ec => ?_
    have W3 := W2.same s3
    have eL : sdR Ls ++ sdR L = sdR (Ls ++ L) := (List.map_append ..).symm
    rw [eL] at ec
    refine ⟨x, c, tops, rs, Ls ++ L, rfl, ⟨W3.hp, ec, fun z hz => ?_, fun z hz => ?_, W.rok, W.l40, by rw [List.length_append]; omega, W.l12, W.pl⟩, fun H4 p lows highs s4 np hb F => ⟨(show 2 ≤ sizeLine by decide), fun h nh => ?_⟩⟩
    · rcases List.mem_append.mp hz with h | h
      · exact W3.hL z h
      · exact (hL z h).keep (.same s3)
    · rcases List.mem_append.mp hz with h | h
      · exact W.okS z h
      · exact frc_ok W.rok ((mL z.2).mp (List.mem_map.mpr ⟨z, h, rfl⟩))
    · have sh := same_new (o := HO.tup [V.str "bounds", V.ref p]) nh
      refine q _ h p lows highs ((((s1.trans s2).trans s3).trans s4).trans sh) had upd_same (hb.keep (.same sh)) (F.iff fun s => ?_)
      rw [List.map_append, List.mem_append, mL s]
end
end K16

set_option Elab.async false
set_option linter.all false
set_option maxRecDepth 100000
namespace K16
open PySem PySem.Spec PyProof.Rows L2 NB

/-! ### wiped slots -/
theorem wipe_get (σ : L2.St) : ∀ (vs : List Nat) (j : Nat), (wipe σ vs)[j]? = if j ∈ vs then σ[j]?.map (fun _ => none) else σ[j]?
  | [], j => by rw [if_neg List.not_mem_nil]; rfl
  | v :: vs, j => by
    show ((wipe σ vs).set v none)[j]? = _
    rw [List.getElem?_set, wipe_get σ vs j, wipe_length]
    by_cases c : v = j
    · subst c
      rw [if_pos rfl, if_pos List.mem_cons_self]
      by_cases d : v < σ.length
      · rw [if_pos d, List.getElem?_eq_getElem d]
        rfl
      · rw [if_neg d, List.getElem?_eq_none (by omega)]
        rfl
    · rw [if_neg c]
      have : j ∈ v :: vs ↔ j ∈ vs := by rw [List.mem_cons]; exact ⟨fun h => h.elim (fun e => absurd e.symm c) id, .inr⟩
      by_cases d : j ∈ vs
      · rw [if_pos d, if_pos (this.mpr d)]
      · rw [if_neg d, if_neg (fun h => d (this.mp h))]
theorem wipe_any {σ τ : L2.St} {vs : List Nat} (l : τ.length = σ.length) (h : ∀ j, j ∉ vs → τ[j]? = σ[j]?) : wipe τ vs = wipe σ vs := by
  refine List.ext_getElem? fun j => ?_
  rw [wipe_get, wipe_get]
  by_cases d : j ∈ vs
  · rw [if_pos d, if_pos d]
    by_cases e : j < σ.length
    · rw [List.getElem?_eq_getElem e, List.getElem?_eq_getElem (by omega)]
      rfl
    · rw [List.getElem?_eq_none (by omega), List.getElem?_eq_none (by omega)]
  · rw [if_neg d, if_neg d, h j d]

theorem wipe_two {σ : L2.St} {i j : Nat} {a b : Option V} {m n : Str} : wipe (((wipe σ ([(m, i), (n, j)].map (·.2))).set i a).set j b) ([(m, i), (n, j)].map (·.2)) = wipe σ ([(m, i), (n, j)].map (·.2)) := by
  refine wipe_any (by rw [List.length_set, List.length_set, wipe_length]) fun k hk => ?_
  have h1 : i ≠ k := fun e => hk (by simp [e])
  have h2 : j ≠ k := fun e => hk (by simp [e])
  rw [List.getElem?_set_ne h2, List.getElem?_set_ne h1, wipe_get, if_neg hk]
theorem wipe_three {σ : L2.St} {i j l : Nat} {a b c : Option V} {m n o : Str} : wipe ((((wipe σ ([(o, l), (m, i), (n, j)].map (·.2))).set i a).set j b).set l c) ([(o, l), (m, i), (n, j)].map (·.2)) = wipe σ ([(o, l), (m, i), (n, j)].map (·.2)) := by
  refine wipe_any (by rw [List.length_set, List.length_set, List.length_set, wipe_length]) fun k hk => ?_
  have h1 : i ≠ k := fun e => hk (by simp [e])
  have h2 : j ≠ k := fun e => hk (by simp [e])
  have h3 : l ≠ k := fun e => hk (by simp [e])
  rw [List.getElem?_set_ne h3, List.getElem?_set_ne h2, List.getElem?_set_ne h1, wipe_get, if_neg hk]
theorem wipe_seq3 {σ : L2.St} {i j l : Nat} {a b c : Option V} {m n o : Str} : wipe ((((wipe σ ([(m, i), (n, j), (o, l)].map (·.2))).set i a).set j b).set l c) ([(m, i), (n, j), (o, l)].map (·.2)) = wipe σ ([(m, i), (n, j), (o, l)].map (·.2)) := by
  refine wipe_any (by rw [List.length_set, List.length_set, List.length_set, wipe_length]) fun k hk => ?_
  have h1 : i ≠ k := fun e => hk (by simp [e])
  have h2 : j ≠ k := fun e => hk (by simp [e])
  have h3 : l ≠ k := fun e => hk (by simp [e])
  rw [List.getElem?_set_ne h3, List.getElem?_set_ne h2, List.getElem?_set_ne h1, wipe_get, if_neg hk]

/-! ### steps that are bound: mathematics -/
section
variable {tops : List Int} {rs : List Rl}
theorem led_two (rok : ∀ q ∈ rs, RuleOk tops q) (pl : ∀ i, i < tops.length → 0 ≤ plc tops i) {a u : Sd} (oa : SideOk tops a) (ou : SideOk tops u) (ea : ∃ g ∈ goods tops rs, inB g a = true) (eu : ∃ g ∈ goods tops rs, inB g u = true) (no : ∀ g ∈ goods tops rs, inB g a = true → inB g u = false) : ∃ z, Rea tops rs (· = a) z ∧ barsB tops z u = true := by
  have eg := ea
  obtain ⟨ga, hga, ia⟩ := eg
  have okS : ∀ s, (s = a ∨ s = u) → SideOk tops s := fun s h => h.elim (fun e => e ▸ oa) (fun e => e ▸ ou)
  have self : ∀ {x z : Sd}, SideOk tops x → (∃ g ∈ goods tops rs, inB g x = true) → Rea tops rs (· = x) z → barsB tops z x = true → False := fun {x z} ox ⟨g, hg, ix⟩ r b => by
    have iz := r.in' rok (fun t ht => by rw [ht]; exact ox) hg (fun t ht => by rw [ht]; exact ix)
    rw [bars_out hg (r.ok rok (fun t ht => by rw [ht]; exact ox)) ox b iz] at ix
    cases ix
  rcases some_goodS rok pl hga (S := fun s => s = a ∨ s = u) okS with ⟨g, hg, h⟩ | ⟨w, z, hw, hz, b⟩
  · have := no g hg (h a (.inl rfl))
    rw [h u (.inr rfl)] at this
    cases this
  · obtain ⟨s, hs, rz⟩ := hz.one
    rcases hs with es | es <;> rcases hw with ew | ew
    · rw [es] at rz
      rw [ew] at b
      exact (self oa ea rz b).elim
    · rw [es] at rz
      rw [ew] at b
      exact ⟨z, rz, b⟩
    · rw [es] at rz
      rw [ew] at b
      exact rz.turn (bars_symm b)
    · rw [es] at rz
      rw [ew] at b
      exact (self ou eu rz b).elim
theorem fol_hi (rok : ∀ q ∈ rs, RuleOk tops q) (pl : ∀ i, i < tops.length → 0 ≤ plc tops i) {a : Sd} (oa : SideOk tops a) {lows highs : List Int} (F : Fol tops rs (· ∈ [a]) lows highs) (ea : ∃ g ∈ goods tops rs, inB g a = true) {j : Nat} (hj : j < tops.length) {k : Int} (k0 : 0 ≤ k)
    (ex : ∃ g ∈ goods tops rs, k < plc g j) (all : ∀ g ∈ goods tops rs, inB g a = true → plc g j ≤ k) : plc highs j ≤ k := by
  obtain ⟨g, hg, lt⟩ := ex
  have b := (goods_mem.mp hg).1.2 j hj
  obtain ⟨z, rz, bz⟩ := led_two rok pl oa (u := (j, true, k + 1)) (SideOk.mk' hj (by omega) (by omega)) ea ⟨g, hg, (inFr (by rw [goods_len hg]; exact hj)).mpr (by omega)⟩ (fun g' hg' i => by
    have := all g' hg' i
    cases e : inB g' (j, true, k + 1) with
    | false => rfl
    | true =>
      have := (inFr (by rw [goods_len hg']; exact hj)).mp e
      omega)
  obtain ⟨q, rfl, lq⟩ := bars_from (rz.ok rok (fun s h => by rw [h]; exact oa)) ⟨by omega, by omega⟩ bz
  have := F.h1 j q (rz.mono fun s h => by rw [h]; exact List.mem_singleton.mpr rfl)
  omega
theorem fol_lo (rok : ∀ q ∈ rs, RuleOk tops q) (pl : ∀ i, i < tops.length → 0 ≤ plc tops i) {a : Sd} (oa : SideOk tops a) {lows highs : List Int} (F : Fol tops rs (· ∈ [a]) lows highs) (ea : ∃ g ∈ goods tops rs, inB g a = true) {j : Nat} (hj : j < tops.length) {k : Int} (k0 : k ≤ plc tops j)
    (ex : ∃ g ∈ goods tops rs, plc g j < k) (all : ∀ g ∈ goods tops rs, inB g a = true → k ≤ plc g j) : k ≤ plc lows j := by
  obtain ⟨g, hg, lt⟩ := ex
  have b := (goods_mem.mp hg).1.2 j hj
  obtain ⟨z, rz, bz⟩ := led_two rok pl oa (u := (j, false, k - 1)) (SideOk.mk' hj (by omega) (by omega)) ea ⟨g, hg, (inTo (by rw [goods_len hg]; exact hj)).mpr (by omega)⟩ (fun g' hg' i => by
    have := all g' hg' i
    cases e : inB g' (j, false, k - 1) with
    | false => rfl
    | true =>
      have := (inTo (by rw [goods_len hg']; exact hj)).mp e
      omega)
  obtain ⟨q, rfl, lq⟩ := bars_to (rz.ok rok (fun s h => by rw [h]; exact oa)) (by omega) bz
  have := F.l1 j q (rz.mono fun s h => by rw [h]; exact List.mem_singleton.mpr rfl)
  omega
end
/-- what the deed of a step draws along, by what follows of its two parts -/
def strJ (l1 h1 l2 h2 : List Int) (j : Nat) : List (List Int) := if plc h1 j < plc l2 j then [[(j : Int), plc h1 j, plc l2 j]] else if plc h2 j < plc l1 j then [[(j : Int), plc l1 j, plc h2 j]] else []
def strF (n : Nat) (l1 h1 l2 h2 : List Int) : List (List Int) := (List.range n).flatMap (strJ l1 h1 l2 h2)
theorem strF_len (n : Nat) (l1 h1 l2 h2 : List Int) : (strF n l1 h1 l2 h2).length ≤ n := by
  unfold strF
  induction n with
  | zero => exact Nat.le_refl _
  | succ n ih =>
    rw [List.range_succ, List.flatMap_append, List.length_append]
    have : ([n].flatMap (strJ l1 h1 l2 h2)).length ≤ 1 := by
      rw [List.flatMap_cons, List.flatMap_nil, List.append_nil]
      unfold strJ
      split
      · exact Nat.le_refl _
      · split
        · exact Nat.le_refl _
        · exact Nat.zero_le _
    omega
/-- the steps of a thing that part all good ones as these truths do -/
def prt (G : List (List Int)) (j : Nat) (k : Int) : List Bool := G.map fun g => decide (k < plc g j)
def onL (G : List (List Int)) (m : List Bool) (j t : Nat) : List Nat := (List.range t).filter fun k => decide (prt G j (k : Int) = m)
/-- the law's own stretch of a thing -/
def lawJ (G : List (List Int)) (i : Nat) (p : Int) (j t : Nat) : List (List Int) :=
  (if onL G (prt G i p) j t = [] then [] else [[(j : Int), ((onL G (prt G i p) j t).headD 0 : Nat), ((onL G (prt G i p) j t).getLastD 0 : Nat) + 1]]) ++
  (if onL G ((prt G i p).map not) j t = [] then [] else [[(j : Int), ((onL G ((prt G i p).map not) j t).getLastD 0 : Nat) + 1, ((onL G ((prt G i p).map not) j t).headD 0 : Nat)]])
theorem rng_filter (a b : Nat) : ∀ t : Nat, (List.range t).filter (fun k => decide (a ≤ k ∧ k < b)) = List.range' a (min b t - a)
  | 0 => by simp
  | t + 1 => by
    rw [List.range_succ, List.filter_append, rng_filter a b t]
    by_cases c : a ≤ t ∧ t < b
    · have e1 : min b t = t := by omega
      have e2 : min b (t + 1) - a = (t - a) + 1 := by omega
      rw [e1, e2, List.range'_concat]
      simp only [List.filter_cons, List.filter_nil, decide_eq_true c, if_true]
      congr 2
      omega
    · have e2 : min b (t + 1) - a = min b t - a := by omega
      rw [e2]
      simp only [List.filter_cons, List.filter_nil, decide_eq_false c, Bool.false_eq_true, if_false, List.append_nil]
theorem prt_eq {G : List (List Int)} {i j : Nat} {k p : Int} : prt G j k = prt G i p ↔ ∀ g ∈ G, (k < plc g j ↔ p < plc g i) := by
  unfold prt
  rw [List.map_inj_left]
  exact ⟨fun h g hg => by simpa using h g hg, fun h g hg => by simpa using h g hg⟩
theorem prt_ne {G : List (List Int)} {i j : Nat} {k p : Int} : prt G j k = (prt G i p).map not ↔ ∀ g ∈ G, (k < plc g j ↔ ¬ p < plc g i) := by
  unfold prt
  rw [List.map_map, List.map_inj_left]
  constructor
  · intro h g hg
    have := h g hg
    simp only [Function.comp] at this
    by_cases c : p < plc g i
    · rw [decide_eq_true c] at this
      have := of_decide_eq_false this
      exact ⟨fun x => absurd x this, fun x => absurd c x⟩
    · rw [decide_eq_false c] at this
      exact ⟨fun _ => c, fun _ => of_decide_eq_true this⟩
  · intro h g hg
    have := h g hg
    simp only [Function.comp]
    by_cases c : p < plc g i
    · rw [decide_eq_true c]
      exact decide_eq_false fun x => (this.mp x) c
    · rw [decide_eq_false c]
      exact decide_eq_true (this.mpr c)
section
variable {tops : List Int} {rs : List Rl}
theorem str_law (rok : ∀ q ∈ rs, RuleOk tops q) (pl : ∀ i, i < tops.length → 0 ≤ plc tops i) {i : Nat} {p : Int} (hi : i < tops.length) (p0 : 0 ≤ p) (p1 : p < plc tops i) {l1 h1 l2 h2 : List Int} (F1 : Fol tops rs (· ∈ [(i, false, p)]) l1 h1) (F2 : Fol tops rs (· ∈ [(i, true, p + 1)]) l2 h2)
    (e1 : ∃ g ∈ goods tops rs, plc g i ≤ p) (e2 : ∃ g ∈ goods tops rs, p < plc g i) {j : Nat} (hj : j < tops.length) : lawJ (goods tops rs) i p j (plc tops j).toNat = strJ l1 h1 l2 h2 j := by
  have o1 : SideOk tops (i, false, p) := SideOk.mk' hi p0 (by omega)
  have o2 : SideOk tops (i, true, p + 1) := SideOk.mk' hi (by omega) (by omega)
  have in1 : ∀ g ∈ goods tops rs, (inB g (i, false, p) = true ↔ plc g i ≤ p) := fun g hg => inTo (by rw [goods_len hg]; exact hi)
  have in2 : ∀ g ∈ goods tops rs, (inB g (i, true, p + 1) = true ↔ p < plc g i) := fun g hg => (inFr (by rw [goods_len hg]; exact hi)).trans ⟨fun h => by omega, fun h => by omega⟩
  have s1 : ∀ g ∈ goods tops rs, plc g i ≤ p → plc l1 j ≤ plc g j ∧ plc g j ≤ plc h1 j := fun g hg h => F1.sound rok (fun s hs => by rw [List.mem_singleton.mp hs]; exact o1) hg (fun s hs => by rw [List.mem_singleton.mp hs]; exact (in1 g hg).mpr h) hj
  have s2 : ∀ g ∈ goods tops rs, p < plc g i → plc l2 j ≤ plc g j ∧ plc g j ≤ plc h2 j := fun g hg h => F2.sound rok (fun s hs => by rw [List.mem_singleton.mp hs]; exact o2) hg (fun s hs => by rw [List.mem_singleton.mp hs]; exact (in2 g hg).mpr h) hj
  have ea1 : ∃ g ∈ goods tops rs, inB g (i, false, p) = true := by
    obtain ⟨g, hg, h⟩ := e1
    exact ⟨g, hg, (in1 g hg).mpr h⟩
  have ea2 : ∃ g ∈ goods tops rs, inB g (i, true, p + 1) = true := by
    obtain ⟨g, hg, h⟩ := e2
    exact ⟨g, hg, (in2 g hg).mpr h⟩
  obtain ⟨ga, hga, pa⟩ := e1
  obtain ⟨gb, hgb, pb⟩ := e2
  have ba := (goods_mem.mp hga).1.2 j hj
  have bb := (goods_mem.mp hgb).1.2 j hj
  have sa := s1 ga hga pa
  have sb := s2 gb hgb pb
  have f0 := F1.lz j hj
  have f1 := F1.hz j hj
  have f2 := F2.lz j hj
  have f3 := F2.hz j hj
  -- the steps that part likewise
  have on : ∀ k : Int, 0 ≤ k → (prt (goods tops rs) j k = prt (goods tops rs) i p ↔ plc h1 j ≤ k ∧ k < plc l2 j) := fun k k0 => by
    rw [prt_eq]
    constructor
    · intro h
      refine ⟨fol_hi rok pl o1 F1 ea1 hj k0 ⟨gb, hgb, (h gb hgb).mpr pb⟩ fun g hg ig => ?_, ?_⟩
      · have := (h g hg)
        have := (in1 g hg).mp ig
        omega
      · have := fol_lo rok pl o2 F2 ea2 hj (k := k + 1) (by have := (h gb hgb).mpr pb; omega) ⟨ga, hga, by have := (h ga hga); omega⟩ fun g hg ig => by
          have := (h g hg).mpr ((in2 g hg).mp ig)
          omega
        omega
    · rintro ⟨x, y⟩ g hg
      by_cases c : p < plc g i
      · have := (s2 g hg c).1
        exact ⟨fun _ => c, fun _ => by omega⟩
      · have := (s1 g hg (by omega)).2
        exact ⟨fun _ => by omega, fun z => absurd z c⟩
  have bk : ∀ k : Int, 0 ≤ k → (prt (goods tops rs) j k = (prt (goods tops rs) i p).map not ↔ plc h2 j ≤ k ∧ k < plc l1 j) := fun k k0 => by
    rw [prt_ne]
    constructor
    · intro h
      refine ⟨fol_hi rok pl o2 F2 ea2 hj k0 ⟨ga, hga, (h ga hga).mpr (by omega)⟩ fun g hg ig => ?_, ?_⟩
      · have := (h g hg)
        have := (in2 g hg).mp ig
        omega
      · have := fol_lo rok pl o1 F1 ea1 hj (k := k + 1) (by have := (h ga hga).mpr (by omega); omega) ⟨gb, hgb, by have := (h gb hgb); omega⟩ fun g hg ig => by
          have := (h g hg).mpr (by have := (in1 g hg).mp ig; omega)
          omega
        omega
    · rintro ⟨x, y⟩ g hg
      by_cases c : p < plc g i
      · have := (s2 g hg c).2
        exact ⟨fun _ => by omega, fun z => absurd c z⟩
      · have := (s1 g hg (by omega)).1
        exact ⟨fun _ => c, fun _ => by omega⟩
  have conv : ∀ (m : List Bool) (a b : Int), 0 ≤ a → b ≤ plc tops j → (∀ k : Int, 0 ≤ k → (prt (goods tops rs) j k = m ↔ a ≤ k ∧ k < b)) → onL (goods tops rs) m j (plc tops j).toNat = List.range' a.toNat (b.toNat - a.toNat) := fun m a b a0 b1 h => by
    have e : (fun k : Nat => decide (prt (goods tops rs) j (k : Int) = m)) = fun k : Nat => decide (a.toNat ≤ k ∧ k < b.toNat) := by
      funext k
      have := h k (by omega)
      exact decide_eq_decide.mpr (this.trans ⟨fun z => by omega, fun z => by omega⟩)
    unfold onL
    rw [e, rng_filter, show min b.toNat (plc tops j).toNat = b.toNat by omega]
  have c1 := conv _ _ _ (by omega : 0 ≤ plc h1 j) (by omega) on
  have c2 := conv _ _ _ (by omega : 0 ≤ plc h2 j) (by omega) bk
  have hd : ∀ a n : Nat, (List.range' a (n + 1)).headD 0 = a := fun a n => rfl
  have lst : ∀ a n : Nat, (List.range' a (n + 1)).getLastD 0 = a + n := fun a n => by
    rw [List.range'_concat, List.getLastD_concat]
    omega
  have nn : ∀ a n : Nat, List.range' a (n + 1) ≠ [] := fun a n => by
    rw [List.range'_succ]
    exact List.cons_ne_nil _ _
  unfold lawJ strJ
  rw [c1, c2]
  by_cases d1 : plc h1 j < plc l2 j
  · have d2 : ¬ plc h2 j < plc l1 j := by omega
    rw [if_pos d1, show (plc l1 j).toNat - (plc h2 j).toNat = 0 by omega, show (plc l2 j).toNat - (plc h1 j).toNat = ((plc l2 j).toNat - (plc h1 j).toNat - 1) + 1 by omega, if_neg (nn _ _), if_pos (show List.range' (plc h2 j).toNat 0 = [] from rfl), List.append_nil, hd, lst]
    congr 3
    · omega
    · congr 1
      omega
  · rw [if_neg d1, show (plc l2 j).toNat - (plc h1 j).toNat = 0 by omega, if_pos (show List.range' (plc h1 j).toNat 0 = [] from rfl), List.nil_append]
    by_cases d2 : plc h2 j < plc l1 j
    · rw [if_pos d2, show (plc l1 j).toNat - (plc h2 j).toNat = ((plc l1 j).toNat - (plc h2 j).toNat - 1) + 1 by omega, if_neg (nn _ _), hd, lst]
      congr 3
      · omega
      · congr 1
        omega
    · rw [if_neg d2, show (plc l1 j).toNat - (plc h2 j).toNat = 0 by omega, if_pos (show List.range' (plc h2 j).toNat 0 = [] from rfl)]
end

/-! ### sides that bar others -/
section
variable {tops : List Int} {rs : List Rl}
end
theorem fol_stand {tops : List Int} {rs : List Rl} {S : Sd → Prop} (rok : ∀ q ∈ rs, RuleOk tops q) {lows highs : List Int} (F : Fol tops rs S lows highs) (e : ∀ i, i < tops.length → plc lows i = plc highs i) : lows ∈ goods tops rs := by
  have ll := F.ll
  refine goods_mem.mpr ⟨⟨ll, fun j hj => ⟨F.lz j hj, by have := F.hz j hj; have := e j hj; omega⟩⟩, fun q hq => ?_⟩
  have key : ∀ {a b : Sd}, SideOk tops a → SideOk tops b → (∀ t, barsB tops t a = true → b ∈ ledL tops rs t) → inB lows a = true ∨ inB lows b = true := fun {a b} oa ob hl => by
    by_cases c : inB lows a = true
    · exact .inl c
    · right
      have lt := oa.lt
      have bd := oa.bd
      have ei := e a.1 lt
      have hb : Rea tops rs S b := by
        obtain ⟨i, w, p⟩ := a
        have lt' : i < tops.length := lt
        have bd' : 0 ≤ p ∧ p ≤ plc tops i := bd
        have ei' : plc lows i = plc highs i := ei
        cases w with
        | true =>
          have c' : ¬ p ≤ plc lows i := fun h => c ((inFr (by omega)).mpr h)
          rcases F.h0 i lt' with h | h
          · omega
          · exact Rea.step h (hl _ (bar_tf (by omega)))
        | false =>
          have c' : ¬ plc lows i ≤ p := fun h => c ((inTo (by omega)).mpr h)
          rcases F.l0 i lt' with h | h
          · omega
          · exact Rea.step h (hl _ (bar_ft (by omega)))
      have lb := ob.lt
      exact F.has (by omega) hb ⟨Int.le_refl _, by have := e b.1 lb; omega⟩
  have ok := rok q hq
  have := key ok.1 ok.2 fun t ht => led_iff.mpr ⟨q, hq, .inl ⟨ht, rfl⟩⟩
  unfold kept
  rcases this with h | h <;> rw [h] <;> simp

/-! ### a good standing that has a want -/
theorem had_pairs {tops : List Int} {rs : List Rl} (rok : ∀ q ∈ rs, RuleOk tops q) (pl : ∀ i, i < tops.length → 0 ≤ plc tops i) {st : List Int} (hg : st ∈ goods tops rs) {S : Sd → Prop} (hS : ∀ s, S s → SideOk tops s)
    (h : ∀ s w, S s → S w → ∃ g ∈ goods tops rs, inB g s = true ∧ inB g w = true) : ∃ g ∈ goods tops rs, ∀ s, S s → inB g s = true := by
  refine (some_goodS rok pl hg hS).resolve_right fun ⟨w, z, hw, hz, b⟩ => ?_
  obtain ⟨s, hs, rz⟩ := hz.one
  obtain ⟨g, hg, is, iw⟩ := h s w hs hw
  have iz : inB g z = true := rz.in' rok (fun t ht => by rw [ht]; exact hS s hs) hg (fun t ht => by rw [ht]; exact is)
  rw [bars_out hg (hz.ok rok hS) (hS w hw) b iz] at iw
  cases iw
theorem fol_mono {tops : List Int} {rs : List Rl} {S T : Sd → Prop} (hST : ∀ s, S s → T s) {a b c d : List Int} (F : Fol tops rs S a b) (G : Fol tops rs T c d) {i : Nat} (hi : i < tops.length) : plc a i ≤ plc c i := by
  rcases F.l0 i hi with h | h
  · have := G.lz i hi
    omega
  · exact G.l1 i _ (h.mono hST)
/-- the least place that what follows tells is had together with the want -/
theorem least_any {tops : List Int} {rs : List Rl} (rok : ∀ q ∈ rs, RuleOk tops q) (pl : ∀ i, i < tops.length → 0 ≤ plc tops i) {S : Sd → Prop} (hS : ∀ s, S s → SideOk tops s) (fS : ∀ s, Frc tops rs s → S s) {st : List Int} (hst : st ∈ goods tops rs) (ist : ∀ s, S s → inB st s = true) {lows highs : List Int} (F : Fol tops rs S lows highs) {i : Nat} (li : i < tops.length) :
    ∃ g ∈ goods tops rs, ∀ s, (S s ∨ s = (i, false, plc lows i)) → inB g s = true := by
  have cr := F.cross rok hS hst ist i li
  have z0 := F.lz i li
  have z1 := F.hz i li
  have okw : SideOk tops (i, false, plc lows i) := SideOk.mk' li z0 (by omega)
  have lti : ∀ g ∈ goods tops rs, (inB g (i, false, plc lows i) = true ↔ plc g i ≤ plc lows i) := fun g hg => inTo (by rw [goods_len hg]; exact li)
  obtain ⟨a, b, F0⟩ := fol_ex rok pl (S := Frc tops rs) (fun s h => frc_ok rok h)
  obtain ⟨g0, hg0, e0⟩ := least_ex rok pl hst F0 li
  have le0 := fol_mono fS F0 F li
  have h0 : inB g0 (i, false, plc lows i) = true := (lti g0 hg0).mpr (by omega)
  have one : ∀ s, S s → ∃ g ∈ goods tops rs, inB g s = true ∧ inB g (i, false, plc lows i) = true := fun s hs => by
    refine Classical.byContradiction fun no => ?_
    obtain ⟨z, rz, bz⟩ := led_two rok pl (hS s hs) okw ⟨st, hst, ist s hs⟩ ⟨g0, hg0, h0⟩ fun g hg ig => by
      cases e : inB g (i, false, plc lows i) with
      | false => rfl
      | true => exact absurd ⟨g, hg, ig, e⟩ no
    obtain ⟨q, rfl, lq⟩ := bars_to (rz.ok rok (fun t h => by rw [h]; exact hS s hs)) z0 bz
    have := F.l1 i q (rz.mono fun t h => by rw [h]; exact hs)
    omega
  refine had_pairs rok pl hst (S := fun s => S s ∨ s = (i, false, plc lows i)) (fun s h => h.elim (hS s) (fun e => e ▸ okw)) fun s w hs hw => ?_
  rcases hs with hs | rfl <;> rcases hw with hw | rfl
  · exact ⟨st, hst, ist s hs, ist w hw⟩
  · exact one s hs
  · obtain ⟨g, hg, h1, h2⟩ := one w hw
    exact ⟨g, hg, h2, h1⟩
  · exact ⟨g0, hg0, h0, h0⟩
section
variable {P : Program} {w : World} {K : PySem.W.Frag} {mg : Str → Option Value} {base : Heap}
def spAgX (K : PySem.W.Frag) (C CN : Addr) : Sp := fun vs H Q E => ∃ (x g : Addr) (tops : List Int) (rs : List Rl) (Ls : List (Addr × Sd)), vs = [.ref x, .ref g] ∧ Wnt K C H x g tops rs Ls ∧ Ls.length ≤ 100 ∧
  (∀ H' p n, Same H H' → Had tops rs Ls → H' p = some (.tup (n.map V.int)) → n ∈ goods tops rs → (∀ s ∈ Ls.map (·.2), inB n s = true) → Q (.ref p) H') ∧
  ∀ H' d h, Same H H' → H d = none → ¬ Had tops rs Ls → H' d = some (.xd [("paper", .ref h)]) → (BarAt H' h tops rs Ls ∨ RgP H' h tops rs) → E (.ref CN) (some d) H'
abbrev a_a_good : Stmt := topS 47
abbrev n_a_good : List Str := ["plan", "want", "paper", "held", "thing", "low", "high"]
theorem sc_a_good : FnScope n_a_good ["plan", "want"] (defScope a_a_good) := ⟨rfl, rfl, rfl, by decide +kernel, rfl, by decide +kernel, by decide +kernel⟩
set_option maxHeartbeats 8000000 in
theorem ok_a_good {f fNp fFo fFl : Addr} {fd fdNp fdFo fdFl : FuncData} {k : Nat} {C CN fN : Addr} {fdN : FuncData} {ed : Addr} (F : FunD K "a_good" "a_good" (defArgs a_a_good) (defBody a_a_good) (defScope a_a_good) [V.ref ed] [] f fd) (Np : Kn P w K mg base 8 "none_paper" ["plan", "want"] (spNoneA K C) fNp fdNp) (Fo : Kn P w K mg base 7 "forced" ["plan"] (spForced C) fFo fdFo) (Fl : Kn P w K mg base 5 "follows" ["plan", "want"] (spFol K C) fFl fdFl) (T : PlanTxt K mg C) (TN : ExT K mg "NoGood" "paper" CN fN fdN) (GN : FnOk P w K mg base CX0 1 fN fdN ["self", "paper"] (spXI CN "paper")) (m_len : mg "len" = none) (m_range : mg "range" = none) (m_tuple : mg "tuple" = none) : FnOk P w K mg base (L2.CX P w) (k + 9) f fd ["plan", "want"] (spAgX K C CN) := by
  refine F.ok (CX := L2.CX P w) sc_a_good (fun vs H Q E h => ?_) (fun cdv A outer s H vs Q E hr h => ?_)
  · obtain ⟨x, g, tops, rs, Ls, rfl, _⟩ := h
    rfl
  · obtain ⟨x, g, tops, rs, Ls, rfl, W, l100, q, qE⟩ := h
    refine ⟨_, (pss_cons (ps_set (i := 2) sc_a_good.nd rfl (.inl rfl) (pe_kn Np hr (by omega) (pa_cons (pv 0) (pa_cons (pv 1) pa_nil))))
      (pss_cons (ps_if (pt_cmpR op_notN (pv 2) pe_non (nomark _)) (pss_one (ps_raise rfl (takes_of rfl rfl rfl rfl) (pmk_x TN GN hr (by omega) (pa_cons (pv 2) pa_nil)))) pss_nil)
      (pss_cons (ps_set (i := 3) sc_a_good.nd rfl (.inl rfl) (pe_op (r := rCatA K) op_catA (pv 1) (pe_kn Fo hr (by omega) (pa_cons (pv 0) pa_nil))))
      (pss_cons (ps_for (passes_of rfl) rfl (pi_range1 (by rfl) m_range (pa_cons (pe_callB call_len_seq (by rfl) m_len (by decide +kernel) (pa_cons (pe_fld (pv 0) rfl) pa_nil)) pa_nil)) (pg_name (i := 4) sc_a_good.nd rfl (.inl rfl))
        (pss_cons (ps_set (i := 5) sc_a_good.nd rfl (.inl rfl) (pe_ix ix_tup (pe_ix ix_tup (pe_kn Fl hr (by omega) (pa_cons (pv 0) (pa_cons (pv 3) pa_nil))) (pv 4) (fun _ _ => rfl)) pe_int (fun _ _ => rfl)))
      (pss_one (ps_set (i := 3) sc_a_good.nd rfl (.inl rfl) (pe_op (r := rCatA K) op_catA (pv 3) (pe_tup (pa_cons (pe_tup (pa_cons (pv 4) (pa_cons pe_str (pa_cons (pv 5) pa_nil)))) pa_nil)))))))
      (pss_one (ps_ret (pe_callTy call_tuple_of (by rfl) m_tuple (by decide +kernel) (pa_cons (
        pe_lc (own := [("low", 5), ("high", 6)]) (g := (gTup K 2 (gCons (gName 5) (gCons (gName 6) gNil)))) (tt := tYes) (te := (tVar 5)) rfl sc_a_good.nd (pi_tup (pe_kn Fl hr (by omega) (pa_cons (pv 0) (pa_cons (pv 3) pa_nil)))) (blkOk_by (N := n_a_good) (sc := defScope a_a_good) (by decide +kernel))
          (fun _ _ _ _ _ => (pg_tup rfl (pgs_cons (pg_name (i := 5) sc_a_good.nd rfl (.inl rfl) (hf := .inr rfl)) (pgs_cons (pg_name (i := 6) sc_a_good.nd rfl (.inl rfl) (hf := .inr rfl)) pgs_nil)))) (fun _ _ _ _ _ => pts_nil) (fun _ _ _ _ _ => (pv 5))) pa_nil)))))))), ?_⟩
    refine ⟨.ref x, rfl, .ref g, rfl, x, g, tops, rs, Ls, rfl, W, fun H1 s1 had => ?_, fun H1 h s1 b n => ?_⟩
    rotate_left
    · refine ⟨_, rfl, rfl, _, rfl, iteTr rfl ⟨_, rfl, mkX fun d nd => ?_⟩⟩
      have sd := same_new (o := HO.xd [("paper", V.ref h)]) nd
      exact qE _ d h (s1.trans sd) (s1.free nd) n upd_same (b.imp (·.same sd) (·.same sd))
    have had' := had
    obtain ⟨st, hst, ist⟩ := had'
    have W1 := W.same s1
    have l12 := W.l12
    refine ⟨_, rfl, rfl, _, rfl, iteFa rfl ⟨.ref g, rfl, .ref x, rfl, x, tops, rs, rfl, W1.hp, W.rok, W.l40, fun H2 f L s2 ef hL mL lL => ?_⟩⟩
    have W2 := W1.same s2
    refine cat_sq W2.eg (.inl (.inl ef)) (by rw [List.length_map, List.length_map]; omega) fun c H3 s3 ec => ?_
    have W3 := W2.same s3
    have eL : sdR Ls ++ sdR L = sdR (Ls ++ L) := (List.map_append ..).symm
    rw [eL] at ec
    have s03 := (s1.trans s2).trans s3
    have hL3 : SdsAt H3 (Ls ++ L) := fun z hz => by
      rcases List.mem_append.mp hz with h | h
      · exact W3.hL z h
      · exact (hL z h).keep (.same s3)
    have ok3 : ∀ z ∈ Ls ++ L, SideOk tops z.2 := fun z hz => by
      rcases List.mem_append.mp hz with h | h
      · exact W.okS z h
      · exact frc_ok W.rok ((mL z.2).mp (List.mem_map.mpr ⟨z, h, rfl⟩))
    have frc : ∀ s, Frc tops rs s → s ∈ (Ls ++ L).map (·.2) := fun s hs => by
      rw [List.map_append]
      exact List.mem_append_right _ ((mL s).mpr hs)
    have i3 : ∀ s ∈ (Ls ++ L).map (·.2), inB st s = true := fun s hs => by
      rw [List.map_append] at hs
      rcases List.mem_append.mp hs with h | h
      · exact ist s h
      · have hf := (mL s).mp h
        exact hf.2.in' W.rok hst (frc_ok W.rok hf)
    obtain ⟨dx, t, R, ex, et, hR⟩ := W3.hp
    refine ⟨.ref x, rfl, x, C, dx, _, _, rfl, ex, T.cl, T.nT, look_tops _ _, t, _, rfl, .inr (.inl (.inl et)), _, rfl, by rw [List.length_map]; omega, by rw [List.length_map]; omega, for_it walk_range (fun j σ H' => ∃ (c : Addr) (M : List (Addr × Sd)), (∃ u4 u5 u6, σ = [some (.ref x), some (.ref g), some .non, some (.ref c), u4, u5, u6]) ∧ Same H3 H' ∧ SqT K H' c (sdR M) ∧ SdsAt H' M ∧ (∀ z ∈ M, SideOk tops z.2) ∧ M.length = (Ls ++ L).length + j ∧ (∀ s ∈ (Ls ++ L).map (·.2), s ∈ M.map (·.2)) ∧ (∃ n ∈ goods tops rs, ∀ s ∈ M.map (·.2), inB n s = true) ∧ ∀ i, i < j → ∃ p, ((i, false, p) : Sd) ∈ M.map (·.2) ∧ ∀ a b, Fol tops rs (· ∈ M.map (·.2)) a b → p ≤ plc a i)
      ⟨c, Ls ++ L, ⟨_, _, _, rfl⟩, Same.refl _, ec, hL3, ok3, rfl, fun s hs => hs, ⟨st, hst, i3⟩, fun i hi => absurd hi (Nat.not_lt_zero _)⟩ (fun _ _ _ _ _ => trivial) (fun j v σ H4' H4 hj y z => ?_) (fun σ H4 y => ?_)⟩
    · obtain ⟨c, M, ⟨u4, u5, u6, rfl⟩, s4, ec4, hM, okM, lM, sub, ⟨n, hn, inn⟩, lo⟩ := y
      obtain ⟨rfl, rfl⟩ := z
      have hj' : j < tops.length := by
        rw [List.length_map] at hj
        omega
      have lM' : M.length ≤ 192 := by
        rw [lM, List.length_append]
        omega
      have W4 : Wnt K C H4 x c tops rs M := ⟨(W3.same s4).hp, ec4, hM, okM, W.rok, W.l40, by omega, W.l12, W.pl⟩
      refine ⟨.ref x, rfl, .ref c, rfl, x, c, tops, rs, M, rfl, W4, fun H5 p lows highs s5 np hb F => ?_⟩
      obtain ⟨Us, ep, lU, aU⟩ := hb
      have lU' : Us.length = tops.length := by rw [lU, F.ll]
      have eT := aU j Us[j] (List.getElem?_eq_getElem (by omega))
      refine ⟨_, rfl, p, _, _, .ref Us[j], rfl, rfl, .inl (.inl ep), by rw [Int.zero_add]; exact atI_nat (by rw [List.getElem?_map, List.getElem?_eq_getElem (show j < Us.length by omega)]; rfl), Us[j], _, 0, _, rfl, rfl, .inl (.inl eT), atI_nat (j := 0) rfl, ?_⟩
      refine ⟨.ref c, rfl, _, rfl, _, rfl, (show 3 ≤ sizeLine by decide), fun u nu => ⟨(show 1 ≤ sizeLine by decide), fun tu ntu => ?_⟩⟩
      have su := same_new (o := HO.tup [V.int (0 + (j : Int)), V.str "to", V.int (plc lows j)]) nu
      have stu := same_new (o := HO.tup [V.ref u]) ntu
      have s6 := su.trans stu
      have hu : SideAt (upd (upd H5 u (.tup [V.int (0 + (j : Int)), V.str "to", V.int (plc lows j)])) tu (.tup [V.ref u])) u (j, false, plc lows j) := stu _ _ (by rw [upd_same]; show some (HO.tup [V.int (0 + (j : Int)), V.str "to", V.int (plc lows j)]) = _; rw [Int.zero_add]; rfl)
      refine cat_sq (sameT (s5.trans s6) ec4) (.inl (.inl upd_same)) (by rw [List.length_map]; show M.length + 1 ≤ 1000; omega) fun c2 H7 s7 ec2 => ?_
      have eM : sdR M ++ [V.ref u] = sdR (M ++ [(u, (j, false, plc lows j))]) := by simp [sdR]
      rw [eM] at ec2
      have okS : ∀ s, s ∈ M.map (·.2) → SideOk tops s := fun s hs => by
        obtain ⟨z, hz, rfl⟩ := List.mem_map.mp hs
        exact okM z hz
      have z0 := F.lz j hj'
      have z1 := F.hz j hj'
      have cr := F.cross W.rok okS hn inn j hj'
      have mm : ∀ s, s ∈ (M ++ [(u, ((j, false, plc lows j) : Sd))]).map (·.2) ↔ s ∈ M.map (·.2) ∨ s = (j, false, plc lows j) := fun s => by
        rw [List.map_append, List.mem_append]
        exact or_congr Iff.rfl List.mem_singleton
      obtain ⟨g', hg', ig'⟩ := least_any W.rok W.pl okS (fun s hs => sub s (frc s hs)) hn inn F hj'
      have sAll := (s5.trans s6).trans s7
      refine ⟨c2, M ++ [(u, (j, false, plc lows j))], ⟨_, _, _, rfl⟩, s4.trans sAll, ec2, fun z hz => ?_, fun z hz => ?_, by rw [List.length_append, lM]; rfl, fun s hs => (mm s).mpr (.inl (sub s hs)), ⟨g', hg', fun s hs => ig' s ((mm s).mp hs)⟩, fun i hi => ?_⟩
      · rcases List.mem_append.mp hz with h | h
        · exact (hM z h).keep (.same sAll)
        · rw [List.mem_singleton.mp h]
          exact hu.keep (.same s7)
      · rcases List.mem_append.mp hz with h | h
        · exact okM z h
        · rw [List.mem_singleton.mp h]
          exact SideOk.mk' hj' z0 (by omega)
      · by_cases e : i = j
        · subst e
          exact ⟨plc lows i, (mm _).mpr (.inr rfl), fun a b F' => fol_mono (fun s hs => (mm s).mpr (.inl hs)) F F' hj'⟩
        · obtain ⟨p', hp', lp⟩ := lo i (by omega)
          refine ⟨p', (mm _).mpr (.inl hp'), fun a b F' => ?_⟩
          have := lp _ _ F
          have := fol_mono (fun s hs => (mm s).mpr (.inl hs)) F F' (i := i) (by omega)
          omega
    · obtain ⟨c, M, ⟨u4, u5, u6, rfl⟩, s4, ec4, hM, okM, lM, sub, ⟨n, hn, inn⟩, lo⟩ := y
      rw [List.length_map] at lM lo
      have lM' : M.length ≤ 192 := by
        rw [lM, List.length_append]
        omega
      have W4 : Wnt K C H4 x c tops rs M := ⟨(W3.same s4).hp, ec4, hM, okM, W.rok, W.l40, by omega, W.l12, W.pl⟩
      refine ⟨.ref x, rfl, .ref c, rfl, x, c, tops, rs, M, rfl, W4, fun H5 p lows highs s5 np hb F => ?_⟩
      obtain ⟨Us, ep, lU, aU⟩ := hb
      have lU' : Us.length = tops.length := by rw [lU, F.ll]
      have okS : ∀ s, s ∈ M.map (·.2) → SideOk tops s := fun s hs => by
        obtain ⟨z, hz, rfl⟩ := List.mem_map.mp hs
        exact okM z hz
      have eq : ∀ i, i < tops.length → plc lows i = plc highs i := fun i hi => by
        obtain ⟨p', hp', lp⟩ := lo i hi
        have h1 := lp _ _ F
        have h2 := F.h1 i p' (.base hp')
        have h3 := F.cross W.rok okS hn inn i hi
        omega
      have hgd : lows ∈ goods tops rs := fol_stand W.rok F eq
      refine ⟨p, rfl, ⟨_, .inl (.inl ep)⟩, fun D nD => lc_it (walk_tup (xs := Us.map V.ref)) (fun k H' => Same H5 H' ∧ H' D = some (.lst ((lows.take k).map V.int))) ⟨same_new nD, upd_same⟩ (fun k H' _ y => .inl (.inl (y.1 _ _ ep))) (fun k v H6 H6' hk y z => ?_) (fun H6 y => ?_)⟩
      · obtain ⟨s6, eD⟩ := y
        obtain ⟨rfl, gv⟩ := z
        obtain ⟨T, eT, rfl⟩ := mapGet gv
        have hk' : k < lows.length := by
          rw [List.length_map] at hk
          rw [F.ll]
          omega
        refine ⟨T, _, rfl, .inl (.inl (s6 _ _ (aU k T eT))), rfl, _, _, rfl, _, _, rfl, rfl, wipe_two, _, rfl, _, eD, by rw [List.length_map, List.length_take]; exact small1000 (by have := F.ll; omega), same_over s6 nD, ?_⟩
        rw [upd_same, List.take_add_one, List.getElem?_eq_getElem hk', List.map_append, plc_get hk']
        rfl
      · obtain ⟨s6, eD⟩ := y
        rw [List.length_map, List.take_of_length_le (by rw [F.ll, lU']; exact Nat.le_refl _)] at eD
        refine ⟨D, _, rfl, .inl ⟨.inl (.inl eD), fun r nr => ?_⟩⟩
        refine q _ r lows ((((s03.trans s4).trans s5).trans s6).trans (same_new nr)) had upd_same hgd fun s hs => ?_
        have hs' : s ∈ M.map (·.2) := sub s (by rw [List.map_append]; exact List.mem_append_left _ hs)
        have lt := (okS s hs').lt
        exact F.has (by rw [F.ll]; exact lt) (.base hs') ⟨Int.le_refl _, Int.le_of_eq (eq s.1 lt)⟩
end
end K16

set_option Elab.async false
set_option linter.all false
set_option maxRecDepth 100000
namespace K16
open PySem PySem.Spec PyProof.Rows L2 NB

/-! ### wants had, the nearest that has one, whether a way leads -/
/-- the good standing that has a want and lies between -/
structure Nrst (tops : List Int) (rs : List Rl) (W : List Sd) (st n : List Int) : Prop where
  good : n ∈ goods tops rs
  has : ∀ s ∈ W, inB n s = true
  btw : ∀ g ∈ goods tops rs, (∀ s ∈ W, inB g s = true) → ∀ i, i < tops.length → Btw (plc st i) (plc n i) (plc g i)
theorem Fol.nrst {tops : List Int} {rs : List Rl} (rok : ∀ q ∈ rs, RuleOk tops q) {W : List Sd} (ok : ∀ s, s ∈ W → SideOk tops s) {lows highs st g0 : List Int} (F : Fol tops rs (· ∈ W) lows highs) (hst : st ∈ goods tops rs) (hg0 : g0 ∈ goods tops rs) (i0 : ∀ s ∈ W, inB g0 s = true) : Nrst tops rs W st (pullF lows highs st) := by
  have cr := F.cross rok ok hg0 i0
  obtain ⟨h1, h2⟩ := F.good rok ok cr hst
  refine ⟨h1, fun s hs => h2 s (.base hs), fun g hg ig i hi => ?_⟩
  have sd := F.sound rok ok hg ig hi
  have ls := goods_len hst
  rw [plc_pull (by omega)]
  unfold Btw
  omega
section
variable {P : Program} {w : World} {K : PySem.W.Frag} {mg : Str → Option Value} {base : Heap}
def spNearX (K : PySem.W.Frag) (C CN : Addr) : Sp := fun vs H Q E => ∃ (x a g : Addr) (tops st : List Int) (rs : List Rl) (Ls : List (Addr × Sd)), vs = [.ref x, .ref a, .ref g] ∧ Wnt K C H x g tops rs Ls ∧ H a = some (.tup (st.map V.int)) ∧ st ∈ goods tops rs ∧
  (∀ H' p n, Same H H' → Had tops rs Ls → H' p = some (.tup (n.map V.int)) → Nrst tops rs (Ls.map (·.2)) st n → Q (.ref p) H') ∧
  ∀ H' d h, Same H H' → H d = none → ¬ Had tops rs Ls → H' d = some (.xd [("paper", .ref h)]) → (BarAt H' h tops rs Ls ∨ RgP H' h tops rs) → E (.ref CN) (some d) H'
abbrev a_nearest : Stmt := topS 50
abbrev n_nearest : List Str := ["plan", "standing", "want", "paper"]
theorem sc_nearest : FnScope n_nearest ["plan", "standing", "want"] (defScope a_nearest) := ⟨rfl, rfl, rfl, by decide +kernel, rfl, by decide +kernel, by decide +kernel⟩
set_option maxHeartbeats 8000000 in
theorem ok_nearest {f fNp fPu : Addr} {fd fdNp fdPu : FuncData} {k : Nat} {C CN fN : Addr} {fdN : FuncData} (F : Fun K "nearest" "nearest" a_nearest f fd) (Np : Kn P w K mg base 8 "none_paper" ["plan", "want"] (spNoneA K C) fNp fdNp) (Pu : Kn P w K mg base 6 "pulled" ["plan", "standing", "want"] (spPull K C) fPu fdPu) (TN : ExT K mg "NoGood" "paper" CN fN fdN) (GN : FnOk P w K mg base CX0 1 fN fdN ["self", "paper"] (spXI CN "paper"))  : FnOk P w K mg base (L2.CX P w) (k + 9) f fd ["plan", "standing", "want"] (spNearX K C CN) := by
  refine F.okX sc_nearest (fun vs H Q E h => ?_) (fun cdv A outer s H vs Q E hr h => ?_)
  · obtain ⟨x, a, g, tops, st, rs, Ls, rfl, _⟩ := h
    rfl
  · obtain ⟨x, a, g, tops, st, rs, Ls, rfl, W, ea, hst, q, qE⟩ := h
    refine ⟨_, (pss_cons (ps_set (i := 3) sc_nearest.nd rfl (.inl rfl) (pe_kn Np hr (by omega) (pa_cons (pv 0) (pa_cons (pv 2) pa_nil))))
      (pss_cons (ps_if (pt_cmpR op_notN (pv 3) pe_non (nomark _)) (pss_one (ps_raise rfl (takes_of rfl rfl rfl rfl) (pmk_x TN GN hr (by omega) (pa_cons (pv 3) pa_nil)))) pss_nil)
      (pss_one (ps_ret (pe_kn Pu hr (by omega) (pa_cons (pv 0) (pa_cons (pv 1) (pa_cons (pv 2) pa_nil)))))))), ?_⟩
    refine ⟨.ref x, rfl, .ref g, rfl, x, g, tops, rs, Ls, rfl, W, fun H1 s1 had => ?_, fun H1 h s1 b n => ?_⟩
    · have had' := had
      obtain ⟨g0, hg0, i0⟩ := had'
      exact ⟨_, rfl, rfl, _, rfl, iteFa rfl ⟨.ref x, rfl, .ref a, rfl, .ref g, rfl, x, a, g, tops, st, rs, Ls, rfl, W.same s1, s1 _ _ ea, goods_len hst, fun H2 p lows highs s2 ep F => q H2 p _ (s1.trans s2) had ep (F.nrst W.rok W.ok hst hg0 i0)⟩⟩
    · refine ⟨_, rfl, rfl, _, rfl, iteTr rfl ⟨_, rfl, mkX fun d nd => ?_⟩⟩
      have sd := same_new (o := HO.xd [("paper", V.ref h)]) nd
      exact qE _ d h (s1.trans sd) (s1.free nd) n upd_same (b.imp (·.same sd) (·.same sd))
end

/-! ### wants had, the nearest that has one, whether a way leads -/
section
variable {P : Program} {w : World} {K : PySem.W.Frag} {mg : Str → Option Value} {base : Heap}
def spHas (K : PySem.W.Frag) : Sp := fun vs H Q _ => ∃ (g a : Addr) (Ls : List (Addr × Sd)) (st : List Int), vs = [.ref g, .ref a] ∧ SqT K H g (sdR Ls) ∧ SdsAt H Ls ∧ (∀ z ∈ Ls, z.2.1 < st.length) ∧ Ls.length ≤ 200 ∧ H a = some (.tup (st.map V.int)) ∧ ∀ H', Same H H' → Q (.bl ((Ls.map (·.2)).all (inB st))) H'
abbrev a_has : Stmt := topS 34
abbrev n_has : List Str := ["want", "standing", "side"]
theorem sc_has : FnScope n_has ["want", "standing"] (defScope a_has) := ⟨rfl, rfl, rfl, by decide +kernel, rfl, by decide +kernel, by decide +kernel⟩
set_option maxHeartbeats 8000000 in
theorem ok_has {f fIn : Addr} {fd fdIn : FuncData} {k : Nat}  (F : Fun K "has" "has" a_has f fd) (In : Kn P w K mg base 1 "is_in" ["side", "standing"] spIn fIn fdIn)  (m_all : mg "all" = none) : FnOk P w K mg base CX0 (k + 2) f fd ["want", "standing"] (spHas K) := by
  refine F.ok sc_has (fun vs H Q E h => ?_) (fun cdv A outer s H vs Q E hr h => ?_)
  · obtain ⟨g, a, Ls, st, rfl, _⟩ := h
    rfl
  · obtain ⟨g, a, Ls, st, rfl, eg, hL, lt, l200, ea, q⟩ := h
    refine ⟨_, (pss_one (ps_ret (pe_callB (cr_all rfl) (by rfl) m_all (by decide +kernel) (pa_cons (
        pe_lc (own := [("side", 2)]) (g := (gName 2)) (tt := tYes) (te := (tCall spIn [] E0 (tCons (tVar 2) (tCons (tVar 1) tNil)))) rfl sc_has.nd (pi_tup (pv 0)) (blkOk_by (N := n_has) (sc := defScope a_has) (by decide +kernel))
          (fun _ _ _ _ _ => (pg_name (i := 2) sc_has.nd rfl (.inl rfl) (hf := .inr rfl))) (fun _ _ _ _ _ => pts_nil) (fun _ _ _ _ _ => (pe_kn In hr (by omega) (pa_cons (pv 2) (pa_cons (pv 1) pa_nil))))) pa_nil)))), ?_⟩
    refine ⟨.ref g, rfl, g, rfl, ⟨_, eg⟩, fun D nD => lc_it (walk_tup (xs := sdR Ls)) (fun i H' => Same H H' ∧ H' D = some (.lst ((((Ls.map (·.2)).take i).map (inB st)).map V.bl))) ⟨same_new nD, upd_same⟩ (fun i H' _ y => sameT y.1 eg) (fun i v H1 H2 hi y z => ?_) (fun H1 y => ?_)⟩
    · obtain ⟨s1, eD⟩ := y
      obtain ⟨rfl, gv⟩ := z
      obtain ⟨zz, ez, rfl⟩ := mapGet gv
      have hz := List.mem_of_getElem? ez
      refine ⟨wipe_one, .ref zz.1, rfl, .ref a, rfl, zz.1, a, zz.2, st, rfl, (hL zz hz).keep (.same s1), s1 _ _ ea, lt zz hz, _, eD, ?_, same_over s1 nD, ?_⟩
      · rw [List.length_map, List.length_map, List.length_take, List.length_map]
        exact small1000 (by omega)
      · rw [upd_same, List.take_add_one, List.getElem?_map, ez, List.map_append, List.map_append]
        rfl
    · obtain ⟨s1, eD⟩ := y
      have hl : (sdR Ls).length = (Ls.map (·.2)).length := by rw [List.length_map, List.length_map]
      rw [hl, List.take_length] at eD
      refine ⟨D, _, rfl, .inl (.inl eD), ?_⟩
      have e : ((Ls.map (·.2)).map (inB st)).all id = (Ls.map (·.2)).all (inB st) := by
        rw [List.all_map]
        rfl
      rw [e]
      exact q H1 s1
end
end K16

set_option Elab.async false
set_option linter.all false
set_option maxRecDepth 100000
namespace NB
open PySem PySem.Spec PyProof.Rows L2
section
variable {X : Cx}
/-- what stands at the keys of a dict of tuples of whole numbers -/
def KeyInts (ks : List (List Key)) (ns : List (List Int)) : Prop := ks = ns.map fun n => n.map Sum.inl
theorem kv_ints (n : List Int) : (n.map (Sum.inl : Int → Key)).map kV = n.map V.int := by
  rw [List.map_map]
  rfl
/-- sorted(d), d a dict of fewer than 64 tuples of whole numbers -/
def rSortD (d : Nat) (B : Int) : List V → Hp → VK → Prop := fun vs H Q => ∃ (a : Addr) (kvs : List (List Key × V)) (ns : List (List Int)), vs = [V.ref a] ∧ H a = some (.dT kvs) ∧
  kvs.map (·.1) = (ns.map fun n => n.map Sum.inl) ∧ ns.length < 64 ∧ (∀ n ∈ ns, n.length = d ∧ TS.Bd B n) ∧
  ∀ (L : List (Addr × List Int)) (p : Addr), (L.map (·.2)).Perm ns → (∀ z ∈ L, H z.1 = some (.tup (z.2.map V.int))) → L.Pairwise (fun y z => TS.code B y.2 ≤ TS.code B z.2) → H p = none → Q (.ref p) (upd H p (.lst (L.map fun z => V.ref z.1)))
theorem paired_at {α β : Type} {F : α → β → Prop} : ∀ {l₁ : List α} {l₂ : List β}, Paired F l₁ l₂ → ∀ (j : Nat) (x : α) (y : β), l₁[j]? = some x → l₂[j]? = some y → F x y
  | _, _, .nil, j, x, y, h, _ => by simp at h
  | _, _, .cons h t, 0, x, y, h1, h2 => by
    cases h1
    cases h2
    exact h
  | _, _, .cons h t, j + 1, x, y, h1, h2 => paired_at t j x y (by simpa using h1) (by simpa using h2)
/-- values that are addresses of tuples, put in another order -/
theorem back_refs {H : Hp} : ∀ {vs : List Value} {L : List (Addr × List Int)}, vs.Perm (L.map fun z => Value.ref z.1) → ∃ L' : List (Addr × List Int), L'.Perm L ∧ vs = L'.map fun z => Value.ref z.1 := fun {vs L} h => by
  have main : ∀ {us vs : List Value}, us.Perm vs → ∀ L : List (Addr × List Int), us = (L.map fun z => Value.ref z.1) → ∃ L' : List (Addr × List Int), L'.Perm L ∧ vs = L'.map fun z => Value.ref z.1 := by
    intro us vs h
    induction h with
    | nil => exact fun L e => ⟨L, .refl _, e⟩
    | cons x p ih =>
      intro L e
      cases L with
      | nil => cases e
      | cons z L =>
        simp only [List.map_cons, List.cons.injEq] at e
        obtain ⟨L', p', e'⟩ := ih L e.2
        exact ⟨z :: L', .cons _ p', by rw [e', e.1, List.map_cons]⟩
    | swap x y l =>
      intro L e
      match L, e with
      | z1 :: z2 :: L, e =>
        simp only [List.map_cons, List.cons.injEq] at e
        exact ⟨z2 :: z1 :: L, .swap _ _ _, by rw [e.1, e.2.1, e.2.2]; rfl⟩
    | trans p q ih1 ih2 =>
      intro L e
      obtain ⟨L1, p1, e1⟩ := ih1 L e
      obtain ⟨L2', p2, e2⟩ := ih2 L1 e1
      exact ⟨L2', p2.trans p1, e2⟩
  exact main h.symm L rfl
theorem sortD (hc : X.calm = true) {d : Nat} {B : Int} (hd1 : 1 ≤ d) : CallR X (.builtin "sorted") (rSortD d B) := by
  intro pins s σ H vs us Q I r h
  obtain ⟨a, kvs, ns, rfl, ha, hkeys, h64, hbd, q⟩ := h
  obtain ⟨u, rfl, rx⟩ := r.one
  cases rx
  obtain ⟨z, lo, ks, pr, o, es, ep, ho, hx, hdt, hen, hnd⟩ := (show ObjOk X.prog X.w H s.heap a (.dT kvs) from I.hok a _ ha)
  have l1 : es.size = ks.length := size_of_entries hen
  have l2 : kvs.length = ks.length := Paired.length pr
  have l3 : kvs.length = ns.length := by
    have e := congrArg List.length hkeys
    rwa [List.length_map, List.length_map] at e
  have few : es.size ≤ sizeLine := by rw [l1, ← l2, l3, sizeLine_eq]; omega
  refine Calls.call_function_entry PyProof.Rows.kind_sorted PyProof.Rows.plain_sorted PyProof.Rows.entry_sorted (PyProof.Rows.args_sorted1 _) ?_
  unfold Builtin.«sorted»
  refine wpAny_bind (m := checkCount "sorted" 1 1 _) (wpAny_pure ?_)
  refine wpAny_bind (PySem.W.kdu_collect (A := X.A.in1) (kdl_raw lo hx hdt) (I.ok.hd hc) ho few fun h1 tk acc kp it => ?_)
  -- the collected keys are the addresses of the key tuples
  have hal : acc.toList.length = ks.length := by rw [Array.length_toList, it.1]; exact l1
  let L0 : List (Addr × List Int) := (ks.map fun x => x.2.1).zip ns
  have lz : L0.length = ks.length := by
    show ((ks.map fun x => x.2.1).zip ns).length = _
    rw [List.length_zip, List.length_map]
    omega
  have eacc : acc.toList = L0.map fun y => Value.ref y.1 := by
    apply List.ext_getElem?
    intro j
    rw [List.getElem?_map]
    cases hj : acc.toList[j]? with
    | none =>
      have h0 := List.getElem?_eq_none_iff.mp hj
      rw [List.getElem?_eq_none (by omega)]
      rfl
    | some v =>
      obtain ⟨en, hen', hv⟩ := it.2 j v (by rw [← Array.getElem?_toList]; exact hj)
      have qe := entry_at hen j
      rw [hen'] at qe
      have hjl : j < ks.length := by
        have := (List.getElem?_eq_some_iff.mp hj).1
        omega
      have hjn : j < ns.length := by omega
      rw [List.getElem?_eq_getElem hjl] at qe
      have e2 : en = entryOfKey (tupleKind (mixKind X.prog X.w)) ks[j] := Option.some.inj qe
      have ez : L0[j]? = some (ks[j].2.1, ns[j]) := by
        show ((ks.map fun x => x.2.1).zip ns)[j]? = _
        exact List.getElem?_zip_eq_some.mpr ⟨by rw [List.getElem?_map, List.getElem?_eq_getElem hjl]; rfl, List.getElem?_eq_getElem hjn⟩
      rw [hv, e2, ez]
      rfl
  have hL2 : L0.map (·.2) = ns := List.map_snd_zip (by rw [List.length_map]; omega)
  have hT : ∀ y ∈ L0, H y.1 = some (.tup (y.2.map V.int)) ∧ y.2.length = d ∧ TS.Bd B y.2 := fun y hy => by
    obtain ⟨j, hj, ej⟩ := List.getElem_of_mem hy
    have hjk : j < ks.length := by omega
    have hjn : j < ns.length := by omega
    have hjv : j < kvs.length := by omega
    have hy' : L0[j]? = some (ks[j].2.1, ns[j]) := by
      show ((ks.map fun x => x.2.1).zip ns)[j]? = _
      exact List.getElem?_zip_eq_some.mpr ⟨by rw [List.getElem?_map, List.getElem?_eq_getElem hjk]; rfl, List.getElem?_eq_getElem hjn⟩
    rw [List.getElem?_eq_getElem hj, ej] at hy'
    have ey : y = (ks[j].2.1, ns[j]) := Option.some.inj hy'
    have kk := paired_at (isKeys_of pr) j kvs[j] ks[j].2.1 (List.getElem?_eq_getElem hjv) (by rw [List.getElem?_map, List.getElem?_eq_getElem hjk]; rfl)
    have ek : kvs[j].1 = ns[j].map Sum.inl := by
      have e := congrArg (fun l => l[j]?) hkeys
      simp only [List.getElem?_map, List.getElem?_eq_getElem hjv, List.getElem?_eq_getElem hjn, Option.map_some, Option.some.injEq] at e
      exact e
    rw [ek, kv_ints] at kk
    rw [ey]
    exact ⟨kk, hbd _ (List.getElem_mem hjn)⟩
  have I1 : Inv X pins σ H { s with heap := h1, toks := tk } := I.kept kp
  have raw : ∀ y ∈ L0, TS.TupInts h1 (.ref y.1) y.2 := fun y hy => tupI_raw I1 (.inl (.inl (hT y hy).1))
  refine wpAny_bind (wpAny_newList ?_ (by rw [hal, ← l2, l3, sizeLine_eq]; omega))
  have hoL : (h1.push (seqObj "list" acc.toList.toArray 0)).get? h1.objs.size = some (seqObj "list" acc.toList.toArray 0) := Heap.get?_push_size _ rfl
  have keep : ∀ b o', h1.get? b = some o' → o'.cls = .type "tuple" → (h1.push (seqObj "list" acc.toList.toArray 0)).get? b = some o' := fun b o' e _ => Heap.get?_push_of_some _ e
  have oks : TS.TupsOk h1 d B acc.toList := fun v hv => by
    rw [eacc] at hv
    obtain ⟨y, hy, rfl⟩ := List.mem_map.mp hv
    exact ⟨y.2, raw y hy, (hT y hy).2.1, (hT y hy).2.2⟩
  show wpAny _ _ _ _ _ { s with heap := h1.push (seqObj "list" acc.toList.toArray 0), toks := tk }
  refine wpAny_bind (wpAny_holding (wpAny_call_entry PyProof.Rows.slot_list_sort ⟨_, hoL, rfl⟩ PyProof.Rows.entry_list_sort
    (TS.sort_tups (s := { s with heap := h1.push (seqObj "list" acc.toList.toArray 0), toks := tk }) hoL (by rw [hal]; omega) hd1 (oks.keeps keep) (fun v => TS.code B (TS.intsOf h1 v)) (fun v hv n t => ?_) fun out g1 g2 => ⟨_, rfl, ?_⟩) (PyProof.Rows.args_list_sort _)))
  · obtain ⟨n0, t0, _⟩ := oks v hv
    have e : n = n0 := t.ints.symm.trans (t0.keeps keep).ints
    rw [e]
    show TS.code B (TS.intsOf h1 v) = TS.code B n0
    rw [t0.ints]
  rw [eacc] at g1
  obtain ⟨L', pL, eo⟩ := back_refs (H := H) g1
  have hm : ∀ y ∈ L', y ∈ L0 := fun y hy => pL.mem_iff.mp hy
  obtain ⟨e', he'⟩ := PyProof.Rows.sortedHeap_at (vs := acc.toList) (out := out) hoL
  have hlen : (L'.map fun y => V.ref y.1).length ≤ sizeLine := by
    rw [List.length_map, pL.length_eq, lz, ← l2, l3, sizeLine_eq]
    omega
  have hv' : Vals (L'.map fun y => V.ref y.1) out.toList := by rw [eo]; exact vals_of_refs L'
  refine wpAny_pure ⟨_, rfl, .ref h1.objs.size, upd H h1.objs.size (.lst (L'.map fun y => V.ref y.1)), I1.laid (t' := tk) (fun b u e => ?_) (Nat.le_refl _)
    (show ObjOk X.prog X.w _ _ _ (.lst (L'.map fun y => V.ref y.1)) from ⟨hlen, out.toList, e', hv', by rw [Array.toArray_toList]; exact he'⟩), rfl, q L' _ ?_ (fun y hy => (hT y (hm y hy)).1) ?_ (I1.hok.fresh (Nat.le_refl _))⟩
  · have hb : b < h1.objs.size := Heap.lt_size e
    rw [PyProof.Rows.sortedHeap_old (Nat.ne_of_lt hb) (by rw [size_push']; exact Nat.lt_succ_of_lt hb)]
    exact Heap.get?_push_of_some _ e
  · have p2 := pL.map (·.2)
    rw [hL2] at p2
    exact p2
  · rw [eo, List.pairwise_map] at g2
    refine List.Pairwise.imp_of_mem (fun {y z} hy hz h => ?_) g2
    have h' : TS.code B (TS.intsOf h1 (.ref y.1)) ≤ TS.code B (TS.intsOf h1 (.ref z.1)) := h
    rw [(raw y (hm y hy)).ints, (raw z (hm z hz)).ints] at h'
    exact h'
end
end NB

set_option Elab.async false
set_option linter.all false
set_option maxRecDepth 100000
namespace NB
open PySem PySem.Spec PyProof.Rows L2
section
variable {X : Cx}
/-- the whole numbers a, a - 1, .. down to above b -/
def dnV (a b : Int) : List V := (List.range (a - b).toNat).map fun i => V.int (a - (i : Nat))
/-- list(range(a, b, c)), c being -1 -/
def tLstDn (ta : TA) : TE := fun σ H Q => ta σ H fun vs H1 => ∃ a b : Int, vs = [.int a, .int b, .int (-1)] ∧ (-(2 ^ 62) ≤ a ∧ a < 2 ^ 62 ∧ -(2 ^ 62) ≤ b ∧ b < 2 ^ 62 ∧ (a - b).toNat ≤ 2 ^ 24) ∧ ∀ q, H1 q = none → Q (.ref q) (upd H1 q (.lst (dnV a b)))
theorem pe_listDn {x y z : Expr} {ta : TA} {p p' pos pos' : Pos} (hc : X.calm = true) (hl : Gl X "list") (ml : X.mg "list" = none) (hg : Gl X "range") (hm : X.mg "range" = none) (ha : PA X [x, y, z] ta)
    (hs : starEach [x, y, z] X.env = (false, eval x X.env) :: starEach [y, z] X.env := by rfl) (hpl : (backTo pos (starEach [y, z] X.env)).any (·.1) = false := by rfl)
    (na : starEach [Expr.Call (.Name "range" p) [x, y, z] [] pos] X.env = (false, eval (.Call (.Name "range" p) [x, y, z] [] pos) X.env) :: starEach [] X.env := by rfl) :
    PE X (.Call (.Name "list" p') [.Call (.Name "range" p) [x, y, z] [] pos] [] pos') (tLstDn ta) := by
  refine ⟨fun pins s σ H Q I h => ?_⟩
  refine Call_ (ld_blt I hl ml boot_list (PyProof.Rows.callWith_type1 (args_cons ?_ na) na))
  refine Call_ (ld_blt I hg hm boot_range (PyProof.Rows.callWith_type1 (thn (ha.run pos pins s σ H _ I h) fun us s1 ⟨vs, H1, I1, r1, q1⟩ => ?_) hs hpl))
  obtain ⟨i, j, rfl, ⟨b1, b2, b3, b4, b5⟩, q⟩ := q1
  cases r1 with
  | cons r rr =>
    cases rr with
    | cons r' rr =>
      cases rr with
      | cons r'' rr =>
        cases rr
        obtain ⟨t, rfl⟩ := r
        obtain ⟨t', rfl⟩ := r'
        obtain ⟨t'', rfl⟩ := r''
        have C := RgC.neg b1 b2 b3 b4
        refine call_range_3 C.1 ?_ (.inl (PyProof.noPylong_small C.2.1))
        have I2 : Inv X pins σ H1 { s1 with heap := s1.heap.push { cls := .type "range", data := .fields #[.int i t, .int j t', .int (-1) t''] } } := I1.kept (t' := s1.toks) fun b o e => Heap.get?_push_of_some _ e
        refine args_nil ?_
        refine call_list_range (n := (i - j).toNat) (I2.ok.hd hc) (IsRange.new ..) C.2.2.1 C.2.2.2 b5 fun h2 tk acc c' hk e' hi => ?_
        have el : acc.toList.length = (i - j).toNat := by rw [Array.length_toList]; exact hi.1
        have hv : Vals (dnV i j) acc.toList := by
          unfold dnV
          rw [← el]
          refine vals_of_get acc.toList _ fun k u hk => ?_
          obtain ⟨tt, rfl⟩ := hi.2 k u (by rw [← hk, Array.getElem?_toList])
          exact ⟨tt, by congr 1; omega⟩
        refine ⟨.ref _, upd H1 _ (.lst (dnV i j)), I2.laid hk (Nat.le_refl _) (show ObjOk X.prog X.w _ _ _ (.lst (dnV i j)) from ⟨?_, acc.toList, c', hv, ?_⟩), rfl, q _ (I2.hok.fresh (Nat.le_refl _))⟩
        · unfold dnV
          rw [List.length_map, List.length_range, sizeLine_eq]
          omega
        · rw [Array.toArray_toList]
          exact e'
end
end NB

set_option Elab.async false
set_option linter.all false
set_option maxRecDepth 100000
namespace NB
open PySem PySem.Spec PyProof.Rows L2
section
variable {X : Cx}
/-- x in t, x not in t, t a tuple of data of any depth -/
def rInT (K : PySem.W.Frag) (neg : Bool) : R2 := fun x y H Q => ∃ d ds, Dp K H x d ∧ Dp K H y (.tuple ds) ∧ SeqAt.shaped d = true ∧ SeqAt.shaped (.tuple ds) = true ∧ Q (.bl (if neg then !ds.any fun z => PyData.eqv z d else ds.any fun z => PyData.eqv z d)) H
theorem inT (hu : X.A.units + 65 < cLine) : OpR X (compareOp .In) (rInT X.K false) := by
  intro pins s σ H x y v u Q I rx ry h
  obtain ⟨d, ds, h1, h2, sh1, sh2, q⟩ := h
  obtain ⟨as, r1⟩ := Dp.reads I d x v h1 rx
  obtain ⟨bs, r2⟩ := Dp.reads I (.tuple ds) y u h2 ry
  exact SeqAt.in_tuple_reads r2 r1 (SeqAt.canLay_of_shaped sh2) (SeqAt.canLay_of_shaped sh1) (room_in_shaped sh1 hu) ⟨.bl _, H, I, rfl, q⟩
theorem notInT (hu : X.A.units + 65 < cLine) : OpR X (compareOp .NotIn) (rInT X.K true) := by
  intro pins s σ H x y v u Q I rx ry h
  obtain ⟨d, ds, h1, h2, sh1, sh2, q⟩ := h
  obtain ⟨as, r1⟩ := Dp.reads I d x v h1 rx
  obtain ⟨bs, r2⟩ := Dp.reads I (.tuple ds) y u h2 ry
  exact SeqAt.notIn_tuple_reads r2 r1 (SeqAt.canLay_of_shaped sh2) (SeqAt.canLay_of_shaped sh1) (room_in_shaped sh1 hu) ⟨.bl _, H, I, rfl, q⟩
end
end NB

set_option Elab.async false
set_option linter.all false
set_option maxRecDepth 100000
namespace K16
open PySem PySem.Spec PyProof.Rows L2 NB

/-! ### all standings, all good ones -/
/-- a list of standings -/
def LsAt (H : Hp) (ps : List (Addr × List Int)) : Prop := ∀ z ∈ ps, H z.1 = some (.tup (z.2.map V.int))
theorem LsAt.same {H H' : Hp} {ps : List (Addr × List Int)} (h : LsAt H ps) (s : Same H H') : LsAt H' ps := fun z hz => s _ _ (h z hz)
theorem LsAt.keep {H H' : Hp} {ps : List (Addr × List Int)} (h : LsAt H ps) (k : Keep H H') : LsAt H' ps := fun z hz => k.tup (h z hz)
theorem LsAt.app {H : Hp} {ps qs : List (Addr × List Int)} (h : LsAt H ps) (h' : LsAt H qs) : LsAt H (ps ++ qs) := fun z hz => by
  rcases List.mem_append.mp hz with q | q
  · exact h z q
  · exact h' z q

/-! ### lists of standings as data -/
theorem Room.u65 {k : Nat} {A : Around} (r : Room k A) : A.units + 65 < cLine := by have := r.un; omega
theorem not_diff {a b : V} (e : a = b) {P Q : Prop} (h : Q) : if (!decide (a = b)) = true then P else Q := by
  rw [decide_eq_true e]
  exact h
def lsD (ps : List (Addr × List Int)) : List PyData := ps.map fun z => .tuple (z.2.map PyData.int)
theorem lsD_dp {K : PySem.W.Frag} {H : Hp} : ∀ {ps : List (Addr × List Int)}, LsAt H ps → DpAll K H (refs ps) (lsD ps)
  | [], _ => .nil
  | z :: ps, h => .cons (dpt (h z List.mem_cons_self)) (lsD_dp fun y hy => h y (List.mem_cons_of_mem _ hy))
theorem lsD_lay : ∀ ps : List (Addr × List Int), PyData.canLayAll0 (lsD ps) = true
  | [] => rfl
  | z :: ps => by
    show PyData.canLayAll0 (PyData.tuple (z.2.map PyData.int) :: lsD ps) = true
    simp only [PyData.canLayAll0, PyData.canLay0, lay_ints, lsD_lay ps, Bool.and_self]
theorem lsD_depth : ∀ ps : List (Addr × List Int), PyData.depthAll (lsD ps) ≤ 1
  | [] => Nat.zero_le _
  | z :: ps => by
    show PyData.depthAll (PyData.tuple (z.2.map PyData.int) :: lsD ps) ≤ 1
    have := lsD_depth ps
    simp only [PyData.depthAll, PyData.depth, depth_ints]
    omega
theorem lsD_shaped (ps : List (Addr × List Int)) : SeqAt.shaped (.list (lsD ps)) = true := by
  have := lsD_depth ps
  unfold SeqAt.shaped
  rw [Bool.and_eq_true, decide_eq_true_eq]
  simp only [PyData.canLay0, lsD_lay, PyData.depth, true_and]
  omega
theorem lsD_in {ps : List (Addr × List Int)} {s : List Int} (h : s ∈ ps.map (·.2)) : ((lsD ps).any fun z => PyData.eqv z (.tuple (s.map PyData.int))) = true := by
  obtain ⟨z, hz, e⟩ := List.mem_map.mp h
  rw [List.any_eq_true]
  refine ⟨.tuple (z.2.map PyData.int), List.mem_map.mpr ⟨z, hz, rfl⟩, ?_⟩
  simp only [PyData.eqv]
  rw [eqv_ints, e, decide_eq_true rfl]
theorem eqv_same (s : List Int) : PyData.eqv (.tuple (s.map PyData.int)) (.tuple (s.map PyData.int)) = true := by
  simp only [PyData.eqv]
  rw [eqv_ints, decide_eq_true rfl]
theorem show_bd {s : List Int} (h : TS.Bd 4 s) (l : s.length ≤ 12) : Showable (.tuple (s.map PyData.int)) :=
  (Small.tuple (SmallAll.ints fun x hx => Nat.lt_of_lt_of_le (show x.natAbs < 4 by have := h x hx; omega) (by decide))).ok (by omega) (by decide)

/-! ### chains looked at -/
theorem walk_zipS {K : PySem.W.Frag} {a b : Addr} {xs ys : List V} (h2 : ys.length ≤ xs.length) :
    Walk (RZ.ItzT K a b) ys.length (fun H => SqT K H a xs ∧ SqT K H b ys) (YPair (fun i => xs[i]?) (fun i => ys[i]?)) := by
  refine ⟨fun i _ hi q => ?_, fun _ q => ⟨xs, ys, q.1, q.2, .inr (Nat.le_refl _)⟩, fun i H v H' _ q y => ?_⟩
  · exact ⟨xs, ys, xs[i]'(by omega), ys[i], q.1, q.2, List.getElem?_eq_getElem (by omega), List.getElem?_eq_getElem hi⟩
  · obtain ⟨T, x, u, e1, e2, e3, f1, f2⟩ := y
    exact ⟨T, x, u, e1, e2, e3, f1 xs q.1, f2 ys q.2⟩
def ldsB (tops : List Int) (rs : List Rl) (a b : Sd) : Bool := withinB tops a b || decide (b ∈ ledL tops rs a)
def chB (tops : List Int) (rs : List Rl) (l : List Sd) : Bool := (l.zip l.tail).all fun p => ldsB tops rs p.1 p.2
theorem chB_cons {tops : List Int} {rs : List Rl} {a b : Sd} {l : List Sd} : chB tops rs (a :: b :: l) = (ldsB tops rs a b && chB tops rs (b :: l)) := rfl
theorem chB_snoc {tops : List Int} {rs : List Rl} {a b : Sd} : ∀ {l : List Sd}, chB tops rs (l ++ [a]) = true → ldsB tops rs a b = true → chB tops rs (l ++ [a] ++ [b]) = true
  | [], _, h => by
    show chB tops rs [a, b] = true
    rw [chB_cons, h]
    rfl
  | [c], h, h' => by
    have h1 : chB tops rs [c, a] = true := h
    rw [chB_cons, Bool.and_eq_true] at h1
    show chB tops rs [c, a, b] = true
    rw [chB_cons, chB_cons, h1.1, h']
    rfl
  | c :: d :: l, h, h' => by
    have h1 : chB tops rs (c :: d :: (l ++ [a])) = true := h
    rw [chB_cons, Bool.and_eq_true] at h1
    show chB tops rs (c :: d :: (l ++ [a] ++ [b])) = true
    rw [chB_cons, Bool.and_eq_true]
    exact ⟨h1.1, chB_snoc (l := d :: l) h1.2 h'⟩
theorem RCh.chain {tops : List Int} {rs : List Rl} {S : List Sd} : ∀ {R : List Sd}, RCh tops rs S R → chB tops rs R.reverse = true ∧ (∃ s ∈ S, R.reverse.head? = some s) ∧ R ≠ []
  | _, .one hs => ⟨rfl, ⟨_, hs, rfl⟩, List.cons_ne_nil _ _⟩
  | _, .cons (a := a) (b := b) (t := t) h m => by
    obtain ⟨h1, ⟨s, hs, h2⟩, _⟩ := RCh.chain h
    have e : (a :: t).reverse = t.reverse ++ [a] := List.reverse_cons
    refine ⟨?_, ⟨s, hs, ?_⟩, List.cons_ne_nil _ _⟩
    · rw [List.reverse_cons, e]
      rw [e] at h1
      exact chB_snoc h1 (by unfold ldsB; rw [decide_eq_true m, Bool.or_true])
    · rw [List.reverse_cons, List.head?_append, h2]
      rfl
/-- what chain_to tells, where a chain leads there -/
theorem CTo.chain {tops : List Int} {rs : List Rl} {S : List Sd} {s : Sd} {cs : List Sd} (h : CTo tops rs S s cs) (ne : ∃ z, Rea tops rs (· ∈ S) z ∧ withinB tops z s = true) : chB tops rs cs = true ∧ (∃ w ∈ S, cs.head? = some w) ∧ cs.getLast? = some s := by
  rcases h with ⟨_, h⟩ | ⟨R, z, rc, hd, wi, _, h⟩
  · obtain ⟨z, hz, w⟩ := ne
    rw [h z hz] at w
    cases w
  · obtain ⟨h1, ⟨w, hw, h2⟩, ne⟩ := rc.chain
    rcases h with ⟨rfl, rfl⟩ | ⟨_, rfl⟩
    · refine ⟨h1, ⟨w, hw, h2⟩, ?_⟩
      rw [List.getLast?_reverse]
      exact hd
    · obtain ⟨a, t, rfl⟩ := List.exists_cons_of_ne_nil ne
      cases (Option.some.inj hd : a = z)
      refine ⟨?_, ⟨w, hw, by rw [List.head?_append, h2]; rfl⟩, List.getLast?_concat⟩
      rw [List.reverse_cons] at h1 ⊢
      exact chB_snoc h1 (by unfold ldsB; rw [wi, Bool.true_or])
def sdsD (L : List (Addr × Sd)) : List PyData := L.map fun z => sdD z.2
theorem dp_sds {K : PySem.W.Frag} {H : Hp} : ∀ {L : List (Addr × Sd)}, SdsAt H L → DpAll K H (sdR L) (sdsD L)
  | [], _ => .nil
  | z :: L, h => .cons (dp_sd (h z List.mem_cons_self)) (dp_sds fun y hy => h y (List.mem_cons_of_mem _ hy))
theorem sds_any (L : List (Addr × Sd)) (s : Sd) : ((sdsD L).any fun z => PyData.eqv z (sdD s)) = decide (s ∈ L.map (·.2)) := by
  rw [Bool.eq_iff_iff, List.any_eq_true, decide_eq_true_eq]
  constructor
  · rintro ⟨d, hd, e⟩
    obtain ⟨z, hz, rfl⟩ := List.mem_map.mp hd
    rw [eqv_sd] at e
    rw [← of_decide_eq_true e]
    exact List.mem_map.mpr ⟨z, hz, rfl⟩
  · intro h
    obtain ⟨z, hz, e⟩ := List.mem_map.mp h
    exact ⟨_, List.mem_map.mpr ⟨z, hz, rfl⟩, by rw [eqv_sd]; exact decide_eq_true e⟩
theorem sds_lay : ∀ L : List (Addr × Sd), PyData.canLayAll0 (sdsD L) = true ∧ PyData.depthAll (sdsD L) ≤ 1
  | [] => ⟨rfl, Nat.zero_le _⟩
  | z :: L => by
    obtain ⟨h1, h2⟩ := sds_lay L
    have a : PyData.canLay0 (sdD z.2) = true ∧ PyData.depth (sdD z.2) ≤ 1 := by
      have w : ∀ b, PyData.strOk (word b) = true := fun b => by cases b <;> decide +kernel
      unfold sdD
      refine ⟨by simp only [PyData.canLayAll0, PyData.canLay0, w, Bool.and_self], by simp [PyData.depthAll, PyData.depth]⟩
    show PyData.canLayAll0 (sdD z.2 :: sdsD L) = true ∧ PyData.depthAll (sdD z.2 :: sdsD L) ≤ 1
    simp only [PyData.canLayAll0, PyData.depthAll, a.1, h1, Bool.and_self, true_and]
    omega
theorem shaped_sdsL (L : List (Addr × Sd)) : SeqAt.shaped (.list (sdsD L)) = true := by
  obtain ⟨h1, h2⟩ := sds_lay L
  unfold SeqAt.shaped
  rw [Bool.and_eq_true, decide_eq_true_eq]
  simp only [PyData.canLay0, h1, PyData.depth, true_and]
  omega
theorem shaped_sdsT (L : List (Addr × Sd)) : SeqAt.shaped (.tuple (sdsD L)) = true := by
  obtain ⟨h1, h2⟩ := sds_lay L
  unfold SeqAt.shaped
  rw [Bool.and_eq_true, decide_eq_true_eq]
  simp only [PyData.canLay0, h1, PyData.depth, true_and]
  omega
theorem ledL_len (tops : List Int) (rs : List Rl) (s : Sd) : (ledL tops rs s).length ≤ 2 * rs.length := led_len tops s rs
section
variable {P : Program} {w : World} {K : PySem.W.Frag} {mg : Str → Option Value} {base : Heap}
def spSidesL (K : PySem.W.Frag) : Sp := fun vs H Q _ => ∃ (t r : Addr) (tops : List Int) (as : List Addr), vs = [.ref t, .ref r] ∧ H t = some (.tup (tops.map V.int)) ∧ H r = some (.tup (as.map V.ref)) ∧ as.length ≤ 900 ∧ (∀ p ∈ as, ∃ sd, SideAt H p sd ∧ SideOk tops sd) ∧ ∀ H', Same H H' → Q (.bl true) H'
def spLeads (C : Addr) : Sp := fun vs H Q _ => ∃ (x p r : Addr) (tops : List Int) (rs : List Rl) (a b : Sd), vs = [.ref x, .ref p, .ref r] ∧ PlanAt C H x tops rs ∧ SideAt H p a ∧ SideAt H r b ∧ SideOk tops a ∧ SideOk tops b ∧ (∀ q ∈ rs, RuleOk tops q) ∧ rs.length ≤ 40 ∧
  ∀ H', Same H H' → Q (.bl (ldsB tops rs a b)) H'
abbrev a_leads : Stmt := topS 22
abbrev n_leads : List Str := ["plan", "one", "other"]
theorem sc_leads : FnScope n_leads ["plan", "one", "other"] (defScope a_leads) := ⟨rfl, rfl, rfl, by decide +kernel, rfl, by decide +kernel, by decide +kernel⟩
set_option maxHeartbeats 8000000 in
theorem ok_leads {f fWi fLr : Addr} {fd fdWi fdLr : FuncData} {k : Nat} {C : Addr} (F : Fun K "leads" "leads" a_leads f fd) (Wi : Kn P w K mg base 2 "is_within" ["plan", "one", "other"] (spTwo C withinB) fWi fdWi) (Lr : Kn P w K mg base 3 "led_by_rules" ["plan", "side"] (spLed C) fLr fdLr)   : FnOk P w K mg base CX0 (k + 4) f fd ["plan", "one", "other"] (spLeads C) := by
  refine F.ok sc_leads (fun vs H Q E h => ?_) (fun cdv A outer s H vs Q E hr h => ?_)
  · obtain ⟨x, p, r, tops, rs, a, b, rfl, _⟩ := h
    rfl
  · obtain ⟨x, p, r, tops, rs, a, b, rfl, hp, hs, ht, oa, ob, rok, l40, q⟩ := h
    refine ⟨_, (pss_one (ps_ret (pe_or (pe_kn Wi hr (by omega) (pa_cons (pv 0) (pa_cons (pv 1) (pa_cons (pv 2) pa_nil)))) (pe_one (pe_cmpR (op_inD (Room.u65 hr)) (pv 2) (pe_kn Lr hr (by omega) (pa_cons (pv 0) (pa_cons (pv 1) pa_nil))) (by rfl)))))), ?_⟩
    refine ⟨.ref x, rfl, .ref p, rfl, .ref r, rfl, x, p, r, tops, rs, a, b, rfl, hp, hs, ht, oa, ob, fun H1 s1 => ⟨_, rfl, ?_⟩⟩
    cases c : withinB tops a b with
    | true =>
      refine iteT ?_
      have e : ldsB tops rs a b = true := by
        unfold ldsB
        rw [c, Bool.true_or]
      rw [← e]
      exact q H1 s1
    | false =>
      refine iteF ⟨.ref r, rfl, .ref x, rfl, .ref p, rfl, x, p, tops, rs, a, rfl, hp.keep (.same s1), hs.keep (.same s1), oa, rok, l40, fun H2 l L s2 nl el hL eL => ?_⟩
      refine ⟨_, _, dp_sd (ht.keep (.same (s1.trans s2))), .lst (.inl (.inl el)) (dp_sds hL), shaped_sd _, shaped_sdsL _, ?_⟩
      rw [sds_any, eL]
      have e : ldsB tops rs a b = decide (b ∈ ledL tops rs a) := by
        unfold ldsB
        rw [c, Bool.false_or]
      rw [← e]
      exact q H2 (s1.trans s2)
def spChn (K : PySem.W.Frag) (C : Addr) : Sp := fun vs H Q _ => ∃ (x c : Addr) (tops : List Int) (rs : List Rl) (L : List (Addr × Sd)), vs = [.ref x, .ref c] ∧ PlanAt C H x tops rs ∧ H c = some (.tup (sdR L)) ∧ SdsAt H L ∧ (∀ z ∈ L, SideOk tops z.2) ∧ (∀ q ∈ rs, RuleOk tops q) ∧ rs.length ≤ 40 ∧ L.length ≤ 400 ∧
  ∀ H', Same H H' → Q (.bl (!L.isEmpty && chB tops rs (L.map (·.2)))) H'
theorem cut_one {K : PySem.W.Frag} {H : Hp} {p : Addr} {xs : List V} {Q : VK} (e : SqT K H p xs) (h : 1 ≤ xs.length) (q : ∀ g H', Same H H' → H' g = some (.tup (xs.drop 1)) → Q (.ref g) H') : rSlA K (.ref p) (some 1) none H Q := by
  have e1 : HT.sIx xs.length 0 (some (1 : Int)) = 1 := by
    have := HT.sIx_nat xs.length 0 1
    have e : ((1 : Nat) : Int) = 1 := rfl
    rw [e] at this
    omega
  refine ⟨p, _, rfl, e, fun w => by rw [e1] at w; omega, fun _ g ng => q g _ (same_new ng) ?_⟩
  rw [upd_same]
  unfold cutV
  rw [e1, HT.sIx_none, List.take_of_length_le (by rw [List.length_drop]; exact Nat.le_refl _)]
end

/-! ### chains of anything -/
theorem line_lt {n : Nat} (h : n ≤ 299999) : n < sizeLine := by
  rw [sizeLine_eq]
  omega
def areSidesD (tops : List Int) : PyData → Bool
  | .tuple ds => ds.all (sideD tops)
  | _ => false
theorem areS_no {tops : List Int} {d : PyData} (h : isTupD d = false) : areSidesD tops d = false := by
  cases d with
  | tuple ds => cases h
  | _ => rfl
def numD : PyData → Int
  | .int i => i
  | _ => 0
def sdOf : PyData → Sd
  | .tuple ds => (natD (ds.getD 0 .none), strIs "from" (ds.getD 1 .none), numD (ds.getD 2 .none))
  | _ => (0, true, 0)
def chainD (tops : List Int) (rs : List Rl) : PyData → Bool
  | .tuple ds => ds.all (sideD tops) && (!ds.isEmpty && chB tops rs (ds.map sdOf))
  | _ => false
theorem chain_no {tops : List Int} {rs : List Rl} {d : PyData} (h : areSidesD tops d = false) : chainD tops rs d = false := by
  cases d with
  | tuple ds =>
    have h' : ds.all (sideD tops) = false := h
    show (ds.all (sideD tops) && _) = false
    rw [h', Bool.false_and]
  | _ => rfl
theorem side_at {n : Addr} {H : Hp} {v : V} {d : PyData} {tops : List Int} (h : Da n H v d) (s : sideD tops d = true) : ∃ p, v = .ref p ∧ SideAt H p (sdOf d) ∧ SideOk tops (sdOf d) := by
  rcases tup_or d with ⟨ds, rfl⟩ | hn
  · have s' : (decide (ds.length = 3) && (placeD ((tops.length : Int) - 1) (ds.getD 0 .none) && (wordD (ds.getD 1 .none) && placeD (tops.getD (natD (ds.getD 0 .none)) 0) (ds.getD 2 .none)))) = true := s
    simp only [Bool.and_eq_true] at s'
    obtain ⟨l3, p0, w1, p2⟩ := s'
    have l3 := of_decide_eq_true l3
    cases h with
    | tup e ha =>
    match ds, l3, ha, p0, w1, p2 with
    | [d0, d1, d2], _, .cons h0 (.cons h1 (.cons h2 .nil)), p0, w1, p2 =>
    obtain ⟨i, rfl, hi⟩ := place_int p0
    obtain ⟨x, rfl, hx⟩ := place_int p2
    cases h0
    cases h2
    have li : i < tops.length := by omega
    have ei : natD (.int (i : Int)) = i := Int.toNat_natCast i
    have w1' : wordD d1 = true := w1
    obtain ⟨b, rfl, eb⟩ : ∃ b : Bool, d1 = .str (word b) ∧ strIs "from" d1 = b := by
      rcases str_or d1 with ⟨z, rfl⟩ | hs
      · have w2 : (decide (z = "from") || decide (z = "to")) = true := w1'
        simp only [Bool.or_eq_true, decide_eq_true_eq] at w2
        rcases w2 with rfl | rfl
        · exact ⟨true, rfl, rfl⟩
        · exact ⟨false, rfl, rfl⟩
      · rw [word_no hs] at w1'
        cases w1'
    cases h1
    rename_i a _ e
    refine ⟨a, rfl, ?_, ?_⟩
    · show H a = some (.tup [.int ((natD (.int (i : Int)) : Nat) : Int), .str (word (strIs "from" (.str (word b)))), .int (x : Int)])
      rw [ei, eb]
      exact e
    · show SideOk tops (natD (.int (i : Int)), strIs "from" (.str (word b)), (x : Int))
      rw [ei]
      have hx' : (x : Int) ≤ tops.getD (natD (.int (i : Int))) 0 := hx
      rw [ei] at hx'
      exact SideOk.mk' li (by omega) hx'
  · rw [side_no hn] at s
    cases s
theorem sides_at {n : Addr} {H : Hp} {tops : List Int} : ∀ {ds : List PyData} {vs : List V}, DaAll n H vs ds → ds.all (sideD tops) = true → ∃ L : List (Addr × Sd), vs = sdR L ∧ SdsAt H L ∧ (∀ z ∈ L, SideOk tops z.2) ∧ L.map (·.2) = ds.map sdOf
  | [], _, h, _ => by
    cases h
    exact ⟨[], rfl, (fun z hz => absurd hz List.not_mem_nil), (fun z hz => absurd hz List.not_mem_nil), rfl⟩
  | d :: ds, _, h, s => by
    cases h with
    | cons h1 h2 =>
      rw [List.all_cons, Bool.and_eq_true] at s
      obtain ⟨p, rfl, hs, ok⟩ := side_at h1 s.1
      obtain ⟨L, rfl, hL, oL, eL⟩ := sides_at h2 s.2
      refine ⟨(p, sdOf d) :: L, rfl, fun z hz => ?_, fun z hz => ?_, by rw [List.map_cons, List.map_cons, eL]⟩
      · rcases List.mem_cons.mp hz with rfl | hz
        · exact hs
        · exact hL z hz
      · rcases List.mem_cons.mp hz with rfl | hz
        · exact ok
        · exact oL z hz
section
variable {P : Program} {w : World} {K : PySem.W.Frag} {mg : Str → Option Value} {base : Heap}
def dLen : PyData → Nat
  | .tuple ds => ds.length
  | _ => 0
def spLookT4 (g : List Int → PyData → Bool) : Sp := fun vs H Q _ => ∃ (n t : Addr) (tops : List Int) (v : V) (d : PyData), vs = [.ref t, v] ∧ H t = some (.tup (tops.map V.int)) ∧ Da n H v d ∧ dLen d ≤ 200000 ∧ ∀ H', Same H H' → Q (.bl (g tops d)) H'
abbrev a_are_sides_of : Stmt := topS 13
abbrev n_are_sides_of : List Str := ["tops", "thing", "side"]
theorem sc_are_sides_of : FnScope n_are_sides_of ["tops", "thing"] (defScope a_are_sides_of) := ⟨rfl, rfl, rfl, by decide +kernel, rfl, by decide +kernel, by decide +kernel⟩
set_option maxHeartbeats 8000000 in
theorem ok_are_sides_of {f fSi : Addr} {fd fdSi : FuncData} {k : Nat}  (F : Fun K "are_sides_of" "are_sides_of" a_are_sides_of f fd) (Si : Kn P w K mg base 3 "is_side_of" ["tops", "thing"] (spLookT sideD) fSi fdSi)  (m_all : mg "all" = none) (m_isinstance : mg "isinstance" = none) (m_tuple : mg "tuple" = none) : FnOk P w K mg base CX0 (k + 4) f fd ["tops", "thing"] (spLookT4 areSidesD) := by
  refine F.ok sc_are_sides_of (fun vs H Q E h => ?_) (fun cdv A outer s H vs Q E hr h => ?_)
  · obtain ⟨n, t, tops, v, d, rfl, _⟩ := h
    rfl
  · obtain ⟨n, t, tops, v, d, rfl, et, hd, l4, q⟩ := h
    refine ⟨_, (pss_one (ps_ret (pe_and (pe_callB call_isiD (by rfl) m_isinstance (by decide +kernel) (pa_cons (pv 1) (pa_cons (pe_bltn (v := .ty "tuple") (u := .type "tuple") (by rfl) m_tuple (by decide +kernel) rfl) pa_nil))) (pe_one (pe_callB (cr_all rfl) (by rfl) m_all (by decide +kernel) (pa_cons (
        pe_lc (own := [("side", 2)]) (g := (gName 2)) (tt := tYes) (te := (tCall (spLookT sideD) [] E0 (tCons (tVar 0) (tCons (tVar 2) tNil)))) rfl sc_are_sides_of.nd (pi_tup (pv 1)) (blkOk_by (N := n_are_sides_of) (sc := defScope a_are_sides_of) (by decide +kernel))
          (fun _ _ _ _ _ => (pg_name (i := 2) sc_are_sides_of.nd rfl (.inl rfl) (hf := .inr rfl))) (fun _ _ _ _ _ => pts_nil) (fun _ _ _ _ _ => (pe_kn Si hr (by omega) (pa_cons (pv 0) (pa_cons (pv 2) pa_nil))))) pa_nil)))))), ?_⟩
    rcases tup_or d with ⟨ds, rfl⟩ | hn
    · cases hd with
      | tup e ha =>
      rename_i a xs
      have ll := ha.len
      have l4' : ds.length ≤ 200000 := l4
      refine ⟨_, rfl, n, _, _, "tuple", _, rfl, .tup e ha, kit_tup _, _, rfl, iteT ?_⟩
      refine ⟨_, rfl, a, rfl, ⟨_, .inl (.inl e)⟩, fun D nD => lc_it (walk_tup (xs := xs)) (fun i H' => Same H H' ∧ H' D = some (.lst (((ds.take i).map (sideD tops)).map V.bl))) ⟨same_new nD, upd_same⟩ (fun i H' _ p => .inl (.inl (p.1 _ _ e))) (fun i v H1 H2 hi p y => ?_) (fun H' p => ?_)⟩
      · obtain ⟨sm, eD⟩ := p
        obtain ⟨rfl, gv⟩ := y
        obtain ⟨dd, ed, hdd⟩ := ha.get i v gv
        refine ⟨wipe_one, .ref t, rfl, v, rfl, n, t, tops, v, dd, rfl, sm _ _ et, hdd.same sm, fun H4 s4 => ⟨_, s4 _ _ eD, ?_, same_over (sm.trans s4) nD, ?_⟩⟩
        · rw [List.length_map, List.length_map, List.length_take]
          exact line_lt (by omega)
        · rw [upd_same, all_take (sideD tops) _ i dd ed]
      · obtain ⟨sm, eD⟩ := p
        rw [List.take_of_length_le (by omega)] at eD
        refine ⟨D, _, rfl, .inl (.inl eD), ?_⟩
        rw [all_id]
        exact q H' sm
    · rw [areS_no hn] at q
      refine ⟨_, rfl, n, _, _, "tuple", _, rfl, hd, kit_tup _, _, rfl, ?_⟩
      rw [hn]
      exact iteF (q H (Same.refl H))
def spChD (C : Addr) : Sp := fun vs H Q _ => ∃ (n x : Addr) (tops : List Int) (rs : List Rl) (v : V) (d : PyData), vs = [.ref x, v] ∧ PlanAt C H x tops rs ∧ Da n H v d ∧ (∀ q ∈ rs, RuleOk tops q) ∧ rs.length ≤ 40 ∧ dLen d ≤ 200000 ∧
  ∀ H', Same H H' → Q (.bl (chainD tops rs d)) H'
abbrev a_is_chain : Stmt := topS 23
abbrev n_is_chain : List Str := ["plan", "thing", "one", "other"]
theorem sc_is_chain : FnScope n_is_chain ["plan", "thing"] (defScope a_is_chain) := ⟨rfl, rfl, rfl, by decide +kernel, rfl, by decide +kernel, by decide +kernel⟩
set_option maxHeartbeats 8000000 in
theorem ok_is_chain {f fSs fLd : Addr} {fd fdSs fdLd : FuncData} {k : Nat} {C : Addr} (F : Fun K "is_chain" "is_chain" a_is_chain f fd) (Ss : Kn P w K mg base 4 "are_sides_of" ["tops", "thing"] (spLookT4 areSidesD) fSs fdSs) (Ld : Kn P w K mg base 4 "leads" ["plan", "one", "other"] (spLeads C) fLd fdLd) (T : PlanTxt K mg C) (m_zip : mg "zip" = none) (m_all : mg "all" = none) (m_zip : mg "zip" = none) : FnOk P w K mg base CX0 (k + 5) f fd ["plan", "thing"] (spChD C) := by
  refine F.ok sc_is_chain (fun vs H Q E h => ?_) (fun cdv A outer s H vs Q E hr h => ?_)
  · obtain ⟨n, x, tops, rs, v, d, rfl, _⟩ := h
    rfl
  · obtain ⟨n, x, tops, rs, v, d, rfl, hp, hd, rok, l40, l4, q⟩ := h
    refine ⟨_, (pss_cons (ps_if (PW.pt (pw_or (pt_not (pt_val (pe_kn Ss hr (by omega) (pa_cons (pe_fld (pv 0) rfl) (pa_cons (pv 1) pa_nil))))) (pw_or1 (pt_cmpR (op_eq0 hr.units0) (pv 1) (pe_tup pa_nil) (nomark _))))) (pss_one (ps_ret pe_bl)) pss_nil)
      (pss_one (ps_ret (pe_callB (cr_all rfl) (by rfl) m_all (by decide +kernel) (pa_cons (
        pe_lc (own := [("one", 2), ("other", 3)]) (g := (gTup K 2 (gCons (gName 2) (gCons (gName 3) gNil)))) (tt := tYes) (te := (tCall (spLeads C) [] E0 (tCons (tVar 0) (tCons (tVar 2) (tCons (tVar 3) tNil))))) rfl sc_is_chain.nd (RZ.pi_zipA (by rfl) m_zip (pa_cons (pv 1) (pa_cons (pe_slice (r := rSlA K) sl_tupA (pv 1) (po_some pe_int) po_none) pa_nil))) (blkOk_by (N := n_is_chain) (sc := defScope a_is_chain) (by decide +kernel))
          (fun _ _ _ _ _ => (pg_tup rfl (pgs_cons (pg_name (i := 2) sc_is_chain.nd rfl (.inl rfl) (hf := .inr rfl)) (pgs_cons (pg_name (i := 3) sc_is_chain.nd rfl (.inl rfl) (hf := .inr rfl)) pgs_nil)))) (fun _ _ _ _ _ => pts_nil) (fun _ _ _ _ _ => (pe_kn Ld hr (by omega) (pa_cons (pv 0) (pa_cons (pv 2) (pa_cons (pv 3) pa_nil)))))) pa_nil))))), ?_⟩
    obtain ⟨dx, t, R, ex, et, hR⟩ := id hp
    refine ⟨.ref x, rfl, x, C, dx, _, _, rfl, ex, T.cl, T.nT, look_tops _ _, v, rfl, n, t, tops, v, d, rfl, et, hd, l4, fun H1 s1 => ⟨_, rfl, ?_⟩⟩
    cases cs : areSidesD tops d with
    | false =>
      rw [chain_no cs] at q
      exact iteT (q _ s1)
    | true =>
    refine iteF ?_
    obtain ⟨ds, rfl⟩ : ∃ ds, d = .tuple ds := by
      rcases tup_or d with h | h
      · exact h
      · rw [areS_no h] at cs
        cases cs
    have cs' : ds.all (sideD tops) = true := cs
    cases hd with
    | tup ec ha =>
    rename_i c xs
    have ll0 := ha.len
    have l4' : ds.length ≤ 200000 := l4
    obtain ⟨L, rfl, hL, okL, eL⟩ := sides_at ha cs'
    have lL : L.length = ds.length := by
      have := congrArg List.length eL
      rwa [List.length_map, List.length_map] at this
    have l200000 : L.length ≤ 200000 := by omega
    have eF : chainD tops rs (.tuple ds) = (!L.isEmpty && chB tops rs (L.map (·.2))) := by
      show (ds.all (sideD tops) && (!ds.isEmpty && chB tops rs (ds.map sdOf))) = _
      rw [cs', Bool.true_and, eL]
      congr 2
      cases L <;> cases ds <;> first | rfl | (simp at lL)
    rw [eF] at q
    have ec1 : SqT K H1 c _ := .inl (.inl (s1 _ _ ec))
    refine ⟨.ref c, rfl, Nat.zero_le _, fun e ne => ⟨c, e, _, rfl, rfl, sameT (same_new ne) ec1, .inl (.inl upd_same), _, rfl, ?_⟩⟩
    have se := same_new (o := HO.tup []) ne
    have s2 := s1.trans se
    cases L with
    | nil => exact iteT (q _ s2)
    | cons z0 L0 =>
      refine iteF ?_
      have ec2 := sameT se ec1
      generalize upd H1 e (.tup []) = H2 at s2 ec2 ⊢
      refine ⟨.ref c, rfl, .ref c, rfl, ?_⟩
      refine ⟨1, rfl, ?_⟩
      show tNoPart _ _ _
      unfold tNoPart
      refine cut_one ec2 (by show 1 ≤ _ + 1; omega) fun g H3 s3 eg => ?_
      have eg' : H3 g = some (.tup (sdR L0)) := eg
      have ec3 := sameT s3 ec2
      have hp3 := hp.keep (.same (s2.trans s3))
      have hL3 := hL.keep (.same (s2.trans s3))
      have ll : (sdR L0).length ≤ (sdR (z0 :: L0)).length := by
        show (L0.map fun z => V.ref z.1).length ≤ ((z0 :: L0).map fun z => V.ref z.1).length
        rw [List.length_map, List.length_map, List.length_cons]
        omega
      refine ⟨c, g, _, _, rfl, .inr ⟨ec3, .inl (.inl eg'), fun D nD => lc_it (walk_zipS (xs := sdR (z0 :: L0)) (ys := sdR L0) ll) (fun i H' => Same H3 H' ∧ H' D = some (.lst ((((((z0 :: L0).map (·.2)).zip (L0.map (·.2))).take i).map fun p => ldsB tops rs p.1 p.2).map V.bl))) ⟨same_new nD, upd_same⟩ (fun i H' _ y => ⟨sameT y.1 ec3, .inl (.inl (y.1 _ _ eg'))⟩) (fun i v H4 H5 hi y z => ?_) (fun H4 y => ?_)⟩⟩
      · obtain ⟨s4, eD⟩ := y
        obtain ⟨T', v1, v2, rfl, nT, rfl, g1, g2⟩ := z
        obtain ⟨a, ea, rfl⟩ := mapGet g1
        obtain ⟨b, eb, rfl⟩ := mapGet g2
        have sT := same_new (o := HO.tup [V.ref a.1, V.ref b.1]) nT
        have s34 := s4.trans sT
        have ma := List.mem_of_getElem? ea
        have mb : b ∈ z0 :: L0 := List.mem_cons_of_mem _ (List.mem_of_getElem? eb)
        have hi' : i < L0.length := (List.getElem?_eq_some_iff.mp eb).1
        have ez : (((z0 :: L0).map (·.2)).zip (L0.map (·.2)))[i]? = some (a.2, b.2) := by
          rw [List.getElem?_zip_eq_some]
          exact ⟨by rw [List.getElem?_map, ea]; rfl, by rw [List.getElem?_map, eb]; rfl⟩
        refine ⟨T', _, rfl, .inl (.inl upd_same), rfl, _, _, rfl, _, _, rfl, rfl, wipe_two, .ref x, rfl, .ref a.1, rfl, .ref b.1, rfl, x, a.1, b.1, tops, rs, a.2, b.2, rfl, hp3.keep (.same s34), (hL3 a ma).keep (.same s34), (hL3 b mb).keep (.same s34), okL a ma, okL b mb, rok, l40, fun H6 s6 => ?_⟩
        refine ⟨_, (sT.trans s6) _ _ eD, ?_, same_over (s34.trans s6) nD, ?_⟩
        · rw [List.length_map, List.length_map, List.length_take]
          have : (z0 :: L0).length ≤ 200000 := l200000
          rw [List.length_cons] at this
          exact line_lt (by omega)
        · rw [upd_same, List.take_add_one, ez, List.map_append, List.map_append]
          rfl
      · obtain ⟨s4, eD⟩ := y
        have lz : (((z0 :: L0).map (·.2)).zip (L0.map (·.2))).length = (sdR L0).length := by
          rw [List.length_zip, List.length_map, List.length_map, List.length_map, List.length_cons]
          omega
        rw [← lz, List.take_length] at eD
        refine ⟨D, _, rfl, .inl (.inl eD), ?_⟩
        have e : (((((z0 :: L0).map (·.2)).zip (L0.map (·.2))).map fun p => ldsB tops rs p.1 p.2).all id) = (!(z0 :: L0).isEmpty && chB tops rs ((z0 :: L0).map (·.2))) := by
          rw [List.all_map]
          rfl
        rw [e]
        exact q _ ((s2.trans s3).trans s4)
end
end K16

set_option Elab.async false
set_option linter.all false
set_option maxRecDepth 100000
set_option maxHeartbeats 1000000
/-! enumerate of a zip of two tuples. -/
namespace NB
open PySem PySem.Spec PyProof.Rows L2
open PySem.Sem (wp)

section
variable {prog : Program} {w : World} {A : Around} {E : Value → Shared → Prop} {s : Shared} {z ti to i1 i2 l1 l2 : Addr} {a a1 a2 : Value} {f : Bool} {xs ys : Array Value} {i : Nat}
abbrev St2z (h : Heap) (i1 i2 l1 l2 : Addr) (xs ys : Array Value) (i : Nat) : Prop :=
  (h.IsTupleIter i1 l1 i ∧ h.IsTuple l1 xs) ∧ (h.IsTupleIter i2 l2 i ∧ h.IsTuple l2 ys)
structure Far2z (z ti to i1 i2 l1 l2 : Addr) : Prop where
  tiz : ti ≠ z
  toz : to ≠ z
  tito : ti ≠ to
  ti1 : ti ≠ i1
  ti2 : ti ≠ i2
  to1 : to ≠ i1
  to2 : to ≠ i2
  z1 : i1 ≠ z
  z2 : i2 ≠ z
  n12 : i1 ≠ i2
  l1n : l1 ≠ z ∧ l1 ≠ to ∧ l1 ≠ i1 ∧ l1 ≠ i2
  l2n : l2 ≠ z ∧ l2 ≠ to ∧ l2 ≠ i1 ∧ l2 ≠ i2
theorem next2z {x1 x2 : Value} {Q : Value → Shared → Prop} (D : Far2z z ti to i1 i2 l1 l2) (ho : Out a) (hz : Zat s.heap z ti to a (.bool f))
    (hI : IsTupOf2 s.heap ti (.ref i1) (.ref i2)) (hO : IsTupOf2 s.heap to a1 a2) (st : St2z s.heap i1 i2 l1 l2 xs ys i)
    (hx : xs[i]? = some x1) (hy : ys[i]? = some x2)
    (hQ : ∀ (h' : Heap) (a' : Value) (g : Bool) (b1 b2 : Value), Out a' → Zat h' z ti to a' (.bool g) → IsTupOf2 h' to b1 b2 → St2z h' i1 i2 l1 l2 xs ys (i + 1) → IsTupOf2 h' s.heap.objs.size x1 x2 → h'.objs.size = s.heap.objs.size + 1 →
      (∀ c o, c ≠ z → c ≠ to → c ≠ i1 → c ≠ i2 → s.heap.get? c = some o → h'.get? c = some o) → Q (.ref s.heap.objs.size) { s with heap := h' }) :
    wpAny (model prog w) A (Builtin.«zip.__next__» ⟨[.ref z], []⟩) (fun fin s' => ∃ v, fin = .done (.ret v) ∧ Q v s') E s := by
  obtain ⟨hp, gg, dd, tk, os⟩ := s
  show wpAny _ _ (field (.ref z) 2 >>= _) _ _ _
  refine wpAny_bind (wpAny_field hz rfl (x := .bool false) rfl ?_)
  show wpAny _ _ (field (.ref z) 3 >>= _) _ _ _
  refine wpAny_bind (wpAny_field hz rfl (x := .ref ti) rfl ?_)
  refine wpAny_bind (wpAny_seqItems hI rfl ?_)
  show wpAny _ _ (Builtin.SmallTypes.ownedTupleIsFree (.ref z) >>= _) _ _ _
  refine wpAny_bind (freeOr ho hz fun b h1 f1 hz1 hs1 => ?_)
  replace hs1 : Heap.SameBut z hp h1 := hs1
  obtain ⟨sa, sb⟩ := st
  have sa1 := keepIt sa hs1 D.z1 D.l1n.1
  have sb1 := keepIt sb hs1 D.z2 D.l2n.1
  have hO1 : IsTupOf2 h1 to a1 a2 := hs1.extBut _ _ D.toz hO
  cases b with
  | false =>
    simp only [Bool.false_eq_true, if_false]
    refine wpAny_bind ?_
    rw [← Array.forIn_toList]
    simp only [List.forIn_cons, List.forIn_nil]
    refine wpAny_bind (wpAny_bind (wpAny_holding ?_))
    show wpAny _ _ (Builtin.SmallTypes.nextOf (.ref i1) >>= _) _ _ ⟨h1, gg, dd, tk, os⟩
    refine wpAny_bind (drawT (s := ⟨h1, gg, dd, tk, os⟩) sa1 D.l1n.2.2.1 hx fun h2 sa2 hs2 => wpAny_pure (wpAny_pure ?_))
    replace hs2 : Heap.SameBut i1 h1 h2 := hs2
    have sb2 := keepIt sb1 hs2 D.n12.symm D.l2n.2.2.1
    refine wpAny_bind (wpAny_bind (wpAny_holding ?_))
    show wpAny _ _ (Builtin.SmallTypes.nextOf (.ref i2) >>= _) _ _ ⟨h2, gg, dd, tk, os⟩
    refine wpAny_bind (drawT (s := ⟨h2, gg, dd, tk, os⟩) sb2 D.l2n.2.2.2 hy fun h3 sb3 hs3 => wpAny_pure (wpAny_pure (wpAny_pure ?_)))
    replace hs3 : Heap.SameBut i2 h2 h3 := hs3
    have sa3 := keepIt sa2 hs3 D.n12 D.l1n.2.2.2
    show wpAny _ _ (newTuple [x1, x2] >>= _) _ _ ⟨h3, gg, dd, tk, os⟩
    refine wpAny_bind (wpAny_newTuple (wpAny_pure ⟨_, rfl, ?_⟩))
    have sz : h3.objs.size = hp.objs.size := by rw [hs3.1, hs2.1, hs1.1]
    have kk : ∀ c o, c ≠ z → c ≠ i1 → c ≠ i2 → hp.get? c = some o → h3.get? c = some o := fun c o c0 c1 c2 e =>
      hs3.extBut _ _ c2 (hs2.extBut _ _ c1 (hs1.extBut _ _ c0 e))
    have hz3 : Zat h3 z ti to a (.bool f1) := hs3.extBut _ _ D.z2.symm (hs2.extBut _ _ D.z1.symm hz1)
    have hO3 : IsTupOf2 h3 to a1 a2 := kk _ _ D.toz D.to1 D.to2 hO
    have up : ∀ c o, h3.get? c = some o → (h3.push { cls := .type "tuple", data := .seq #[x1, x2] }).get? c = some o := fun c o e => Heap.get?_push_of_some _ e
    have nw : IsTupOf2 (h3.push { cls := .type "tuple", data := .seq #[x1, x2] }) h3.objs.size x1 x2 := Heap.get?_push_size _ rfl
    have zw : (h3.push { cls := .type "tuple", data := .seq #[x1, x2] }).objs.size = h3.objs.size + 1 := Heap.size_push ..
    show Q (.ref h3.objs.size) _
    rw [sz] at nw zw ⊢
    exact hQ _ a f1 a1 a2 ho (up _ _ hz3) (up _ _ hO3)
      ⟨⟨sa3.1.at fun o e => up _ o e, sa3.2.push _⟩, ⟨sb3.1.at fun o e => up _ o e, sb3.2.push _⟩⟩ nw zw
      fun c o c0 _ c1 c2 e => up c o (kk c o c0 c1 c2 e)
  | true =>
    simp only [if_true]
    refine wpAny_bind (wpAny_rule ?_)
    refine wpAny_bind (wpAny_field (s := ⟨h1, gg, dd, tk, os⟩) hz1 rfl (x := .ref to) rfl ?_)
    refine wpAny_bind (wpAny_setField_rec (s := ⟨h1, gg, dd, tk, os⟩) hz1 (by simp) fun g0 z0 s0 => ?_)
    replace z0 : Zat g0 z ti to .ellipsis (.bool f1) := z0
    replace s0 : Heap.SameBut z h1 g0 := s0
    have ta0 := keepIt sa1 s0 D.z1 D.l1n.1
    have tb0 := keepIt sb1 s0 D.z2 D.l2n.1
    have o0 : IsTupOf2 g0 to a1 a2 := s0.extBut _ _ D.toz hO1
    refine wpAny_bind ?_
    simp only [List.zipIdx_cons, List.zipIdx_nil, List.forIn_cons, List.forIn_nil]
    refine wpAny_bind (wpAny_bind (wpAny_onRaise ?_))
    show wpAny _ _ (Builtin.SmallTypes.nextOf (.ref i1) >>= _) _ _ ⟨g0, gg, dd, tk, os⟩
    refine wpAny_bind (drawT (s := ⟨g0, gg, dd, tk, os⟩) ta0 D.l1n.2.2.1 hx fun p1 ta1 s1 => wpAny_pure ?_)
    replace s1 : Heap.SameBut i1 g0 p1 := s1
    have o1 : IsTupOf2 p1 to a1 a2 := s1.extBut _ _ D.to1 o0
    refine wpAny_bind (wpAny_seqItems (s := ⟨p1, gg, dd, tk, os⟩) o1 rfl ?_)
    refine wpAny_bind (updateSeq_IsTupOf2 (s := ⟨p1, gg, dd, tk, os⟩) o1 fun q1 u1 r1 => wpAny_bind (wpAny_letGo (wpAny_pure ?_)))
    replace u1 : IsTupOf2 q1 to x1 a2 := u1
    replace r1 : Heap.SameBut to p1 q1 := r1
    have ta2 := keepIt ta1 r1 D.to1.symm D.l1n.2.1
    have tb2 := keepIt (keepIt tb0 s1 D.n12.symm D.l2n.2.2.1) r1 D.to2.symm D.l2n.2.1
    refine wpAny_bind (wpAny_bind (wpAny_onRaise ?_))
    show wpAny _ _ (Builtin.SmallTypes.nextOf (.ref i2) >>= _) _ _ ⟨q1, gg, dd, tk, os⟩
    refine wpAny_bind (drawT (s := ⟨q1, gg, dd, tk, os⟩) tb2 D.l2n.2.2.2 hy fun p2 tb3 s2 => wpAny_pure ?_)
    replace s2 : Heap.SameBut i2 q1 p2 := s2
    have o2 : IsTupOf2 p2 to x1 a2 := s2.extBut _ _ D.to2 u1
    refine wpAny_bind (wpAny_seqItems (s := ⟨p2, gg, dd, tk, os⟩) o2 rfl ?_)
    refine wpAny_bind (updateSeq_IsTupOf2 (s := ⟨p2, gg, dd, tk, os⟩) o2 fun q2 u2 r2 => wpAny_bind (wpAny_letGo (wpAny_pure (wpAny_pure ?_))))
    replace u2 : IsTupOf2 q2 to x1 x2 := u2
    replace r2 : Heap.SameBut to p2 q2 := r2
    have ta4 := keepIt (keepIt ta2 s2 D.n12 D.l1n.2.2.2) r2 D.to1.symm D.l1n.2.1
    have tb4 := keepIt tb3 r2 D.to2.symm D.l2n.2.1
    refine wpAny_bind (wpAny_seqItems (s := ⟨q2, gg, dd, tk, os⟩) u2 rfl (wpAny_bind (wpAny_newTuple ?_)))
    have sz : q2.objs.size = hp.objs.size := by rw [r2.1, s2.1, r1.1, s1.1, s0.1, hs1.1]
    have hz3 : Zat q2 z ti to .ellipsis (.bool f1) := r2.extBut _ _ D.toz.symm (s2.extBut _ _ D.z2.symm (r1.extBut _ _ D.toz.symm (s1.extBut _ _ D.z1.symm z0)))
    have kk : ∀ c o, c ≠ z → c ≠ to → c ≠ i1 → c ≠ i2 → hp.get? c = some o → q2.get? c = some o := fun c o c0 ct c1 c2 e =>
      r2.extBut _ _ ct (s2.extBut _ _ c2 (r1.extBut _ _ ct (s1.extBut _ _ c1 (s0.extBut _ _ c0 (hs1.extBut _ _ c0 e)))))
    have zlt : z < q2.objs.size := Heap.lt_size hz3
    show wpAny _ _ (Builtin.SmallTypes.ownedTupleHandOut (.ref z) (.ref q2.objs.size) >>= _) _ _ ⟨q2.push { cls := .type "tuple", data := .seq #[x1, x2] }, gg, dd, tk, os⟩
    refine wpAny_bind ?_
    unfold Builtin.SmallTypes.ownedTupleHandOut
    have z5 : Zat (q2.push { cls := .type "tuple", data := .seq #[x1, x2] }) z ti to .ellipsis (.bool f1) := Heap.get?_push_of_some _ hz3
    refine wpAny_bind (wpAny_setField_rec z5 (by simp) fun h7 z7 s7 => ?_)
    replace z7 : Zat h7 z ti to (rawInt q2.objs.size) (.bool f1) := z7
    replace s7 : Heap.SameBut z (q2.push { cls := .type "tuple", data := .seq #[x1, x2] }) h7 := s7
    refine wpAny_setField_rec z7 (by simp) fun h8 z8 s8 => ?_
    replace z8 : Zat h8 z ti to (rawInt q2.objs.size) (.bool false) := z8
    replace s8 : Heap.SameBut z h7 h8 := s8
    have up : ∀ c o, c ≠ z → q2.get? c = some o → h8.get? c = some o := fun c o c1 e => s8.extBut _ _ c1 (s7.extBut _ _ c1 (Heap.get?_push_of_some _ e))
    have nw : IsTupOf2 h8 q2.objs.size x1 x2 := s8.extBut _ _ (Nat.ne_of_gt zlt) (s7.extBut _ _ (Nat.ne_of_gt zlt) (Heap.get?_push_size _ rfl))
    have zw : h8.objs.size = q2.objs.size + 1 := by rw [s8.1, s7.1, Heap.size_push]
    have fin : ∀ {it l : Addr} {k : Nat} {vs : Array Value}, (q2.IsTupleIter it l k ∧ q2.IsTuple l vs) → it ≠ z → l ≠ z → h8.IsTupleIter it l k ∧ h8.IsTuple l vs := fun {it l k vs} st n1 n2 =>
      keepIt (keepIt ⟨st.1.at fun o e => Heap.get?_push_of_some _ e, st.2.push _⟩ s7 n1 n2) s8 n1 n2
    refine wpAny_pure ⟨_, rfl, ?_⟩
    show Q (.ref q2.objs.size) _
    rw [sz] at nw zw z8 ⊢
    exact hQ h8 _ false x1 x2 (.inr ⟨_, rfl⟩) z8 (up _ _ D.toz u2) ⟨fin ta4 D.z1 D.l1n.1, fin tb4 D.z2 D.l2n.1⟩ nw zw
      fun c o c0 ct c1 c2 e => up c o c0 (kk c o c0 ct c1 c2 e)
theorem end2z {Q : Fin → Shared → Prop} (hh : A.handled = none) (D : Far2z z ti to i1 i2 l1 l2) (ho : Out a) (hz : Zat s.heap z ti to a (.bool f))
    (hI : IsTupOf2 s.heap ti (.ref i1) (.ref i2)) (st : s.heap.IsTupleIter i1 l1 i ∧ s.heap.IsTuple l1 xs) (hx : xs[i]? = none)
    (hE : ∀ h' e, (∀ c o, c ≠ z → c ≠ to → c ≠ i1 → c ≠ i2 → s.heap.get? c = some o → h'.get? c = some o) → (∃ o, h'.get? e = some o ∧ o.cls = .type "StopIteration") → E (.ref e) { s with heap := h' }) :
    wpAny (model prog w) A (Builtin.«zip.__next__» ⟨[.ref z], []⟩) Q E s := by
  obtain ⟨hp, gg, dd, tk, os⟩ := s
  show wpAny _ _ (field (.ref z) 2 >>= _) _ _ _
  refine wpAny_bind (wpAny_field hz rfl (x := .bool false) rfl ?_)
  show wpAny _ _ (field (.ref z) 3 >>= _) _ _ _
  refine wpAny_bind (wpAny_field hz rfl (x := .ref ti) rfl ?_)
  refine wpAny_bind (wpAny_seqItems hI rfl ?_)
  show wpAny _ _ (Builtin.SmallTypes.ownedTupleIsFree (.ref z) >>= _) _ _ _
  refine wpAny_bind (freeOr ho hz fun b h1 f1 hz1 hs1 => ?_)
  replace hs1 : Heap.SameBut z hp h1 := hs1
  have sa1 := keepIt st hs1 D.z1 D.l1n.1
  cases b with
  | false =>
    simp only [Bool.false_eq_true, if_false]
    refine wpAny_bind ?_
    rw [← Array.forIn_toList]
    simp only [List.forIn_cons, List.forIn_nil]
    refine wpAny_bind (wpAny_bind (wpAny_holding ?_))
    show wpAny _ _ (Builtin.SmallTypes.nextOf (.ref i1) >>= _) _ _ ⟨h1, gg, dd, tk, os⟩
    refine wpAny_bind (RZ.nextOf_tuple_end (s := ⟨h1, gg, dd, tk, os⟩) hh sa1.1 sa1.2 hx fun h2 e hs2 he => ?_)
    exact hE h2 e (fun c o c0 _ c1 _ q => hs2 _ _ c1 (hs1.extBut _ _ c0 q)) he
  | true =>
    simp only [if_true]
    refine wpAny_bind (wpAny_rule ?_)
    refine wpAny_bind (wpAny_field (s := ⟨h1, gg, dd, tk, os⟩) hz1 rfl (x := .ref to) rfl ?_)
    refine wpAny_bind (wpAny_setField_rec (s := ⟨h1, gg, dd, tk, os⟩) hz1 (by simp) fun g0 z0 s0 => ?_)
    replace z0 : Zat g0 z ti to .ellipsis (.bool f1) := z0
    replace s0 : Heap.SameBut z h1 g0 := s0
    have ta0 := keepIt sa1 s0 D.z1 D.l1n.1
    refine wpAny_bind ?_
    simp only [List.zipIdx_cons, List.zipIdx_nil, List.forIn_cons, List.forIn_nil]
    refine wpAny_bind (wpAny_bind (wpAny_onRaise ?_))
    show wpAny _ _ (Builtin.SmallTypes.nextOf (.ref i1) >>= _) _ _ ⟨g0, gg, dd, tk, os⟩
    refine wpAny_bind (RZ.nextOf_tuple_end (s := ⟨g0, gg, dd, tk, os⟩) hh ta0.1 ta0.2 hx fun h2 e hs2 he => ?_)
    obtain ⟨oe, hoe, hce⟩ := he
    replace hs2 : Heap.ExtBut i1 g0 h2 := hs2
    replace hoe : h2.get? e = some oe := hoe
    have z2 : Zat h2 z ti to .ellipsis (.bool f1) := hs2 _ _ D.z1.symm z0
    have ne : e ≠ z := fun q => by subst q; rw [z2] at hoe; cases hoe; simp at hce
    refine wpAny_setField_rec (s := ⟨h2, gg, dd, tk, os⟩) z2 (by simp) fun h3 _ s3 => ?_
    replace s3 : Heap.SameBut z h2 h3 := s3
    exact hE h3 e (fun c o c0 _ c1 _ q => s3.extBut _ _ c0 (hs2 _ _ c1 (s0.extBut _ _ c0 (hs1.extBut _ _ c0 q)))) ⟨oe, s3.extBut _ _ ne hoe, hce⟩
theorem nextOfZ {x1 x2 : Value} {Q : Value → Shared → Prop} (D : Far2z z ti to i1 i2 l1 l2) (ho : Out a) (hz : Zat s.heap z ti to a (.bool f))
    (hI : IsTupOf2 s.heap ti (.ref i1) (.ref i2)) (hO : IsTupOf2 s.heap to a1 a2) (st : St2z s.heap i1 i2 l1 l2 xs ys i)
    (hx : xs[i]? = some x1) (hy : ys[i]? = some x2)
    (hQ : ∀ (h' : Heap) (a' : Value) (g : Bool) (b1 b2 : Value), Out a' → Zat h' z ti to a' (.bool g) → IsTupOf2 h' to b1 b2 → St2z h' i1 i2 l1 l2 xs ys (i + 1) → IsTupOf2 h' s.heap.objs.size x1 x2 → h'.objs.size = s.heap.objs.size + 1 →
      (∀ c o, c ≠ z → c ≠ to → c ≠ i1 → c ≠ i2 → s.heap.get? c = some o → h'.get? c = some o) → Q (.ref s.heap.objs.size) { s with heap := h' }) :
    wpAny (model prog w) A (Builtin.SmallTypes.nextOf (.ref z)) Q E s := by
  have ty : s.TypeIs (.ref z) "zip" := ⟨_, hz, rfl⟩
  unfold Builtin.SmallTypes.nextOf
  refine wpAny_bind (wpAny_callSpecial?_slot (name := Str.ofString "__next__") ty F.slot_zip_next (wpAny_call_entry F.slot_zip_next ty F.entry_zip_next ?_ (F.args_zip_next_1 _)))
  exact next2z D ho hz hI hO st hx hy fun h' a' g b1 b2 c1 c2 c3 c4 c5 c6 c7 => wpAny_pure (hQ h' a' g b1 b2 c1 c2 c3 c4 c5 c6 c7)
theorem nextOfZ_end {Q : Value → Shared → Prop} (hh : A.handled = none) (D : Far2z z ti to i1 i2 l1 l2) (ho : Out a) (hz : Zat s.heap z ti to a (.bool f))
    (hI : IsTupOf2 s.heap ti (.ref i1) (.ref i2)) (st : s.heap.IsTupleIter i1 l1 i ∧ s.heap.IsTuple l1 xs) (hx : xs[i]? = none)
    (hE : ∀ h' e, (∀ c o, c ≠ z → c ≠ to → c ≠ i1 → c ≠ i2 → s.heap.get? c = some o → h'.get? c = some o) → (∃ o, h'.get? e = some o ∧ o.cls = .type "StopIteration") → E (.ref e) { s with heap := h' }) :
    wpAny (model prog w) A (Builtin.SmallTypes.nextOf (.ref z)) Q E s := by
  have ty : s.TypeIs (.ref z) "zip" := ⟨_, hz, rfl⟩
  unfold Builtin.SmallTypes.nextOf
  refine wpAny_bind (wpAny_callSpecial?_slot (name := Str.ofString "__next__") ty F.slot_zip_next (wpAny_call_entry F.slot_zip_next ty F.entry_zip_next ?_ (F.args_zip_next_1 _)))
  exact end2z hh D ho hz hI st hx hE
end

section
variable {prog : Program} {w : World} {A : Around} {E : Value → Shared → Prop} {s : Shared} {e z ti to i1 i2 l1 l2 : Addr} {a a1 a2 old : Value} {f : Bool} {xs ys : Array Value} {i : Nat} {c : Int}
/-- the enumerate's next over a zip: h₁ is the heap behind the zip's own next -/
theorem enumZ_next {x1 x2 : Value} {Q : Value → Shared → Prop} (D : Far2z z ti to i1 i2 l1 l2) (he : IsEnum s.heap e z c old) (n1 : e ≠ z) (n2 : e ≠ to) (n3 : e ≠ i1) (n4 : e ≠ i2)
    (ho : Out a) (hz : Zat s.heap z ti to a (.bool f)) (hI : IsTupOf2 s.heap ti (.ref i1) (.ref i2)) (hO : IsTupOf2 s.heap to a1 a2) (st : St2z s.heap i1 i2 l1 l2 xs ys i) (hx : xs[i]? = some x1) (hy : ys[i]? = some x2)
    (hQ : ∀ (h₁ : Heap) (a' : Value) (g : Bool) (b1 b2 : Value), Out a' → Zat h₁ z ti to a' (.bool g) → IsTupOf2 h₁ to b1 b2 → St2z h₁ i1 i2 l1 l2 xs ys (i + 1) → IsTupOf2 h₁ s.heap.objs.size x1 x2 → h₁.objs.size = s.heap.objs.size + 1 →
      (∀ c o, c ≠ z → c ≠ to → c ≠ i1 → c ≠ i2 → s.heap.get? c = some o → h₁.get? c = some o) → IsEnum h₁ e z c old →
      ∀ h', IsEnumOut h' e z (c + 1) (.ref s.heap.objs.size) h₁.objs.size → h'.get? h₁.objs.size = some { cls := .type "tuple", data := .seq #[.int c s.toks, .ref s.heap.objs.size] } → (∀ b o, b ≠ e → h₁.get? b = some o → h'.get? b = some o) →
      Q (.ref h₁.objs.size) { s with heap := h', toks := s.toks + 1 }) :
    wpAny (model prog w) A (Builtin.«enumerate.__next__» ⟨[.ref e], []⟩) (fun fin s' => ∃ v, fin = .done (.ret v) ∧ Q v s') E s := by
  obtain ⟨hp, g, d, tk, os⟩ := s
  show wpAny _ _ (field (.ref e) 2 >>= _) _ _ _
  refine wpAny_bind (wpAny_field he rfl (x := .ref z) rfl ?_)
  refine wpAny_bind (nextOfZ D ho hz hI hO st hx hy fun h₁ a' g' b1 b2 ho' hz' hO' st' hT hsz hk => ?_)
  have he₁ : IsEnum h₁ e z c old := hk _ _ n1 n2 n3 n4 he
  have hq := hQ h₁ a' g' b1 b2 ho' hz' hO' st' hT hsz hk he₁
  clear hQ
  generalize hx' : Value.ref (Shared.heap ⟨hp, g, d, tk, os⟩).objs.size = x at hq ⊢
  show wpAny _ _ (field (.ref e) 3 >>= _) _ _ ⟨h₁, g, d, tk, os⟩
  refine wpAny_bind (wpAny_field he₁ rfl (x := rawInt c) rfl ?_)
  show wpAny _ _ (field (.ref e) 4 >>= _) _ _ ⟨h₁, g, d, tk, os⟩
  refine wpAny_bind (wpAny_field he₁ rfl (x := .none) rfl ?_)
  show wpAny _ _ (mkInt c >>= _) _ _ ⟨h₁, g, d, tk, os⟩
  refine wpAny_bind (wpAny_mkInt ?_)
  show wpAny _ _ (setField (.ref e) 3 (rawInt (c + 1)) >>= _) _ _ ⟨h₁, g, d, tk + 1, os⟩
  refine wpAny_bind (wpAny_setField_rec he₁ (by simp) fun h₂ he₂ hs₂ => ?_)
  replace hs₂ : Heap.SameBut e h₁ h₂ := hs₂
  replace he₂ : IsEnum h₂ e z (c + 1) old := he₂
  show wpAny _ _ (setField (.ref e) 4 .none >>= _) _ _ ⟨h₂, g, d, tk + 1, os⟩
  refine wpAny_bind (wpAny_setField_rec he₂ (by simp) fun h₃ he₃ hs₃ => ?_)
  replace hs₃ : Heap.SameBut e h₂ h₃ := hs₃
  replace he₃ : IsEnum h₃ e z (c + 1) old := he₃
  show wpAny _ _ (newTuple [.int c tk, x] >>= _) _ _ ⟨h₃, g, d, tk + 1, os⟩
  refine wpAny_bind (wpAny_newTuple ?_)
  have he₄ : IsEnum (h₃.push { cls := .type "tuple", data := .seq #[.int c tk, x] }) e z (c + 1) old := Heap.get?_push_of_some _ he₃
  generalize hh₄ : h₃.push { cls := .type "tuple", data := .seq #[.int c tk, x] } = h₄ at he₄
  have hsz3 : h₃.objs.size = h₁.objs.size := by rw [hs₃.1, hs₂.1]
  have hel : e < h₁.objs.size := Heap.lt_size he₁
  have ht₄ : h₄.get? h₁.objs.size = some { cls := .type "tuple", data := .seq #[.int c tk, x] } := by rw [← hh₄, ← hsz3]; exact Heap.get?_push_size _ rfl
  have hk₄ : ∀ b o, b ≠ e → h₁.get? b = some o → h₄.get? b = some o := fun b o hbe hb => by
    rw [← hh₄]; exact Heap.get?_push_of_some _ (hs₃.extBut b o hbe (hs₂.extBut b o hbe hb))
  show wpAny _ _ (Builtin.SmallTypes.ownedTupleIsFree (.ref e) >>= _) _ _ ⟨h₄, g, d, tk + 1, os⟩
  rw [hsz3]
  clear hh₄ he₃ hs₃ he₂ hs₂ hsz3 h₃ h₂
  refine wpAny_bind ?_
  · unfold Builtin.SmallTypes.ownedTupleIsFree
    refine wpAny_bind (wpAny_field he₄ rfl (x := .none) rfl (wpAny_pure ?_))
    simp only [if_true]
    refine wpAny_bind (wpAny_rule ?_)
    refine wpAny_bind (wpAny_field he₄ rfl (x := old) rfl ?_)
    refine wpAny_bind (wpAny_setField_rec he₄ (by simp) fun h₅ he₅ hs₅ => ?_)
    replace hs₅ : Heap.SameBut e h₄ h₅ := hs₅
    replace he₅ : IsEnum h₅ e z (c + 1) x := he₅
    show wpAny _ _ (Builtin.SmallTypes.ownedTupleHandOut (.ref e) (.ref h₁.objs.size) >>= _) _ _ ⟨h₅, g, d, tk + 1, os⟩
    refine wpAny_bind ?_
    · unfold Builtin.SmallTypes.ownedTupleHandOut
      refine wpAny_bind (wpAny_setField_rec he₅ (by simp) fun h₆ he₆ hs₆ => ?_)
      replace hs₆ : Heap.SameBut e h₅ h₆ := hs₆
      replace he₆ : IsEnumOut h₆ e z (c + 1) x h₁.objs.size := he₆
      refine wpAny_setField_rec he₆ (by simp) fun h₇ he₇ hs₇ => ?_
      replace hs₇ : Heap.SameBut e h₆ h₇ := hs₇
      replace he₇ : IsEnumOut h₇ e z (c + 1) x h₁.objs.size := he₇
      refine wpAny_bind (wpAny_letGo (wpAny_pure ⟨_, rfl, hq h₇ he₇ ?_ ?_⟩))
      · exact hs₇.extBut _ _ (Nat.ne_of_gt hel) (hs₆.extBut _ _ (Nat.ne_of_gt hel) (hs₅.extBut _ _ (Nat.ne_of_gt hel) ht₄))
      · exact fun b o hbe hb => hs₇.extBut b o hbe (hs₆.extBut b o hbe (hs₅.extBut b o hbe (hk₄ b o hbe hb)))
theorem enumZ_end {Q : Option Value → Shared → Prop} (hh : A.in1.handled = none) (D : Far2z z ti to i1 i2 l1 l2) (he : IsEnum s.heap e z c old)
    (ho : Out a) (hz : Zat s.heap z ti to a (.bool f)) (hI : IsTupOf2 s.heap ti (.ref i1) (.ref i2)) (st : s.heap.IsTupleIter i1 l1 i ∧ s.heap.IsTuple l1 xs) (hx : xs[i]? = none)
    (hQ : ∀ h', (∀ c o, c ≠ z → c ≠ to → c ≠ i1 → c ≠ i2 → s.heap.get? c = some o → h'.get? c = some o) → Q none { s with heap := h' }) : wpAny (model prog w) A (pyNext (.ref e)) Q E s := by
  have hT : s.TypeIs (.ref e) "enumerate" := ⟨_, he, rfl⟩
  unfold pyNext
  refine wpAny_bind (wpAny_attempt (wpAny_callSpecial?_slot (name := Str.ofString "__next__") hT F.slot_enumerate_next
    (wpAny_call_entry F.slot_enumerate_next hT F.entry_enumerate_next ?_ (F.args_enumerate_next_1 _))))
  show wpAny _ _ (field (.ref e) 2 >>= _) _ _ _
  refine wpAny_bind (wpAny_field he rfl (x := .ref z) rfl ?_)
  refine wpAny_bind (nextOfZ_end hh D ho hz hI st hx fun h' x hk hx' => ?_)
  obtain ⟨o, ho', hc⟩ := hx'
  refine wpAny_bind (wpAny_isInstance (T := "StopIteration") (b := true) ⟨o, ho', hc⟩ isSubtype_stop ?_)
  exact wpAny_pure (hQ _ hk)
end

theorem enumNewZ (z : Addr) : Meets (Builtin.«enumerate.__new__» ⟨[.type "enumerate", .ref z], []⟩) (fun _ R s => (∃ ti to, IsZip s.heap z ti to .none) ∧
      R (.ok (.ret (.ref s.heap.objs.size))) { s with heap := s.heap.push { cls := .type "enumerate", data := .fields #[.none, .bool false, .ref z, rawInt 0, .none, .none] } }) :=
  .of_wp fun prog w A R s h => by
    obtain ⟨hp, g, d, tk, os⟩ := s
    obtain ⟨⟨ti, to, hl⟩, h⟩ := h
    have hsub := sub_enumerate
    have hL : IsZip (Shared.heap ⟨hp, g, d, tk, os⟩) z ti to .none := hl
    wp_walk
    refine wpAny_stack_any fun st => wpAny_pure ?_
    split
    · rename_i c _ _ _ _ _
      cases (c == Value.type "enumerate")
      · wp_walk using wpAny_pyIter_zip hL
        exact ⟨_, rfl, h⟩
      · wp_walk using wpAny_pyIter_zip hL
        exact ⟨_, rfl, h⟩
    · wp_walk using wpAny_pyIter_zip hL
      exact ⟨_, rfl, h⟩
section
variable {prog : Program} {w : World} {A : Around} {E : Value → Shared → Prop} {s : Shared}
theorem enumZ {z ti to : Addr} {Q : Value → Shared → Prop} (hz : IsZip s.heap z ti to .none)
    (h : ∀ h', IsEnum h' s.heap.objs.size z 0 .none → (∀ b o, s.heap.get? b = some o → h'.get? b = some o) → Q (.ref s.heap.objs.size) { s with heap := h' }) :
    wpAny (model prog w) A (call (.type "enumerate") [.ref z]) Q E s := by
  refine callType_new F.called_enumerate (by decide) (F.typeCall_enumerate_1 _) (F.newCall_enumerate_1 _) (fun obj => F.args_object_init_2 obj _) F.entry_enumerate_new (enumNewZ z) ⟨⟨ti, to, hz⟩, ?_⟩
  have he := Heap.get?_push_size s.heap (o := { cls := .type "enumerate", data := .fields #[.none, .bool false, .ref z, rawInt 0, .none, .none] }) rfl
  exact ⟨⟨_, he, rfl⟩, h _ he fun b o x => Heap.get?_push_of_some _ x⟩
end
section
variable {prog : Program} {w : World} {A : Around} {E : Value → Shared → Prop} {s : Shared} {e z ti to i1 i2 l1 l2 : Addr} {a a1 a2 old : Value} {f : Bool} {xs ys : Array Value} {i : Nat} {c : Int}
theorem pyNextEZ {x1 x2 : Value} {Q : Option Value → Shared → Prop} (D : Far2z z ti to i1 i2 l1 l2) (he : IsEnum s.heap e z c old) (n1 : e ≠ z) (n2 : e ≠ to) (n3 : e ≠ i1) (n4 : e ≠ i2)
    (ho : Out a) (hz : Zat s.heap z ti to a (.bool f)) (hI : IsTupOf2 s.heap ti (.ref i1) (.ref i2)) (hO : IsTupOf2 s.heap to a1 a2) (st : St2z s.heap i1 i2 l1 l2 xs ys i) (hx : xs[i]? = some x1) (hy : ys[i]? = some x2)
    (hQ : ∀ (h₁ : Heap) (a' : Value) (g : Bool) (b1 b2 : Value), Out a' → Zat h₁ z ti to a' (.bool g) → IsTupOf2 h₁ to b1 b2 → St2z h₁ i1 i2 l1 l2 xs ys (i + 1) → IsTupOf2 h₁ s.heap.objs.size x1 x2 → h₁.objs.size = s.heap.objs.size + 1 →
      (∀ c o, c ≠ z → c ≠ to → c ≠ i1 → c ≠ i2 → s.heap.get? c = some o → h₁.get? c = some o) → IsEnum h₁ e z c old →
      ∀ h', IsEnumOut h' e z (c + 1) (.ref s.heap.objs.size) h₁.objs.size → h'.get? h₁.objs.size = some { cls := .type "tuple", data := .seq #[.int c s.toks, .ref s.heap.objs.size] } → (∀ b o, b ≠ e → h₁.get? b = some o → h'.get? b = some o) →
      Q (some (.ref h₁.objs.size)) { s with heap := h', toks := s.toks + 1 }) :
    wpAny (model prog w) A (pyNext (.ref e)) Q E s := by
  have ty : s.TypeIs (.ref e) "enumerate" := ⟨_, he, rfl⟩
  unfold pyNext
  refine wpAny_bind (wpAny_attempt (wpAny_callSpecial?_slot (name := Str.ofString "__next__") ty F.slot_enumerate_next ?_))
  refine wpAny_call_entry F.slot_enumerate_next ty F.entry_enumerate_next ?_ (F.args_enumerate_next_1 _)
  exact enumZ_next D he n1 n2 n3 n4 ho hz hI hO st hx hy fun h₁ a' g b1 b2 c1 c2 c3 c4 c5 c6 c7 c8 h' c9 c10 c11 => wpAny_pure (hQ h₁ a' g b1 b2 c1 c2 c3 c4 c5 c6 c7 c8 h' c9 c10 c11)
end
/-- numbers and the pairs of two tuples of one length, side by side -/
def ItEz (K : PySem.W.Frag) (a b : Addr) : It :=
  ⟨fun i H => ∃ (xs ys : List V) (x y : V), SqT K H a xs ∧ SqT K H b ys ∧ xs[i]? = some x ∧ ys[i]? = some y,
    fun i H v H' => ∃ T U x y, v = .ref T ∧ H U = none ∧ upd H U (.tup [x, y]) T = none ∧ H' = upd (upd H U (.tup [x, y])) T (.tup [.int (i : Nat), .ref U]) ∧ (∀ xs, SqT K H a xs → xs[i]? = some x) ∧ ∀ ys, SqT K H b ys → ys[i]? = some y,
    fun i H => ∃ xs : List V, SqT K H a xs ∧ xs.length ≤ i⟩
structure FarE (e z ti to i1 i2 a b : Addr) : Prop where
  D : Far2z z ti to i1 i2 a b
  ez : e ≠ z
  et : e ≠ ti
  eo : e ≠ to
  e1 : e ≠ i1
  e2 : e ≠ i2
  ea : a ≠ e
  eb : b ≠ e
theorem turnEz {P : Program} {w : World} {K : PySem.W.Frag} {elts : List Expr} {kk : Nat} {tpos : Pos} {e z ti to i1 i2 a b : Addr} (F : FarE e z ti to i1 i2 a b) :
    Turn P w K (.Tuple elts kk tpos) (ItEz K a b) [e, z, ti, to, i1, i2] e (fun i h => (∃ old, IsEnum h e z ((i : Nat) : Int) old) ∧ (∃ v f, Out v ∧ Zat h z ti to v (.bool f)) ∧ IsTupOf2 h ti (.ref i1) (.ref i2) ∧ (∃ b1 b2, IsTupOf2 h to b1 b2) ∧
      h.IsTupleIter i1 a i ∧ h.IsTupleIter i2 b i) where
  mem := by simp
  obj := fun i h st q hq => by
    obtain ⟨⟨old, he⟩, ⟨v, f, _, hz⟩, hI, ⟨b1, b2, hO⟩, ⟨o1, e1, _, d1⟩, ⟨o2, e2, _, d2⟩⟩ := st
    have e' : q = e ∨ q = z ∨ q = ti ∨ q = to ∨ q = i1 ∨ q = i2 := by simpa using hq
    rcases e' with r | r | r | r | r | r
    · rw [r]; exact ⟨_, he, fun v q => nomatch q⟩
    · rw [r]; exact ⟨_, hz, fun v q => nomatch q⟩
    · rw [r]; exact ⟨_, hI, fun v q => nomatch q⟩
    · rw [r]; exact ⟨_, hO, fun v q => nomatch q⟩
    · rw [r]; exact ⟨o1, e1, fun v q => by rw [d1] at q; cases q⟩
    · rw [r]; exact ⟨o2, e2, fun v q => by rw [d2] at q; cases q⟩
  keep := fun i h h' st k => by
    obtain ⟨⟨old, he⟩, ⟨v, f, ho, hz⟩, hI, ⟨b1, b2, hO⟩, h1, h2⟩ := st
    exact ⟨⟨old, k e (by simp) _ he⟩, ⟨v, f, ho, k z (by simp) _ hz⟩, k ti (by simp) _ hI, ⟨b1, b2, k to (by simp) _ hO⟩, h1.at fun o q => k i1 (by simp) o q, h2.at fun o q => k i2 (by simp) o q⟩
  item := by
    intro X hP hw hK hc i pins s σ H E I hf st hg
    subst hP hw hK
    obtain ⟨⟨old, he⟩, ⟨v, f, ho, hz⟩, hI, ⟨b1, b2, hO⟩, h1, h2⟩ := st
    obtain ⟨xs, ys, x, y, qx, qy, hx, hy⟩ := hg
    obtain ⟨t1, r1, p1, _⟩ := I.tuple qx
    obtain ⟨t2, r2, p2, _⟩ := I.tuple qy
    obtain ⟨v1, g1, rv1⟩ := r1.get hx
    obtain ⟨v2, g2, rv2⟩ := r2.get hy
    have D := F.D
    have lts : ∀ q ∈ [e, z, ti, to, i1, i2], q < s.heap.objs.size := fun q hq => by
      have e' : q = e ∨ q = z ∨ q = ti ∨ q = to ∨ q = i1 ∨ q = i2 := by simpa using hq
      rcases e' with r | r | r | r | r | r
      · rw [r]; exact Heap.lt_size he
      · rw [r]; exact Heap.lt_size hz
      · rw [r]; exact Heap.lt_size hI
      · rw [r]; exact Heap.lt_size hO
      · rw [r]; obtain ⟨_, e1, _⟩ := h1; exact Heap.lt_size e1
      · rw [r]; obtain ⟨_, e1, _⟩ := h2; exact Heap.lt_size e1
    refine pyNextEZ D he F.ez F.eo F.e1 F.e2 ho hz hI hO ⟨⟨h1, p1⟩, ⟨h2, p2⟩⟩ (x1 := v1) (x2 := v2) (by simpa using g1) (by simpa using g2) fun m a' g c1 c2 ho' hz' hO' st' hT hsz hk he1 h' heo hTT hk' => ?_
    refine ⟨_, rfl, wpAny_letOwnedTupleGo_enum (s := { s with heap := h', toks := s.toks + 1 }) heo fun h'' he' sb => ?_⟩
    replace sb : Heap.SameBut e h' h'' := sb
    have el := lts e (by simp)
    have kk2 : ∀ q o, q ≠ e → m.get? q = some o → h''.get? q = some o := fun q o ne hq => (sb.2 q ne).trans (hk' q o ne hq)
    have new : ObjOk X.prog X.w (upd H s.heap.objs.size (.tup [x, y])) m s.heap.objs.size (.tup [x, y]) :=
      ⟨by show 2 ≤ sizeLine; decide, [v1, v2], .cons rv1 (.cons rv2 .nil), ⟨_, hT, rfl, _, rfl⟩⟩
    have I1 : Inv X pins σ (upd H s.heap.objs.size (.tup [x, y])) { s with heap := m } :=
      I.turnedNew (t' := s.toks) (ch := [e, z, ti, to, i1, i2]) (fun q o hb e => hk q o (fun q' => hb (by simp [q'])) (fun q' => hb (by simp [q'])) (fun q' => hb (by simp [q'])) (fun q' => hb (by simp [q'])) e) hf (Nat.le_refl _) new
    have zl : m.objs.size = s.heap.objs.size + 1 := hsz
    have nT : upd H s.heap.objs.size (.tup [x, y]) m.objs.size = none := I1.hok.fresh (Nat.le_refl _)
    have hT2 : h''.get? m.objs.size = some { cls := .type "tuple", data := .seq #[.int i s.toks, .ref s.heap.objs.size] } := (sb.2 _ (by rw [zl]; exact Nat.ne_of_gt (Nat.lt_succ_of_lt el))).trans hTT
    have new2 : ObjOk X.prog X.w (upd (upd H s.heap.objs.size (.tup [x, y])) m.objs.size (.tup [.int (i : Nat), .ref s.heap.objs.size])) h'' m.objs.size (.tup [.int (i : Nat), .ref s.heap.objs.size]) :=
      ⟨by show 2 ≤ sizeLine; decide, [.int i s.toks, .ref s.heap.objs.size], .cons ⟨_, rfl⟩ (.cons rfl .nil), ⟨_, hT2, rfl, _, rfl⟩⟩
    have I2 : Inv X pins σ (upd (upd H s.heap.objs.size (.tup [x, y])) m.objs.size (.tup [.int (i : Nat), .ref s.heap.objs.size])) { s with heap := h'', toks := s.toks + 1 } :=
      I1.turnedNew (t' := s.toks + 1) (ch := [e]) (fun q o hb hq => kk2 q o (fun q' => hb (by simp [q'])) hq) (fun q hq => by
        have hq' := List.mem_singleton.mp hq
        subst hq'
        have h0 := hf q (by simp)
        exact ⟨by rw [upd_ne (Nat.ne_of_lt el)]; exact h0.1, h0.2⟩) (Nat.le_refl _) new2
    refine ⟨.ref m.objs.size, _, I2, rfl, ⟨m.objs.size, s.heap.objs.size, x, y, rfl, I.hok.fresh (Nat.le_refl _), nT, rfl, fun l hl => by rw [I.tuple_inj hl qx]; exact hx, fun l hl => by rw [I.tuple_inj hl qy]; exact hy⟩, ⟨⟨.ref s.heap.objs.size, ?_⟩, ⟨a', g, ho', kk2 _ _ F.ez.symm hz'⟩, ?_, ⟨c1, c2, kk2 _ _ F.eo.symm hO'⟩, st'.1.1.at fun o q => kk2 _ _ F.e1.symm q, st'.2.1.at fun o q => kk2 _ _ F.e2.symm q⟩, fun q hq => ?_⟩
    · rw [show ((i + 1 : Nat) : Int) = (i : Int) + 1 by omega]
      exact he'
    · exact kk2 _ _ F.et.symm (hk _ _ D.tiz D.tito D.ti1 D.ti2 hI)
    · have lt := lts q hq
      have lt' : q < s.heap.objs.size := lt
      rw [upd_ne (by rw [zl]; exact Nat.ne_of_lt (Nat.lt_succ_of_lt lt')), upd_ne (Nat.ne_of_lt lt')]
      exact (hf q hq).1
  done := by
    intro X hP hw hK hc i pins s σ H E I hf st hg
    subst hP hw hK
    obtain ⟨⟨old, he⟩, ⟨v, f, ho, hz⟩, hI, ⟨b1, b2, hO⟩, h1, h2⟩ := st
    obtain ⟨xs, qx, hlen⟩ := hg
    obtain ⟨t1, r1, p1, _⟩ := I.tuple qx
    have le := r1.length
    refine enumZ_end (I.ok.hd hc) F.D he ho hz hI ⟨h1, p1⟩ (by simp; omega) fun h' hk => ⟨rfl, I.turnedL (t' := s.toks) (ch := [e, z, ti, to, i1, i2]) (fun q o hb e => ?_) hf⟩
    exact hk q o (fun q' => hb (by simp [q'])) (fun q' => hb (by simp [q'])) (fun q' => hb (by simp [q'])) (fun q' => hb (by simp [q'])) e
  self := fun A i s Q E st h => by
    obtain ⟨⟨_, he⟩, _⟩ := st
    exact wpAny_pyIter_enum he h
theorem farE_at (n a b : Nat) (ha : a < n) (hb : b < n) : FarE (n + 5) (n + 4) (n + 2) (n + 3) n (n + 1) a b := by
  constructor
  · constructor <;> first | (show (_ : Nat) ≠ _; omega) | (refine ⟨?_, ?_, ?_, ?_⟩ <;> (show (_ : Nat) ≠ _; omega))
  all_goals (show (_ : Nat) ≠ _; omega)
def iEnumZ (K : PySem.W.Frag) (ta : TA) : TI := fun σ H R => ta σ H fun vs H1 => ∃ a b xs ys, vs = [.ref a, .ref b] ∧ SqT K H1 a xs ∧ SqT K H1 b ys ∧ R (ItEz K a b) H1
theorem pi_enumZ {X : Cx} {es : List Expr} {kk : Nat} {tpos p p2 pos pos2 : Pos} {e e2 : Expr} {ta : TA} (hg : Gl X "enumerate") (hm : X.mg "enumerate" = none) (hg2 : Gl X "zip") (hm2 : X.mg "zip" = none) (ha : PA X [e, e2] ta)
    (hs : starEach [e, e2] X.env = (false, eval e X.env) :: starEach [e2] X.env := by rfl) (hpl : (backTo pos2 (starEach [e2] X.env)).any (·.1) = false := by rfl)
    (hs1 : starEach [.Call (.Name "zip" p2) [e, e2] [] pos2] X.env = (false, eval (.Call (.Name "zip" p2) [e, e2] [] pos2) X.env) :: starEach [] X.env := by rfl) :
    PI X (.Tuple es kk tpos) (.Call (.Name "enumerate" p) [.Call (.Name "zip" p2) [e, e2] [] pos2] [] pos) (iEnumZ X.K ta) := by
  refine ⟨fun pins s σ H R I h => ?_⟩
  refine Call_ (ld_blt I hg hm boot_enumerate (PyProof.Rows.callWith_type1 (args_cons ?_ hs1) hs1))
  refine Call_ (ld_blt I hg2 hm2 PyProof.Rows.boot_zip (PyProof.Rows.callWith_type1 (thn (ha.run pos2 pins s σ H _ I h) fun us s1 h1 => ?_) hs hpl))
  obtain ⟨vs, H1, I1, r1, a, b, xs, ys, rfl, ha1, hb1, q⟩ := h1
  obtain ⟨u1, us, rfl, ru1, r2⟩ : ∃ u us', us = u :: us' ∧ RelV (.ref a) u ∧ Vals [V.ref b] us' := by
    cases r1 with
    | cons r rr => exact ⟨_, _, rfl, r, rr⟩
  obtain ⟨u2, rfl, ru2⟩ : ∃ u, us = [u] ∧ RelV (.ref b) u := by
    cases r2 with
    | cons r rr =>
      cases rr
      exact ⟨_, rfl, r⟩
  obtain rfl : u1 = Value.ref a := ru1
  obtain rfl : u2 = Value.ref b := ru2
  obtain ⟨t1, v1, p1, _⟩ := I1.tuple ha1
  obtain ⟨t2, v2, p2', _⟩ := I1.tuple hb1
  obtain ⟨o1, g1, _⟩ := id p1
  obtain ⟨o2, g2, _⟩ := id p2'
  refine zip_begins2 (begins_tuple a t1.toArray) (begins_tuple b t2.toArray) p1 p2' fun h' hz hI hO e1 e2 hsz hk => args_nil ?_
  refine enumZ (s := { s1 with heap := h' }) hz fun h'' he kp => wpAny_pyIter_enum he ?_
  replace he : IsEnum h'' h'.objs.size (s1.heap.objs.size + 4) 0 .none := he
  replace kp : ∀ b o, h'.get? b = some o → h''.get? b = some o := kp
  have I2 : Inv X pins σ H1 { s1 with heap := h'' } := I1.kept (t' := s1.toks) fun b o x => kp b o (hk b o x)
  show PIE _ _ _ _ _ (.ref h'.objs.size) { s1 with heap := h'' }
  rw [hsz] at he ⊢
  refine ⟨s1.heap.objs.size + 5, [s1.heap.objs.size + 5, s1.heap.objs.size + 4, s1.heap.objs.size + 2, s1.heap.objs.size + 3, s1.heap.objs.size, s1.heap.objs.size + 1], _, _, H1, rfl, I2, turnEz (farE_at s1.heap.objs.size a b (Heap.lt_size g1) (Heap.lt_size g2)),
    ⟨⟨.none, he⟩, ⟨.none, false, .inl rfl, kp _ _ hz⟩, kp _ _ hI, ⟨_, _, kp _ _ hO⟩, ⟨_, kp _ _ e1, rfl, rfl⟩, ⟨_, kp _ _ e2, rfl, rfl⟩⟩, fun q hq => ?_, q⟩
  have le : s1.heap.objs.size ≤ q := by
    simp only [List.mem_cons, List.not_mem_nil, or_false] at hq
    rcases hq with r | r | r | r | r | r <;> rw [r] <;> first | exact Nat.le_add_right _ _ | exact Nat.le_refl _
  exact I1.fpOk le (I1.hok.fresh le)
/-- a new pair of the number and of a new pair of the i-th ones -/
def YEz (xs ys : List V) : Nat → Hp → V → Hp → Prop := fun i H v H' => ∃ T U x y, v = .ref T ∧ H U = none ∧ upd H U (.tup [x, y]) T = none ∧ H' = upd (upd H U (.tup [x, y])) T (.tup [.int (i : Nat), .ref U]) ∧ xs[i]? = some x ∧ ys[i]? = some y
theorem walk_enumZ {K : PySem.W.Frag} {a b : Addr} {xs ys : List V} (h2 : ys.length = xs.length) :
    Walk (ItEz K a b) xs.length (fun H => SqT K H a xs ∧ SqT K H b ys) (YEz xs ys) := by
  refine ⟨fun i _ hi q => ?_, fun _ q => ⟨xs, q.1, Nat.le_refl _⟩, fun i H v H' _ q y => ?_⟩
  · exact ⟨xs, ys, xs[i], ys[i]'(by omega), q.1, q.2, by simp [hi], by simp [show i < ys.length by omega]⟩
  · obtain ⟨T, U, x, y, e1, e2, e3, e4, f1, f2⟩ := y
    exact ⟨T, U, x, y, e1, e2, e3, e4, f1 xs q.1, f2 ys q.2⟩
end NB

set_option Elab.async false
set_option linter.all false
set_option maxRecDepth 100000
namespace K16
open PySem PySem.Spec PyProof.Rows L2 NB

/-! ### papers of the nearest one -/
theorem RCh.ok {tops : List Int} {rs : List Rl} {S : List Sd} (rok : ∀ q ∈ rs, RuleOk tops q) (hS : ∀ s ∈ S, SideOk tops s) : ∀ {R : List Sd}, RCh tops rs S R → ∀ z ∈ R, SideOk tops z
  | _, .one hs, z, hz => by
    rw [List.mem_singleton.mp hz]
    exact hS _ hs
  | _, .cons h m, z, hz => by
    rcases List.mem_cons.mp hz with rfl | hz
    · exact led_ok rok m
    · exact RCh.ok rok hS h z hz
theorem CTo.ok {tops : List Int} {rs : List Rl} {S : List Sd} {s : Sd} {cs : List Sd} (rok : ∀ q ∈ rs, RuleOk tops q) (hS : ∀ s ∈ S, SideOk tops s) (hs : SideOk tops s) (h : CTo tops rs S s cs) : ∀ z ∈ cs, SideOk tops z := fun z hz => by
  rcases h with ⟨rfl, _⟩ | ⟨R, _, rc, _, _, _, h⟩
  · exact absurd hz List.not_mem_nil
  · rcases h with ⟨_, rfl⟩ | ⟨_, rfl⟩
    · exact rc.ok rok hS z (List.mem_reverse.mp hz)
    · rcases List.mem_append.mp hz with h | h
      · exact rc.ok rok hS z (List.mem_reverse.mp h)
      · rw [List.mem_singleton.mp h]
        exact hs
theorem Nrst.uniq {tops : List Int} {rs : List Rl} {W : List Sd} {st n m : List Int} (a : Nrst tops rs W st n) (b : Nrst tops rs W st m) : n = m := by
  refine plc_ext (by rw [goods_len a.good, goods_len b.good]) fun i hi => ?_
  have li : i < tops.length := by rw [← goods_len a.good]; exact hi
  have h1 := a.btw m b.good b.has i li
  have h2 := b.btw n a.good a.has i li
  unfold Btw at h1 h2
  omega
/-- where the nearest one has another place a chain leads to it -/
theorem Nrst.pull {tops : List Int} {rs : List Rl} (rok : ∀ q ∈ rs, RuleOk tops q) (pl : ∀ i, i < tops.length → 0 ≤ plc tops i) {W : List Sd} (ok : ∀ s, s ∈ W → SideOk tops s) {st n : List Int} (hst : st ∈ goods tops rs) (N : Nrst tops rs W st n) {i : Nat} (hi : i < tops.length) (ne : plc st i ≠ plc n i) :
    SideOk tops (i, decide (plc st i < plc n i), plc n i) ∧ ∃ z, Rea tops rs (· ∈ W) z ∧ withinB tops z (i, decide (plc st i < plc n i), plc n i) = true := by
  obtain ⟨lows, highs, F⟩ := fol_ex rok pl (S := (· ∈ W)) ok
  have N' := F.nrst rok ok hst N.good N.has
  have e := N.uniq N'
  have bn := (goods_mem.mp N.good).1.2 i hi
  have bs := (goods_mem.mp hst).1.2 i hi
  refine ⟨SideOk.mk' hi bn.1 bn.2, ?_⟩
  have ep : plc n i = max (plc lows i) (min (plc st i) (plc highs i)) := by
    rw [e, plc_pull (by rw [goods_len hst]; exact hi)]
  have cr := F.cross rok ok N.good N.has i hi
  have self : ∀ s : Sd, withinB tops s s = true := fun s => within_iff.mpr ⟨rfl, Int.le_refl _, Int.le_refl _⟩
  by_cases c : plc st i < plc n i
  · rw [decide_eq_true c]
    have el : plc lows i = plc n i := by omega
    rcases F.l0 i hi with h | h
    · omega
    · exact ⟨_, h, by rw [el]; exact self _⟩
  · rw [decide_eq_false c]
    have el : plc highs i = plc n i := by omega
    rcases F.h0 i hi with h | h
    · omega
    · exact ⟨_, h, by rw [el]; exact self _⟩
/-- a chain to the place of a thing -/
structure ChnAt (H : Hp) (a : Addr) (tops : List Int) (rs : List Rl) (W : List Sd) (s : Sd) (L : List (Addr × Sd)) : Prop where
  ea : H a = some (.tup (sdR L))
  hL : SdsAt H L
  ok : ∀ z ∈ L, SideOk tops z.2
  len : L.length ≤ 281
  ch : chB tops rs (L.map (·.2)) = true
  hd : ∃ w ∈ W, (L.map (·.2)).head? = some w
  lst : (L.map (·.2)).getLast? = some s
theorem ChnAt.keep {H H' : Hp} {a : Addr} {tops : List Int} {rs : List Rl} {W : List Sd} {s : Sd} {L : List (Addr × Sd)} (h : ChnAt H a tops rs W s L) (k : Keep H H') : ChnAt H' a tops rs W s L := ⟨k.tup h.ea, h.hL.keep k, h.ok, h.len, h.ch, h.hd, h.lst⟩
/-- a paper of the nearest one -/
def PapL (H : Hp) (as : List Addr) (tops : List Int) (rs : List Rl) (W : List Sd) (st n : List Int) : Prop := ∀ (i : Nat) (a : Addr), as[i]? = some a → (plc st i = plc n i ∧ H a = some (.tup [])) ∨ (plc st i ≠ plc n i ∧ ∃ L, ChnAt H a tops rs W (i, decide (plc st i < plc n i), plc n i) L)
theorem PapL.keep {H H' : Hp} {as : List Addr} {tops : List Int} {rs : List Rl} {W : List Sd} {st n : List Int} (h : PapL H as tops rs W st n) (k : Keep H H') : PapL H' as tops rs W st n := fun i a e => (h i a e).imp (fun z => ⟨z.1, k.tup z.2⟩) fun ⟨z, L, c⟩ => ⟨z, L, c.keep k⟩
def PapAt (H : Hp) (r : Addr) (tops : List Int) (rs : List Rl) (W : List Sd) (st n : List Int) : Prop := ∃ as : List Addr, H r = some (.tup (as.map V.ref)) ∧ as.length = st.length ∧ PapL H as tops rs W st n
theorem PapAt.keep {H H' : Hp} {r : Addr} {tops : List Int} {rs : List Rl} {W : List Sd} {st n : List Int} (h : PapAt H r tops rs W st n) (k : Keep H H') : PapAt H' r tops rs W st n := by
  obtain ⟨as, e, l, p⟩ := h
  exact ⟨as, k.tup e, l, p.keep k⟩
section
variable {P : Program} {w : World} {K : PySem.W.Frag} {mg : Str → Option Value} {base : Heap}
def spCm : Sp := fun vs H Q _ => ∃ (i : Nat) (a b : Int), vs = [.int (i : Int), .int a, .int b] ∧ ∀ H' g, Same H H' → SideAt H' g (i, decide (a < b), b) → Q (.ref g) H'
abbrev a_come_to : Stmt := topS 51
abbrev n_come_to : List Str := ["thing", "here", "there"]
theorem sc_come_to : FnScope n_come_to ["thing", "here", "there"] (defScope a_come_to) := ⟨rfl, rfl, rfl, by decide +kernel, rfl, by decide +kernel, by decide +kernel⟩
set_option maxHeartbeats 8000000 in
theorem ok_come_to {f  : Addr} {fd  : FuncData} {k : Nat}  (F : Fun K "come_to" "come_to" a_come_to f fd)    : FnOk P w K mg base CX0 (k + 1) f fd ["thing", "here", "there"] spCm := by
  refine F.ok sc_come_to (fun vs H Q E h => ?_) (fun cdv A outer s H vs Q E hr h => ?_)
  · obtain ⟨i, a, b, rfl, _⟩ := h
    rfl
  · obtain ⟨i, a, b, rfl, q⟩ := h
    refine ⟨_, (pss_one (ps_ret (pe_tup (pa_cons (pv 0) (pa_cons (pe_ifExp (pt_cmpR op_gt (pv 2) (pv 1) (nomark _)) pe_str pe_str) (pa_cons (pv 2) pa_nil)))))), ?_⟩
    refine ⟨_, rfl, _, rfl, _, rfl, _, _, rfl, rfl, _, rfl, ite2 (fun c => ?_) (fun c => ?_)⟩
    · refine ⟨_, rfl, (show 3 ≤ sizeLine by decide), fun g ng => q _ g (same_new ng) ?_⟩
      have c' := of_decide_eq_true c
      show _ = _
      rw [upd_same, decide_eq_true c']
      rfl
    · refine ⟨_, rfl, (show 3 ≤ sizeLine by decide), fun g ng => q _ g (same_new ng) ?_⟩
      have c' := of_decide_eq_false (Bool.not_eq_true _ ▸ c)
      show _ = _
      rw [upd_same, decide_eq_false c']
      rfl
def spNpX (K : PySem.W.Frag) (C CN : Addr) : Sp := fun vs H Q E => ∃ (x a g : Addr) (tops st : List Int) (rs : List Rl) (Ls : List (Addr × Sd)), vs = [.ref x, .ref a, .ref g] ∧ Wnt K C H x g tops rs Ls ∧ H a = some (.tup (st.map V.int)) ∧ st ∈ goods tops rs ∧
  (∀ H' r n, Same H H' → Had tops rs Ls → Nrst tops rs (Ls.map (·.2)) st n → PapAt H' r tops rs (Ls.map (·.2)) st n → Q (.ref r) H') ∧
  ∀ H' d h, Same H H' → H d = none → ¬ Had tops rs Ls → H' d = some (.xd [("paper", .ref h)]) → (BarAt H' h tops rs Ls ∨ RgP H' h tops rs) → E (.ref CN) (some d) H'
abbrev a_nearest_paper : Stmt := topS 52
abbrev n_nearest_paper : List Str := ["plan", "standing", "want", "rows", "thing", "here", "there"]
theorem sc_nearest_paper : FnScope n_nearest_paper ["plan", "standing", "want"] (defScope a_nearest_paper) := ⟨rfl, rfl, rfl, by decide +kernel, rfl, by decide +kernel, by decide +kernel⟩
set_option maxHeartbeats 8000000 in
theorem ok_nearest_paper {f fNe fCt fCm : Addr} {fd fdNe fdCt fdCm : FuncData} {k : Nat} {C CN : Addr} (F : Fun K "nearest_paper" "nearest_paper" a_nearest_paper f fd) (Ne : KnX P w K mg base 9 "nearest" ["plan", "standing", "want"] (spNearX K C CN) fNe fdNe) (Ct : Kn P w K mg base 5 "chain_to" ["plan", "starts", "goal"] (spCto K C) fCt fdCt) (Cm : Kn P w K mg base 1 "come_to" ["thing", "here", "there"] spCm fCm fdCm) (m_zip : mg "zip" = none) (m_enumerate : mg "enumerate" = none) (m_tuple : mg "tuple" = none) : FnOk P w K mg base (L2.CX P w) (k + 10) f fd ["plan", "standing", "want"] (spNpX K C CN) := by
  refine F.okX sc_nearest_paper (fun vs H Q E h => ?_) (fun cdv A outer s H vs Q E hr h => ?_)
  · obtain ⟨x, a, g, tops, st, rs, Ls, rfl, _⟩ := h
    rfl
  · obtain ⟨x, a, g, tops, st, rs, Ls, rfl, W, ea, hst, q, qE⟩ := h
    refine ⟨_, (pss_cons (ps_set (i := 3) sc_nearest_paper.nd rfl (.inl rfl) (pe_lst pa_nil))
      (pss_cons (ps_for (passes_of rfl) rfl (pi_enumZ (by rfl) m_enumerate (by rfl) m_zip (pa_cons (pv 1) (pa_cons (pe_knP Ne hr (by omega) (takes_of rfl rfl rfl rfl) (pa_cons (pv 0) (pa_cons (pv 1) (pa_cons (pv 2) pa_nil)))) pa_nil))) (pg_tup rfl (pgs_cons (pg_name (i := 4) sc_nearest_paper.nd rfl (.inl rfl)) (pgs_cons (pg_tup rfl (pgs_cons (pg_name (i := 5) sc_nearest_paper.nd rfl (.inl rfl)) (pgs_cons (pg_name (i := 6) sc_nearest_paper.nd rfl (.inl rfl)) pgs_nil))) pgs_nil)))
        (pss_one (ps_expr (pe_bm PySem.F.plainAttrs_list PySem.F.slot_list_append PySem.F.type_list_append mt_append (pv 3) (pa_cons (pe_ifExp (pt_cmpR op_eq (pv 5) (pv 6) (nomark _)) (pe_tup pa_nil) (pe_kn Ct hr (by omega) (pa_cons (pv 0) (pa_cons (pv 2) (pa_cons (pe_kn Cm hr (by omega) (pa_cons (pv 4) (pa_cons (pv 5) (pa_cons (pv 6) pa_nil)))) pa_nil))))) pa_nil)))))
      (pss_one (ps_ret (pe_callTy call_tuple_of (by rfl) m_tuple (by decide +kernel) (pa_cons (pv 3) pa_nil)))))), ?_⟩
    have l12 := W.l12
    have ls := goods_len hst
    refine ⟨Nat.zero_le _, fun l nl => ?_⟩
    have sl := same_new (o := HO.lst []) nl
    refine ⟨.ref a, rfl, .ref x, rfl, .ref a, rfl, .ref g, rfl, x, a, g, tops, st, rs, Ls, rfl, W.same sl, sl _ _ ea, hst, fun H1 p n s1 had en N => ?_, fun H1 d h s1 nd nh ed b => qE _ d h (sl.trans s1) (sl.free nd) nh ed b⟩
    have s01 := sl.trans s1
    have ln := goods_len N.good
    have ea1 := s01 _ _ ea
    have el1 : H1 l = some (.lst (([] : List Addr).map V.ref)) := s1 _ _ upd_same
    have W1 := W.same s01
    refine ⟨a, p, _, _, rfl, .inl (.inl ea1), .inl (.inl en), for_it (walk_enumZ (xs := st.map V.int) (ys := n.map V.int) (by rw [List.length_map, List.length_map, ln, ls])) (fun j σ H' => (∃ u4 u5 u6, σ = [some (.ref x), some (.ref a), some (.ref g), some (.ref l), u4, u5, u6]) ∧ Same H H' ∧ KT H1 H' ∧ ∃ as : List Addr, H' l = some (.lst (as.map V.ref)) ∧ as.length = j ∧ PapL H' as tops rs (Ls.map (·.2)) st n) ⟨⟨_, _, _, rfl⟩, s01, KT.refl _, [], el1, rfl, fun i a h => by simp at h⟩ (fun j σ H' _ y => ⟨.inl (.inl (y.2.2.1 _ _ ea1)), .inl (.inl (y.2.2.1 _ _ en))⟩) (fun j v σ H2 H3 hj y z => ?_) (fun σ H2 y => ?_)⟩
    · obtain ⟨⟨u4, u5, u6, rfl⟩, s2, k2, as, el, la, ap⟩ := y
      obtain ⟨T, U, va, vb, rfl, nU, nT, rfl, ga, gb⟩ := z
      obtain ⟨pa, e1, rfl⟩ := mapGet ga
      obtain ⟨pb, e2, rfl⟩ := mapGet gb
      have hj' : j < tops.length := by
        rw [List.length_map] at hj
        omega
      have epa : plc st j = pa := by
        show st.getD j 0 = pa
        rw [List.getD_eq_getElem?_getD, e1]
        rfl
      have epb : plc n j = pb := by
        show n.getD j 0 = pb
        rw [List.getD_eq_getElem?_getD, e2]
        rfl
      have sU := same_new (o := HO.tup [V.int pa, V.int pb]) nU
      have sT := same_new (o := HO.tup [V.int (j : Int), V.ref U]) nT
      have sUT := sU.trans sT
      have eU := sT _ _ (upd_same (H := H2) (a := U) (o := HO.tup [V.int pa, V.int pb]))
      refine ⟨T, _, rfl, .inl (.inl upd_same), rfl, _, _, rfl, _, _, rfl, U, _, rfl, .inl (.inl eU), rfl, _, _, rfl, _, _, rfl, rfl, rfl, ?_⟩
      have el3 := sUT _ _ el
      have s3 := s2.trans sUT
      have k3 : KT H1 _ := k2.trans (.same sUT)
      have ap3 := ap.keep (.same sUT)
      generalize upd (upd H2 U (.tup [V.int pa, V.int pb])) T (.tup [V.int (j : Int), V.ref U]) = H3 at el3 s3 k3 ap3 ⊢
      have fin : ∀ (H4 : Hp) (b : Addr), Same H3 H4 → ((plc st j = plc n j ∧ H4 b = some (.tup [])) ∨ (plc st j ≠ plc n j ∧ ∃ L, ChnAt H4 b tops rs (Ls.map (·.2)) (j, decide (plc st j < plc n j), plc n j) L)) → Same H (upd H4 l (.lst (as.map V.ref ++ [V.ref b]))) ∧ KT H1 (upd H4 l (.lst (as.map V.ref ++ [V.ref b]))) ∧ ∃ as' : List Addr, (upd H4 l (.lst (as.map V.ref ++ [V.ref b]))) l = some (.lst (as'.map V.ref)) ∧ as'.length = j + 1 ∧ PapL (upd H4 l (.lst (as.map V.ref ++ [V.ref b]))) as' tops rs (Ls.map (·.2)) st n := fun H4 b s4 hb => by
        have el4 := s4 _ _ el3
        have kU : Keep H4 (upd H4 l (.lst (as.map V.ref ++ [V.ref b]))) := .upd el4
        refine ⟨same_over (s3.trans s4) nl, (k3.trans (.same s4)).trans (.upd el4 (fun xs z => by cases z)), as ++ [b], by rw [upd_same, List.map_append]; rfl, by rw [List.length_append, la]; rfl, fun i c hc => ?_⟩
        rcases Nat.lt_or_ge i as.length with d | d
        · rw [List.getElem?_append_left d] at hc
          exact (ap3.keep ((Keep.same s4).trans kU)) i c hc
        · rw [List.getElem?_append_right d] at hc
          have e0 : i - as.length = 0 := by
            rcases Nat.eq_zero_or_pos (i - as.length) with z | z
            · exact z
            · rw [List.getElem?_eq_none (by simp only [List.length_cons, List.length_nil]; omega)] at hc
              cases hc
          rw [e0] at hc
          cases hc
          have ei : i = j := by omega
          subst ei
          exact hb.imp (fun z => ⟨z.1, kU.tup z.2⟩) fun ⟨z, L, y⟩ => ⟨z, L, y.keep kU⟩
      have sml : (as.map V.ref).length < sizeLine := by
        rw [List.length_map]
        exact small1000 (by omega)
      refine ⟨.ref l, rfl, .inl ⟨rfl, _, .inl (.inl el3)⟩, _, rfl, _, rfl, rfl, _, rfl, ite2 (fun c => ?_) (fun c => ?_)⟩
      · have c' : pa = pb := by
          have := of_decide_eq_true c
          injection this
        refine ⟨Nat.zero_le _, fun b nb => ?_⟩
        have sb := same_new (o := HO.tup []) nb
        exact ⟨l, _, _, rfl, rfl, sb _ _ el3, sml, ⟨_, _, _, rfl⟩, fin _ b sb (.inl ⟨by omega, upd_same⟩)⟩
      · have c' : pa ≠ pb := fun z => c (decide_eq_true (by rw [z]))
        obtain ⟨okj, zz⟩ := N.pull W.rok W.pl W.ok hst hj' (by omega)
        rw [epa, epb] at okj zz
        refine ⟨.ref x, rfl, .ref g, rfl, _, rfl, _, rfl, _, rfl, j, pa, pb, rfl, fun H4 gl s4 hg => ?_⟩
        have W4 := W.same (s3.trans s4)
        refine ⟨x, g, gl, tops, rs, Ls, (j, decide (pa < pb), pb), rfl, W4.hp, W4.eg, W4.hL, W4.okS, W4.rok, W4.l40, W4.lS, hg, okj, fun H5 b L s5 eb hL ct lL => ?_⟩
        have ch := ct.chain zz
        have s45 := s4.trans s5
        refine ⟨l, _, _, rfl, rfl, s45 _ _ el3, sml, ⟨_, _, _, rfl⟩, fin _ b s45 (.inr ⟨by omega, L, eb, hL, fun z hz => ct.ok W.rok W.ok okj z.2 (List.mem_map.mpr ⟨z, hz, rfl⟩), lL, ch.1, ch.2.1, ?_⟩)⟩
        rw [epa, epb]
        exact ch.2.2
    · obtain ⟨⟨u4, u5, u6, rfl⟩, s2, k2, as, el, la, ap⟩ := y
      rw [List.length_map] at la
      refine ⟨.ref l, rfl, l, _, rfl, .inl ⟨.inl (.inl el), fun r nr => ?_⟩⟩
      have sr := same_new (o := HO.tup (as.map V.ref)) nr
      exact q _ r n (s2.trans sr) had N ⟨as, upd_same, la, ap.keep (.same sr)⟩
end
end K16

set_option Elab.async false
set_option linter.all false
set_option maxRecDepth 100000
namespace K16
open PySem PySem.Spec PyProof.Rows L2 NB

/-! ### one thing at another place: t[:i] + (x,) + t[i + 1:] -/
theorem cut_to {K : PySem.W.Frag} {H : Hp} {p : Addr} {vs : List V} {c : Nat} {Q : VK} (h : H p = some (.tup vs)) (hc : c ≤ vs.length) (q : ∀ g H', Same H H' → H' g = some (.tup (vs.take c)) → Q (.ref g) H') : rSlA K (.ref p) none (some (c : Int)) H Q := by
  have e1 : HT.sIx vs.length vs.length (some (c : Int)) = c := by
    rw [HT.sIx_nat]
    omega
  refine ⟨p, _, rfl, .inl (.inl h), fun w => ?_, fun w g ng => ?_⟩
  · rw [e1] at w
    refine q p H (Same.refl H) ?_
    rw [List.take_of_length_le (by omega)]
    exact h
  · refine q g _ (same_new ng) ?_
    rw [upd_same]
    unfold cutV
    rw [e1, HT.sIx_none, List.drop_zero]
    rfl
theorem cut_from {K : PySem.W.Frag} {H : Hp} {p : Addr} {vs : List V} {c : Nat} {Q : VK} (h : H p = some (.tup vs)) (hc : c ≤ vs.length) (q : ∀ g H', Same H H' → H' g = some (.tup (vs.drop c)) → Q (.ref g) H') : rSlA K (.ref p) (some (c : Int)) none H Q := by
  have e1 : HT.sIx vs.length 0 (some (c : Int)) = c := by
    rw [HT.sIx_nat]
    omega
  refine ⟨p, _, rfl, .inl (.inl h), fun w => ?_, fun w g ng => ?_⟩
  · rw [e1] at w
    refine q p H (Same.refl H) ?_
    rw [w.1, List.drop_zero]
    exact h
  · refine q g _ (same_new ng) ?_
    rw [upd_same]
    unfold cutV
    rw [e1, HT.sIx_none, List.take_of_length_le (by rw [List.length_drop]; exact Nat.le_refl _)]
theorem cat_tups {K : PySem.W.Frag} {H : Hp} {a b : Addr} {xs ys : List V} {Q : VK} (ha : H a = some (.tup xs)) (hb : H b = some (.tup ys)) (hz : xs.length + ys.length ≤ sizeLine) (q : ∀ g H', Same H H' → H' g = some (.tup (xs ++ ys)) → Q (.ref g) H') : rCatA K (.ref a) (.ref b) H Q := by
  refine ⟨a, b, xs, ys, rfl, rfl, .inl (.inl ha), .inl (.inl hb), hz, fun e => ?_, fun _ e => ?_, fun _ _ g ng => q g _ (same_new ng) upd_same⟩
  · subst e
    exact q b H (Same.refl H) hb
  · subst e
    exact q a H (Same.refl H) (by rw [List.append_nil]; exact ha)
abbrev tMoved (K : PySem.W.Frag) (a i x : Nat) : TE := tOp (rCatA K) (tOp (rCatA K) (tSl (rSlA K) (tVar a) tNoPart (tPart (tVar i))) (tTup (tCons (tVar x) tNil))) (tSl (rSlA K) (tVar a) (tPart (tOp (rI0 fun i j => .int (i + j)) (tVar i) (tC (.int 1)))) tNoPart)
theorem set_cut {α : Type} {xs : List α} {n : Nat} {v : α} (h : n < xs.length) : (xs.take n ++ [v]) ++ xs.drop (n + 1) = xs.set n v := by
  rw [List.set_eq_take_append_cons_drop, if_pos h, List.append_assoc]
  rfl
theorem moved_val {K : PySem.W.Frag} {σ : L2.St} {H : Hp} {Q : VK} {a i x n : Nat} {p : Addr} {v : Int} {xs : List Int} (ha : σ[a]? = some (some (.ref p))) (hi : σ[i]? = some (some (.int (n : Int)))) (hx : σ[x]? = some (some (.int v))) (e : H p = some (.tup (xs.map V.int))) (hn : n < xs.length) (l12 : xs.length ≤ 12)
    (q : ∀ g H', Same H H' → H' g = some (.tup ((xs.set n v).map V.int)) → Q (.ref g) H') : tMoved K a i x σ H Q := by
  have lm : (xs.map V.int).length = xs.length := List.length_map _
  refine ⟨.ref p, ha, ?_⟩
  show tNoPart _ _ _
  unfold tNoPart
  refine ⟨.int n, hi, n, rfl, cut_to e (by omega) fun g1 H1 s1 e1 => ?_⟩
  refine ⟨.int v, hx, (show 1 ≤ sizeLine by decide), fun g2 n2 => ?_⟩
  have s2 := same_new (o := HO.tup [V.int v]) n2
  refine cat_tups (s2 _ _ e1) upd_same (Nat.le_of_lt (small1000 (by rw [List.length_take]; simp only [List.length_cons, List.length_nil]; omega))) fun g3 H3 s3 e3 => ?_
  have s03 := (s1.trans s2).trans s3
  refine ⟨.ref p, ha, .int n, hi, n, 1, rfl, rfl, n + 1, by rfl, ?_⟩
  show rSlA _ _ (some ((n : Int) + 1)) none _ _
  have ec : ((n : Int) + 1) = ((n + 1 : Nat) : Int) := by omega
  rw [ec]
  refine cut_from (s03 _ _ e) (by omega) fun g4 H4 s4 e4 => ?_
  refine cat_tups (s4 _ _ e3) e4 (Nat.le_of_lt (small1000 (by rw [List.length_append, List.length_take, List.length_drop]; simp only [List.length_cons, List.length_nil]; omega))) fun g5 H5 s5 e5 => ?_
  refine q g5 H5 ((s03.trans s4).trans s5) ?_
  rw [e5, set_cut (by omega), List.map_set]

/-! ### the law itself -/
theorem std_goods {tops st : List Int} {rs : List Rl} {H : Hp} {o : Addr} (S : Std tops H o st) (k : ∀ q ∈ rs, kept st q = true) : st ∈ goods tops rs := by
  refine goods_mem.mpr ⟨⟨S.len, fun j hj => ?_⟩, k⟩
  have l := S.len
  have hj' : j < st.length := by omega
  refine ⟨?_, S.le j _ _ (by rw [plc_get hj']; exact List.getElem?_eq_getElem hj') (by rw [plc_get hj]; exact List.getElem?_eq_getElem hj)⟩
  rw [plc_get hj']
  exact (S.pl _ (List.getElem_mem hj')).1

/-! ### the law: which sides are in, which rules are broken -/
abbrev aIn : Stmt := topS 74
theorem scLIn : FnScope ["_law_side", "_law_standing_here", "_law_thing", "_law_word", "_law_place"] ["_law_side", "_law_standing_here"] (defScope aIn) := ⟨rfl, rfl, rfl, by decide +kernel, rfl, by decide +kernel, by decide +kernel⟩
section
variable {P : Program} {w : World} {K : PySem.W.Frag} {mg : Str → Option Value} {base : Heap}
theorem ok_lin {f : Addr} {fd : FuncData} {k : Nat} (F : Fun K "_law_is_in" "_law_is_in" aIn f fd) : FnOk P w K mg base CX0 (k + 1) f fd ["_law_side", "_law_standing_here"] spIn := by
  refine F.ok scLIn (fun vs H Q E h => ?_) (fun cdv A outer s H vs Q E hr h => ?_)
  · obtain ⟨p, t, sd, xs, rfl, _⟩ := h
    rfl
  · obtain ⟨p, t, ⟨n, b, pl⟩, xs, rfl, ep, et, ln, q⟩ := h
    have ep' : H p = some (.tup [.int (n : Int), .str (word b), .int pl]) := ep
    have ln' : n < xs.length := ln
    have eg := at_int ln'
    have eb : inB xs (n, b, pl) = if b then decide (pl ≤ xs[n]) else decide (xs[n] ≤ pl) := by
      unfold inB
      simp only [List.getElem?_eq_getElem ln']
    rw [eb] at q
    refine ⟨_, pss_cons (ps_asg (pv 0) (pg_tup (by rfl) (pgs_cons (pg_name (i := 2) scLIn.nd rfl (.inl rfl)) (pgs_cons (pg_name (i := 3) scLIn.nd rfl (.inl rfl)) (pgs_cons (pg_name (i := 4) scLIn.nd rfl (.inl rfl)) pgs_nil)))))
      (pss_one (ps_ret (pe_ifExp (pt_cmpR op_eq (pv 3) pe_str (nomark _)) (pe_cmpR op_ge (pe_ix ix_tup (pv 1) (pv 2) (fun _ _ => rfl)) (pv 4) (nomark _)) (pe_cmpR op_le (pe_ix ix_tup (pv 1) (pv 2) (fun _ _ => rfl)) (pv 4) (nomark _))))), ?_⟩
    refine ⟨.ref p, rfl, p, _, rfl, .inl (.inl ep'), rfl, _, _, rfl, _, _, rfl, _, _, rfl, rfl, ?_⟩
    cases b with
    | true =>
      refine ⟨_, rfl, rfl, true, congrArg V.bl w_from, iteT ?_⟩
      exact ⟨.ref t, rfl, .int n, rfl, t, _, n, _, rfl, rfl, .inl (.inl et), eg, .int pl, rfl, _, pl, rfl, rfl, q⟩
    | false =>
      refine ⟨_, rfl, rfl, false, congrArg V.bl w_to, iteF ?_⟩
      exact ⟨.ref t, rfl, .int n, rfl, t, _, n, _, rfl, rfl, .inl (.inl et), eg, .int pl, rfl, _, pl, rfl, rfl, q⟩
end
abbrev aBrk : Stmt := topS 75
abbrev nBrk : List Str := ["_law_rules_here", "_law_standing_here", "_law_found", "_law_number", "_law_one", "_law_two"]
theorem scBrk : FnScope nBrk ["_law_rules_here", "_law_standing_here"] (defScope aBrk) := ⟨rfl, rfl, rfl, by decide +kernel, rfl, by decide +kernel, by decide +kernel⟩
section
variable {P : Program} {w : World} {K : PySem.W.Frag} {mg : Str → Option Value} {base : Heap}
def spBrk : Sp := fun vs H Q _ => ∃ (R t : Addr) (rs : List Rl) (xs : List Int), vs = [.ref R, .ref t] ∧ RulesAt H R rs ∧ H t = some (.tup (xs.map V.int)) ∧ rs.length ≤ 40 ∧ (∀ q ∈ rs, Fit xs q) ∧
  ∀ H' p, Same H H' → H p = none → H' p = some (.lst ((brok xs rs).map V.int)) → Q (.ref p) H'
set_option maxHeartbeats 2000000 in
theorem ok_brk {f fL : Addr} {fd fdL : FuncData} {k : Nat} (F : Fun K "_law_broken" "_law_broken" aBrk f fd) (Ln : Kn P w K mg base 1 "_law_is_in" ["_law_side", "_law_standing_here"] spIn fL fdL) (me : mg "enumerate" = none) : FnOk P w K mg base CX0 (k + 2) f fd ["_law_rules_here", "_law_standing_here"] spBrk := by
  refine F.ok scBrk (fun vs H Q E h => ?_) (fun cdv A outer s H vs Q E hr h => ?_)
  · obtain ⟨R, t, rs, xs, rfl, _⟩ := h
    rfl
  · obtain ⟨R, t, rs, xs, rfl, ⟨as, eR, la, ha⟩, et, l40, ft, q⟩ := h
    refine ⟨_, pss_cons (ps_set (i := 2) scBrk.nd rfl (.inl rfl) (pe_lst pa_nil))
      (pss_cons (ps_for PassesOwn.never rfl (pi_enumT (by rfl) me (pa_cons (pv 0) pa_nil)) (pg_tup rfl (pgs_cons (pg_name (i := 3) scBrk.nd rfl (.inl rfl)) (pgs_cons (pg_tup rfl (pgs_cons (pg_name (i := 4) scBrk.nd rfl (.inl rfl)) (pgs_cons (pg_name (i := 5) scBrk.nd rfl (.inl rfl)) pgs_nil))) pgs_nil)))
        (pss_one (ps_if (PW.pt (pw_and (pt_not (pt_val (pe_kn Ln hr (by omega) (pa_cons (pv 4) (pa_cons (pv 1) pa_nil))))) (pw_and1 (pt_not (pt_val (pe_kn Ln hr (by omega) (pa_cons (pv 5) (pa_cons (pv 1) pa_nil))))))))
          (pss_one (ps_expr (pe_bm PySem.F.plainAttrs_list PySem.F.slot_list_append PySem.F.type_list_append mt_append (pv 2) (pa_cons (pv 3) pa_nil)))) pss_nil)))
      (pss_one (ps_ret (pv 2)))), ?_⟩
    refine ⟨Nat.zero_le _, fun l nl => ?_⟩
    have sl := same_new (o := HO.lst []) nl
    refine ⟨.ref R, rfl, R, _, rfl, .inl (.inl (sl _ _ eR)), for_it (walk_enumT (xs := as.map V.ref)) (fun i σ H' => (∃ u3 u4 u5, σ = [some (.ref R), some (.ref t), some (.ref l), u3, u4, u5]) ∧ Same H H' ∧ H' l = some (.lst ((brok xs (rs.take i)).map V.int)))
      ⟨⟨none, none, none, rfl⟩, sl, upd_same⟩ (fun i σ H' _ p => .inl (.inl (p.2.1 _ _ eR))) (fun i v σ H2 H3 hi p y => ?_) (fun σ H2 p => ?_)⟩
    · obtain ⟨⟨u5, u6, u7, rfl⟩, s2, el⟩ := p
      obtain ⟨T', x1, x2, rfl, nT, rfl, g1, g2⟩ := y
      have e1 : x1 = .int (i : Nat) := (Option.some.inj g1).symm
      subst e1
      obtain ⟨r, er, rfl⟩ := mapGet g2
      have hi' : i < as.length := by simpa using hi
      have hr' : i < rs.length := by omega
      have eq : rs[i]? = some rs[i] := List.getElem?_eq_getElem hr'
      have nTl : l ≠ T' := ne_of_none el nT
      have smT : Same H (upd H2 T' (.tup [V.int (i : Nat), V.ref r])) := same_over s2 (s2.free nT)
      have elT : (upd H2 T' (.tup [V.int (i : Nat), V.ref r])) l = some (.lst ((brok xs (rs.take i)).map V.int)) := (upd_ne nTl).trans el
      obtain ⟨p1, p2, e3, h1, h2⟩ := (ha i r _ er eq).keep (.same smT)
      have fi := ft _ (List.getElem_mem hr')
      have et3 := smT _ _ et
      have bt := brok_take xs rs i _ eq
      refine ⟨T', _, rfl, .inl (.inl upd_same), rfl, _, _, rfl, _, _, rfl, ⟨r, _, rfl, .inl (.inl e3), rfl, _, _, rfl, _, _, rfl, rfl, ?_⟩⟩
      refine ⟨rfl, .ref p1, rfl, .ref t, rfl, p1, t, rs[i].1, xs, rfl, h1, et3, fi.1, _, rfl, ?_⟩
      cases c1 : inB xs rs[i].1 with
      | true =>
        refine iteF (iteF ⟨⟨_, _, _, rfl⟩, smT, ?_⟩)
        rw [bt]
        simp only [kept, c1, Bool.true_or, if_true, List.append_nil]
        exact elT
      | false =>
        refine iteT ⟨.ref p2, rfl, .ref t, rfl, p2, t, rs[i].2, xs, rfl, h2, et3, fi.2, _, rfl, ?_⟩
        cases c2 : inB xs rs[i].2 with
        | true =>
          refine iteF ⟨⟨_, _, _, rfl⟩, smT, ?_⟩
          rw [bt]
          simp only [kept, c1, c2, Bool.or_true, if_true, List.append_nil]
          exact elT
        | false =>
          refine iteT ⟨.ref l, rfl, .inl ⟨rfl, _, .inl (.inl elT)⟩, .int (i : Nat), rfl, l, _, _, rfl, rfl, elT, ?_, ⟨_, _, _, rfl⟩, same_over smT nl, ?_⟩
          · rw [List.length_map]
            refine Nat.lt_of_le_of_lt (brok_len _ _) ?_
            rw [List.length_take]
            exact small1000 (by omega)
          · rw [upd_same, bt]
            simp only [kept, c1, c2, Bool.or_false, Bool.false_eq_true, if_false, List.map_append]
            rfl
    · obtain ⟨⟨u5, u6, u7, rfl⟩, s2, el⟩ := p
      rw [List.length_map, List.take_of_length_le (by omega)] at el
      exact ⟨_, rfl, q _ l s2 nl el⟩
end
end K16

set_option Elab.async false
set_option linter.all false
/-! A conditional expression as a test. -/
namespace NB
open PySem PySem.Spec PyProof.Rows L2
def tIfT (t ta tb : TT) : TT := fun σ H Q => t σ H fun c H1 => if c = true then ta σ H1 Q else tb σ H1 Q
theorem pt_ifT {X : Cx} {c a b : Expr} {pos : Pos} {tc ta tb : TT} (hc : PT X c tc) (ha : PT X a ta) (hb : PT X b tb) : PT X (.IfExp c a b pos) (tIfT tc ta tb) := by
  refine ⟨fun pins s σ H Q I h => ?_⟩
  refine isTrue_IfExp (thn (hc.run pins s σ H _ I h) fun d s1 ⟨H1, I1, q1⟩ => ?_)
  cases d with
  | true => exact ha.run pins s1 σ H1 Q I1 q1
  | false => exact hb.run pins s1 σ H1 Q I1 q1
end NB

set_option Elab.async false
set_option linter.all false
set_option maxRecDepth 100000
namespace K16
open PySem PySem.Spec PyProof.Rows L2 NB

/-! ### data and pots -/
theorem PotAt.lst {H : Hp} {a : Addr} {c : Nat} (h : PotAt H a c) : ∃ zs, H a = some (.lst zs) := by
  obtain ⟨p, q, r, e, _⟩ := h
  exact ⟨_, e⟩
theorem da_but {a : Addr} {H H' : Hp} {c : Nat} {v : V} {d : PyData} (h : Da a H v d) (p : PotAt H a c) (b : But a H H') : Da a H' v d := Da.keep p.lst b d v h
theorem daAll_but {a : Addr} {H H' : Hp} {c : Nat} {vs : List V} {ds : List PyData} (h : DaAll a H vs ds) (p : PotAt H a c) (b : But a H H') : DaAll a H' vs ds := DaAll.keep p.lst b ds vs h
theorem new_tup {n t : Addr} {H : Hp} {xs : List V} {ds : List PyData} (nt : H t = none) (h : DaAll n H xs ds) : Same H (upd H t (.tup xs)) ∧ Da n (upd H t (.tup xs)) (.ref t) (.tuple ds) := ⟨same_new nt, .tup upd_same (h.same (same_new nt))⟩
theorem new_lst {n t : Addr} {H : Hp} {xs : List V} {ds : List PyData} {c : Nat} (nt : H t = none) (ns : t ≠ sysModules) (p : PotAt H n c) (h : DaAll n H xs ds) : Same H (upd H t (.lst xs)) ∧ Da n (upd H t (.lst xs)) (.ref t) (.list ds) := ⟨same_new nt, .lst upd_same ns (p.ne nt) (h.same (same_new nt))⟩
theorem new_dct {n t : Addr} {H : Hp} (nt : H t = none) : Same H (upd H t (.dK [])) ∧ Da n (upd H t (.dK [])) (.ref t) (.dict []) := ⟨same_new nt, .dct upd_same .nil⟩
theorem but_same {a : Addr} {H H' H'' : Hp} (b : But a H H') (s : Same H' H'') : But a H H'' := b.trans (But.of s)
theorem wt_at {ds : List PyData} {i : Nat} {d : PyData} (h : ds[i]? = some d) : PyData.weightAll ds = PyData.weightAll (ds.take i) + (d.weight + 1) + PyData.weightAll (ds.drop (i + 1)) := by
  have hi := (List.getElem?_eq_some_iff.mp h).1
  have e : ds = ds.take i ++ (d :: ds.drop (i + 1)) := by
    have e2 := (List.getElem?_eq_some_iff.mp h).2
    rw [← e2, ← List.drop_eq_getElem_cons hi, List.take_append_drop]
  have := wt_app (ds.take i) (d :: ds.drop (i + 1))
  rw [← e] at this
  simp only [PyData.weightAll] at this
  omega
theorem wt_two (ds : List PyData) (i : Nat) : PyData.weightAll ds = PyData.weightAll (ds.take i) + PyData.weightAll (ds.drop i) := by
  have := wt_app (ds.take i) (ds.drop i)
  rw [List.take_append_drop] at this
  exact this
theorem SmE.mono {ds : List PyData} {k m : Nat} (h : SmE ds k) (le : k ≤ m) : SmE ds m := fun d hd => ⟨(h d hd).1, Nat.le_trans (h d hd).2.1 le, (h d hd).2.2⟩
theorem SmE.app {ds es : List PyData} {k : Nat} (h : SmE ds k) (h' : SmE es k) : SmE (ds ++ es) k := fun d hd => by
  rcases List.mem_append.mp hd with q | q
  · exact h d q
  · exact h' d q
theorem SmE.take {ds : List PyData} {k : Nat} (h : SmE ds k) (i : Nat) : SmE (ds.take i) k := fun d hd => h d (List.mem_of_mem_take hd)
theorem SmE.drop {ds : List PyData} {k : Nat} (h : SmE ds k) (i : Nat) : SmE (ds.drop i) k := fun d hd => h d (List.mem_of_mem_drop hd)
theorem SmE.one {d : PyData} {w k : Nat} (h : Sm d w k) : SmE [d] k := fun x hx => by
  rw [List.mem_singleton.mp hx]
  exact h.e
theorem SmE.ints {xs : List Int} (h : ∀ x ∈ xs, x.natAbs < 10 ^ 90) : SmE (xs.map PyData.int) 0 := fun d hd => by
  obtain ⟨x, hx, rfl⟩ := List.mem_map.mp hd
  exact (Sm.int (h x hx)).e
theorem wt_ints : ∀ {xs : List Int}, (∀ x ∈ xs, x.natAbs < 10 ^ 90) → PyData.weightAll (xs.map PyData.int) ≤ 311 * xs.length
  | [], _ => Nat.le_refl _
  | x :: xs, h => by
    have a := (Sm.int (h x List.mem_cons_self)).wt
    have b := wt_ints fun y hy => h y (List.mem_cons_of_mem _ hy)
    simp only [List.map_cons, PyData.weightAll, List.length_cons]
    omega

/-! ### data whose lists stand apart from all of E -/
mutual
inductive Db (E : Addr → Prop) (H : Hp) : V → PyData → Prop
  | non : Db E H .non .none
  | bl (b : Bool) : Db E H (.bl b) (.bool b)
  | int (i : Int) : Db E H (.int i) (.int i)
  | str (x : Str) : Db E H (.str x) (.str x)
  | lst {a : Addr} {xs : List V} {ds : List PyData} : H a = some (.lst xs) → a ≠ sysModules → ¬ E a → DbAll E H xs ds → Db E H (.ref a) (.list ds)
  | tup {a : Addr} {xs : List V} {ds : List PyData} : H a = some (.tup xs) → DbAll E H xs ds → Db E H (.ref a) (.tuple ds)
  | dct {a : Addr} : H a = some (.dK []) → Db E H (.ref a) (.dict [])
inductive DbAll (E : Addr → Prop) (H : Hp) : List V → List PyData → Prop
  | nil : DbAll E H [] []
  | cons {v : V} {vs : List V} {d : PyData} {ds : List PyData} : Db E H v d → DbAll E H vs ds → DbAll E H (v :: vs) (d :: ds)
end
mutual
theorem Db.keepD {E : Addr → Prop} {H H' : Hp} (k : ∀ b o, (∀ xs, o = .lst xs → ¬ E b) → H b = some o → H' b = some o) : ∀ (d : PyData) (v : V), Db E H v d → Db E H' v d
  | .none, _, h => by cases h; exact .non
  | .bool b, _, h => by cases h; exact .bl b
  | .int i, _, h => by cases h; exact .int i
  | .str x, _, h => by cases h; exact .str x
  | .list ds, _, h => by
    cases h with
    | lst e n1 n2 ha => exact .lst (k _ _ (fun _ _ => n2) e) n1 n2 (DbAll.keepD k ds _ ha)
  | .tuple ds, _, h => by
    cases h with
    | tup e ha => exact .tup (k _ _ (fun _ z => by cases z) e) (DbAll.keepD k ds _ ha)
  | .dict ds, _, h => by
    cases h with
    | dct e => exact .dct (k _ _ (fun _ z => by cases z) e)
theorem DbAll.keepD {E : Addr → Prop} {H H' : Hp} (k : ∀ b o, (∀ xs, o = .lst xs → ¬ E b) → H b = some o → H' b = some o) : ∀ (ds : List PyData) (vs : List V), DbAll E H vs ds → DbAll E H' vs ds
  | [], _, h => by cases h; exact .nil
  | d :: ds, _, h => by
    cases h with
    | cons h1 h2 => exact .cons (Db.keepD k d _ h1) (DbAll.keepD k ds _ h2)
end
mutual
theorem Db.daD {E : Addr → Prop} {H : Hp} {n : Addr} (En : E n) : ∀ (d : PyData) (v : V), Db E H v d → Da n H v d
  | .none, _, h => by cases h; exact .non
  | .bool b, _, h => by cases h; exact .bl b
  | .int i, _, h => by cases h; exact .int i
  | .str x, _, h => by cases h; exact .str x
  | .list ds, _, h => by
    cases h with
    | lst e n1 n2 ha => exact .lst e n1 (fun z => n2 (by rw [z]; exact En)) (DbAll.daD En ds _ ha)
  | .tuple ds, _, h => by
    cases h with
    | tup e ha => exact .tup e (DbAll.daD En ds _ ha)
  | .dict ds, _, h => by
    cases h with
    | dct e => exact .dct e .nil
theorem DbAll.daD {E : Addr → Prop} {H : Hp} {n : Addr} (En : E n) : ∀ (ds : List PyData) (vs : List V), DbAll E H vs ds → DaAll n H vs ds
  | [], _, h => by cases h; exact .nil
  | d :: ds, _, h => by
    cases h with
    | cons h1 h2 => exact .cons (Db.daD En d _ h1) (DbAll.daD En ds _ h2)
end
mutual
theorem Db.weakD {E E' : Addr → Prop} {H : Hp} (k : ∀ n, E' n → E n) : ∀ (d : PyData) (v : V), Db E H v d → Db E' H v d
  | .none, _, h => by cases h; exact .non
  | .bool b, _, h => by cases h; exact .bl b
  | .int i, _, h => by cases h; exact .int i
  | .str x, _, h => by cases h; exact .str x
  | .list ds, _, h => by
    cases h with
    | lst e n1 n2 ha => exact .lst e n1 (fun z => n2 (k _ z)) (DbAll.weakD k ds _ ha)
  | .tuple ds, _, h => by
    cases h with
    | tup e ha => exact .tup e (DbAll.weakD k ds _ ha)
  | .dict ds, _, h => by
    cases h with
    | dct e => exact .dct e
theorem DbAll.weakD {E E' : Addr → Prop} {H : Hp} (k : ∀ n, E' n → E n) : ∀ (ds : List PyData) (vs : List V), DbAll E H vs ds → DbAll E' H vs ds
  | [], _, h => by cases h; exact .nil
  | d :: ds, _, h => by
    cases h with
    | cons h1 h2 => exact .cons (Db.weakD k d _ h1) (DbAll.weakD k ds _ h2)
end
def only (p : Addr) : Addr → Prop := fun n => n = p
def twoA (p D : Addr) : Addr → Prop := fun n => n = p ∨ n = D
theorem Db.same {E : Addr → Prop} {H H' : Hp} {v : V} {d : PyData} (h : Db E H v d) (k : Same H H') : Db E H' v d := Db.keepD (fun b o _ e => k b o e) d v h
theorem DbAll.same {E : Addr → Prop} {H H' : Hp} {vs : List V} {ds : List PyData} (h : DbAll E H vs ds) (k : Same H H') : DbAll E H' vs ds := DbAll.keepD (fun b o _ e => k b o e) ds vs h
theorem Db.da {E : Addr → Prop} {H : Hp} {n : Addr} {v : V} {d : PyData} (h : Db E H v d) (En : E n) : Da n H v d := Db.daD En d v h
theorem but_keep {E : Addr → Prop} {H H' : Hp} {a : Addr} {c : Nat} (Ea : E a) (p : PotAt H a c) (b : But a H H') : ∀ z o, (∀ xs, o = .lst xs → ¬ E z) → H z = some o → H' z = some o := fun z o n e => b z o (fun za => by
  obtain ⟨p1, p2, p3, ea, _⟩ := p
  rw [za, ea] at e
  cases e
  exact n _ rfl (by rw [za]; exact Ea)) e
theorem db_but {E : Addr → Prop} {a : Addr} {H H' : Hp} {c : Nat} {v : V} {d : PyData} (h : Db E H v d) (Ea : E a) (p : PotAt H a c) (b : But a H H') : Db E H' v d := Db.keepD (but_keep Ea p b) d v h
theorem dbAll_but {E : Addr → Prop} {a : Addr} {H H' : Hp} {c : Nat} {vs : List V} {ds : List PyData} (h : DbAll E H vs ds) (Ea : E a) (p : PotAt H a c) (b : But a H H') : DbAll E H' vs ds := DbAll.keepD (but_keep Ea p b) ds vs h
/-- a list of E may be changed -/
theorem db_upd {E : Addr → Prop} {D : Addr} {H : Hp} {xs : List V} {o : HO} {v : V} {d : PyData} (h : Db E H v d) (ED : E D) (e : H D = some (.lst xs)) : Db E (upd H D o) v d := Db.keepD (fun z u n q => (upd_ne (fun zD => by
  rw [zD, e] at q
  cases q
  exact n _ rfl (by rw [zD]; exact ED))).trans q) d v h
theorem DbAll.len {E : Addr → Prop} {H : Hp} {vs : List V} {ds : List PyData} (h : DbAll E H vs ds) : vs.length = ds.length := by
  induction ds generalizing vs with
  | nil => cases h; rfl
  | cons d ds ih =>
    cases h with
    | cons h1 h2 => rw [List.length_cons, List.length_cons, ih h2]
theorem DbAll.get {E : Addr → Prop} {H : Hp} {vs : List V} {ds : List PyData} (h : DbAll E H vs ds) (i : Nat) (v : V) (e : vs[i]? = some v) : ∃ d, ds[i]? = some d ∧ Db E H v d := by
  induction ds generalizing vs i with
  | nil => cases h; simp at e
  | cons d ds ih =>
    cases h with
    | cons h1 h2 =>
      cases i with
      | zero => exact ⟨d, rfl, by cases e; exact h1⟩
      | succ i => exact ih h2 i e
theorem DbAll.app {E : Addr → Prop} {H : Hp} {vs us : List V} {ds es : List PyData} (h : DbAll E H vs ds) (h' : DbAll E H us es) : DbAll E H (vs ++ us) (ds ++ es) := by
  induction ds generalizing vs with
  | nil => cases h; exact h'
  | cons d ds ih =>
    cases h with
    | cons h1 h2 => exact .cons h1 (ih h2)
theorem DbAll.take {E : Addr → Prop} {H : Hp} {vs : List V} {ds : List PyData} (h : DbAll E H vs ds) (i : Nat) : DbAll E H (vs.take i) (ds.take i) := by
  induction ds generalizing vs i with
  | nil => cases h; simp only [List.take_nil]; exact .nil
  | cons d ds ih =>
    cases h with
    | cons h1 h2 =>
      cases i with
      | zero => simp only [List.take_zero]; exact .nil
      | succ i => simp only [List.take_succ_cons]; exact .cons h1 (ih h2 i)
theorem DbAll.drop {E : Addr → Prop} {H : Hp} {vs : List V} {ds : List PyData} (h : DbAll E H vs ds) (i : Nat) : DbAll E H (vs.drop i) (ds.drop i) := by
  induction ds generalizing vs i with
  | nil => cases h; simp only [List.drop_nil]; exact .nil
  | cons d ds ih =>
    cases h with
    | cons h1 h2 =>
      cases i with
      | zero => simp only [List.drop_zero]; exact .cons h1 h2
      | succ i => simp only [List.drop_succ_cons]; exact ih h2 i
theorem DbAll.rev {E : Addr → Prop} {H : Hp} {vs : List V} {ds : List PyData} (h : DbAll E H vs ds) : DbAll E H vs.reverse ds.reverse := by
  induction ds generalizing vs with
  | nil => cases h; exact .nil
  | cons d ds ih =>
    cases h with
    | cons h1 h2 =>
      rw [List.reverse_cons, List.reverse_cons]
      exact (ih h2).app (.cons h1 .nil)
/-- the lists of E are there -/
def There (E : Addr → Prop) (H : Hp) : Prop := ∀ n, E n → ∃ o, H n = some o
theorem There.keep {E : Addr → Prop} {H H' : Hp} (h : There E H) (k : ∀ n o, H n = some o → ∃ o', H' n = some o') : There E H' := fun n hn => by
  obtain ⟨o, e⟩ := h n hn
  exact k n o e
theorem There.same {E : Addr → Prop} {H H' : Hp} (h : There E H) (s : Same H H') : There E H' := h.keep fun n o e => ⟨o, s n o e⟩
theorem There.but {E : Addr → Prop} {H H' : Hp} {a : Addr} {c : Nat} (h : There E H) (b : But a H H') (p : PotAt H' a c) : There E H' := h.keep fun n o e => by
  by_cases z : n = a
  · obtain ⟨_, _, _, ea, _⟩ := p
    exact ⟨_, by rw [z]; exact ea⟩
  · exact ⟨o, b n o z e⟩
theorem newb_tup {E : Addr → Prop} {t : Addr} {H : Hp} {xs : List V} {ds : List PyData} (nt : H t = none) (h : DbAll E H xs ds) : Same H (upd H t (.tup xs)) ∧ Db E (upd H t (.tup xs)) (.ref t) (.tuple ds) := ⟨same_new nt, .tup upd_same (h.same (same_new nt))⟩
theorem newb_lst {E : Addr → Prop} {t : Addr} {H : Hp} {xs : List V} {ds : List PyData} (nt : H t = none) (ns : t ≠ sysModules) (th : There E H) (h : DbAll E H xs ds) : Same H (upd H t (.lst xs)) ∧ Db E (upd H t (.lst xs)) (.ref t) (.list ds) := ⟨same_new nt, .lst upd_same ns (fun z => by
  obtain ⟨o, e⟩ := th t z
  rw [nt] at e
  cases e) (h.same (same_new nt))⟩
theorem newb_dct {E : Addr → Prop} {t : Addr} {H : Hp} (nt : H t = none) : Same H (upd H t (.dK [])) ∧ Db E (upd H t (.dK [])) (.ref t) (.dict []) := ⟨same_new nt, .dct upd_same⟩
theorem there_one {p : Addr} {H : Hp} {c : Nat} (h : PotAt H p c) : There (only p) H := fun n hn => by
  obtain ⟨_, _, _, ea, _⟩ := h
  exact ⟨_, by rw [show n = p from hn]; exact ea⟩
theorem there_two {p D : Addr} {H : Hp} {c : Nat} {o : HO} (h : PotAt H p c) (e : H D = some o) : There (twoA p D) H := fun n hn => by
  rcases hn with hn | hn
  · exact there_one h n hn
  · exact ⟨_, by rw [hn]; exact e⟩

/-! ### data cut and put together -/
theorem slD {K : PySem.W.Frag} {E : Addr → Prop} {p : Addr} {H : Hp} {xs : List V} {ds : List PyData} {lo hi : Option Int} {Q : VK} (h : H p = some (.tup xs)) (ha : DbAll E H xs ds)
    (q : ∀ g H' ys i j, Same H H' → H' g = some (.tup ys) → DbAll E H' ys ((ds.drop i).take j) → Q (.ref g) H') : rSlA K (.ref p) lo hi H Q := by
  have key : ∀ H', Same H H' → DbAll E H' (cutV xs lo hi) ((ds.drop (HT.sIx xs.length 0 lo)).take (HT.sIx xs.length xs.length hi - HT.sIx xs.length 0 lo)) := fun H' s => by
    unfold cutV
    exact ((ha.same s).drop _).take _
  refine ⟨p, _, rfl, .inl (.inl h), fun w => ?_, fun w g ng => ?_⟩
  · refine q p H xs 0 ds.length (Same.refl H) h ?_
    rw [List.drop_zero, List.take_length]
    exact ha
  · exact q g _ _ _ _ (same_new ng) upd_same (key _ (same_new ng))
theorem wt_take (ds : List PyData) (i : Nat) : PyData.weightAll (ds.take i) ≤ PyData.weightAll ds := by
  have := wt_two ds i
  omega
theorem wt_drop (ds : List PyData) (i : Nat) : PyData.weightAll (ds.drop i) ≤ PyData.weightAll ds := by
  have := wt_two ds i
  omega
theorem wt_cut (ds : List PyData) (i j : Nat) : PyData.weightAll ((ds.drop i).take j) ≤ PyData.weightAll ds := Nat.le_trans (wt_take _ _) (wt_drop _ _)
theorem SmE.cut {ds : List PyData} {k : Nat} (h : SmE ds k) (i j : Nat) : SmE ((ds.drop i).take j) k := SmE.take (SmE.drop h i) j
theorem len_cut (ds : List PyData) (i j : Nat) : ((ds.drop i).take j).length ≤ ds.length := by
  rw [List.length_take, List.length_drop]
  omega
theorem wt_rev : ∀ ds : List PyData, PyData.weightAll ds.reverse = PyData.weightAll ds
  | [] => rfl
  | d :: ds => by
    rw [List.reverse_cons, wt_app, wt_rev ds]
    simp only [PyData.weightAll]
    omega
theorem SmE.rev {ds : List PyData} {k : Nat} (h : SmE ds k) : SmE ds.reverse k := fun d hd => h d (List.mem_reverse.mp hd)
theorem line_of {n : Nat} (h : n ≤ 300000) : n ≤ sizeLine := by
  rw [sizeLine_eq]
  omega
/-- tuples of data put together -/
theorem catD {K : PySem.W.Frag} {E : Addr → Prop} {a b : Addr} {H : Hp} {xs ys : List V} {ds es : List PyData} {Q : VK} (ea : H a = some (.tup xs)) (ha : DbAll E H xs ds) (eb : H b = some (.tup ys)) (hb : DbAll E H ys es) (l : ds.length + es.length ≤ 300000)
    (q : ∀ g H' zs, Same H H' → H' g = some (.tup zs) → DbAll E H' zs (ds ++ es) → Q (.ref g) H') : rCatA K (.ref a) (.ref b) H Q :=
  cat_tups ea eb (line_of (by rw [ha.len, hb.len]; exact l)) fun g H' s e => q g H' _ s e ((ha.same s).app (hb.same s))
theorem PotAt.tupD {H H' : Hp} {a g : Addr} {c : Nat} {xs : List V} (p : PotAt H a c) (b : But a H H') (e : H g = some (.tup xs)) : H' g = some (.tup xs) := (Keep.but b p).tup e
theorem Sm.tupD {ds : List PyData} {w k : Nat} (h : SmE ds k) (hw : PyData.weightAll ds ≤ w) : Sm (.tuple ds) w (k + 1) := Sm.tup h hw
end K16

set_option Elab.async false
set_option linter.all false
set_option maxRecDepth 100000
namespace NB
open PySem PySem.SeqAt PySem.MeetsSeq
open PySem.AutoSeq1 (wpAny_loadPart')
open PySem.Spec PyProof.Rows L2
theorem dict_eq_declines_str (l : Addr) (es : Array DictEntry) (n : Nat) (dd : Option Addr) (sl : Array (Option Value)) (b : Str) (u : Tok) :
    Meets (Builtin.«dict.__eq__» ⟨[.ref l, .str b u], []⟩) (fun _ R s => s.heap.get? l = some { cls := .type "dict", dict := dd, data := .dict es n, slots := sl } ∧ R (.ok (.ret .notImplemented)) s) :=
  .of_wp fun prog w A R s h => by obtain ⟨hp, g, d, tk, os⟩ := s; obtain ⟨hl, h⟩ := h; have f1 := F.sub_str_dict; wp_walk using wpAny_loadPart' hl; exact ⟨_, rfl, h⟩
theorem str_eq_declines_dict (b : Str) (u : Tok) (l : Addr) (c : Value) (es : Array DictEntry) (n : Nat) (dd : Option Addr) (sl : Array (Option Value)) :
    Meets (Builtin.«str.__eq__» ⟨[.str b u, .ref l], []⟩) (fun _ R s => s.heap.get? l = some { cls := c, dict := dd, data := .dict es n, slots := sl } ∧ R (.ok (.ret .notImplemented)) s) :=
  .of_wp fun prog w A R s h => by obtain ⟨hp, g, d, tk, os⟩ := s; obtain ⟨hl, h⟩ := h; wp_walk using wpAny_loadPart' hl, wpAny_load hl; exact ⟨_, rfl, h⟩
theorem eqAt_str_dict {A : Around} {s : Shared} {l : Addr} {o : Obj} {es : Array DictEntry} {n : Nat} (b : Str) (u : Tok) (ho : s.heap.get? l = some o) (hc : o.cls = .type "dict") (hd : o.data = .dict es n) (hu : A.units < cLine) : EqAt A s (.str b u) (.ref l) false := fun prog w E Q h => by
  obtain ⟨cls, dd, data, sl⟩ := o
  simp only at hc hd
  subst hc hd
  unfold eqBool
  refine wpAny_holding ?_
  refine wpAny_ite_split (fun hab => absurd (eq_of_beq hab) nofun) (fun _ => ?_)
  refine wpAny_bind ?_
  exact rc_eq_decline_or (k := false) (typeIs_str s b u) ⟨_, ho, rfl⟩ (by decide) F.sub_dict_str F.slot_str_eq F.slot_dict_eq_refl
    (fun _ hq => call_meets F.slot_str_eq (typeIs_str s b u) F.entry_str_eq (F.args_str_eq_2 _ _) (str_eq_declines_dict b u l (.type "dict") es n dd sl) ⟨ho, hq⟩)
    (fun _ hq => call_meets F.slot_dict_eq_refl ⟨_, ho, rfl⟩ F.entry_dict_eq (F.args_dict_eq_2 _ _) (dict_eq_declines_str l es n dd sl b u) ⟨ho, hq⟩)
    (fun _ hq => wpAny_of_eq (rfl : isSame (.str b u) (.ref l) = pure false) hq) (.inr hu) (wpAny_truthy_bool h)
/-- texts, of which none is a thing of any kind but a text -/
def strEqD (x : Str) : PyData → Bool
  | .str y => x == y
  | _ => false
theorem eqAt_strD {A : Around} {s : Shared} {x : Str} {t : Tok} {v : Value} {d : PyData} {as : List Addr} (r : Reads s.heap v d as) (hu : A.units < cLine) : EqAt A s (.str x t) v (strEqD x d) := by
  cases r with
  | none => exact EqAt.str_none x t
  | bool y => exact EqAt.str_bool x t y
  | int y u => exact EqAt.str_int x t y u
  | str y u => exact EqAt.str_str x t y u
  | list k1 k2 k3 k4 => exact EqAt.str_list x t ⟨_, k1, k2, _, k3⟩ hu
  | tuple k1 k2 k3 k4 => exact EqAt.str_tuple x t ⟨_, k1, k2, _, k3⟩ hu
  | dict k1 k2 k3 k4 k5 => exact eqAt_str_dict x t k1 k2 k3 hu
/-- what a text is -/
def strOfV : Value → Str
  | .str x _ => x
  | _ => ""
theorem reads_strs {h : Heap} {d : PyData} : ∀ {xs : List Str} {vs : List Value} {as : List Addr}, ReadsAll h vs (xs.map PyData.str) as → (∀ y ∈ vs, ∃ z t, y = .str z t) ∧ vs.any (fun y => strEqD (strOfV y) d) = xs.any (fun z => strEqD z d)
  | [], _, _, r => by
    cases r
    exact ⟨(fun _ h => absurd h List.not_mem_nil), rfl⟩
  | x :: xs, _, _, r => by
    cases r with
    | cons r1 r2 =>
      cases r1 with
      | str _ t =>
        obtain ⟨h1, h2⟩ := reads_strs (d := d) r2
        refine ⟨fun y hy => ?_, by rw [List.any_cons, List.any_cons, h2]; rfl⟩
        rcases List.mem_cons.mp hy with rfl | hy
        · exact ⟨x, t, rfl⟩
        · exact h1 y hy
theorem notIn_strsD {prog : Program} {w : World} {A : Around} {E : Value → Shared → Prop} {s : Shared} {c x : Value} {xs : List Str} {d : PyData} {as bs : List Addr} {Q : Value → Shared → Prop} (rc : Reads s.heap c (.list (xs.map PyData.str)) as) (rx : Reads s.heap x d bs)
    (hu : A.units + 1 < cLine) (h : Q (.bool (!xs.any fun y => strEqD y d)) s) : wpAny (model prog w) A (compareOp .NotIn x c) Q E s := by
  cases rc with
  | list h1 h2 h3 h4 =>
    obtain ⟨k1, k2⟩ := reads_strs (d := d) h4
    refine notIn_listAt (fun y => strEqD (strOfV y) d) ⟨_, h1, h2, _, h3⟩ (fun y hy => ?_) (by rw [← Array.any_toList, k2]; exact h)
    obtain ⟨z, t, rfl⟩ := k1 y (by simpa using hy)
    exact eqAt_strD rx hu
section
variable {X : Cx}
/-- x not in [texts], x data of any kind -/
def rNotInA (K : PySem.W.Frag) : R2 := fun x y H Q => ∃ (n : Addr) (d : PyData) (p : Addr) (xs : List Str), Da n H x d ∧ y = .ref p ∧ H p = some (.lst (xs.map V.str)) ∧ Q (.bl (!xs.any fun z => strEqD z d)) H
theorem dp_strs {K : PySem.W.Frag} {H : Hp} : ∀ xs : List Str, DpAll K H (xs.map V.str) (xs.map PyData.str)
  | [] => .nil
  | x :: xs => .cons (.str x) (dp_strs xs)
theorem op_notInA (hu : X.A.units + 65 < cLine) : OpR X (compareOp .NotIn) (rNotInA X.K) := by
  intro pins s σ H x y v u Q I rx ry h
  obtain ⟨n, d, p, xs, hd, rfl, e, q⟩ := h
  obtain ⟨as, r1, _⟩ := Da.reads I d x v hd rx
  obtain ⟨bs, r2⟩ := Dp.reads I (.list (xs.map PyData.str)) (.ref p) u (.lst (.inl (.inl e)) (dp_strs xs)) ry
  exact notIn_strsD r2 r1 (by omega) ⟨.bl _, H, I, rfl, q⟩
end
end NB

set_option Elab.async false
set_option linter.all false
set_option maxRecDepth 100000
namespace K16
open PySem PySem.Spec PyProof.Rows L2 NB

theorem few_plc {tops : List Int} (fw : Few tops) (i : Nat) : plc tops i ≤ 3 := by
  rcases Nat.lt_or_ge i tops.length with c | c
  · rw [plc_get c]
    exact (fw _ (List.getElem_mem c)).2
  · show tops.getD i 0 ≤ 3
    rw [List.getD_eq_getElem?_getD, List.getElem?_eq_none c]
    decide

/-! ### papers as data, and what they say -/
theorem wt_small {i : Int} (h : i.natAbs ≤ 3) : PyData.weight (.int i) ≤ 2 := by
  unfold PyData.weight
  have l : i.natAbs.log2 ≤ 1 := by
    generalize i.natAbs = n at h
    match n, h with
    | 0, _ => decide
    | 1, _ => decide
    | 2, _ => decide
    | 3, _ => decide
  split <;> omega
theorem da_side {n p : Addr} {H : Hp} {s : Sd} (h : SideAt H p s) : Da n H (.ref p) (sdD s) := .tup h (.cons (.int _) (.cons (.str _) (.cons (.int _) .nil)))
theorem db_side {E : Addr → Prop} {p : Addr} {H : Hp} {s : Sd} (h : SideAt H p s) : Db E H (.ref p) (sdD s) := .tup h (.cons (.int _) (.cons (.str _) (.cons (.int _) .nil)))
theorem db_sides {E : Addr → Prop} {H : Hp} : ∀ {L : List (Addr × Sd)}, SdsAt H L → DbAll E H (sdR L) (sdsD L)
  | [], _ => .nil
  | z :: L, h => .cons (db_side (h z List.mem_cons_self)) (db_sides fun y hy => h y (List.mem_cons_of_mem _ hy))
theorem sm_word (b : Bool) : Sm (.str (word b)) 100 0 := by
  cases b <;> exact ⟨by decide +kernel, Nat.le_refl _, by decide +kernel, by decide +kernel⟩
theorem wt_word (b : Bool) : PyData.weight (.str (word b)) ≤ 4 := by
  cases b <;> decide +kernel
theorem sm_side {tops : List Int} {s : Sd} (fw : Few tops) (l4 : tops.length ≤ 4) (ok : SideOk tops s) : Sm (sdD s) 20 1 := by
  have lt := ok.lt
  have bd := ok.bd
  have f3 := few_plc fw s.1
  have big : (10 : Nat) < 10 ^ 90 := by decide
  have a := Sm.int (i := (s.1 : Int)) (by omega)
  have b := Sm.int (i := s.2.2) (by omega)
  have c := sm_word s.2.1
  refine Sm.tup (k := 0) (SmE.app (SmE.one a) (SmE.app (SmE.one c) (SmE.one b))) ?_
  have := wt_small (i := (s.1 : Int)) (by omega)
  have := wt_small (i := s.2.2) (by omega)
  have := wt_word s.2.1
  simp only [PyData.weightAll]
  omega
theorem sm_sides {tops : List Int} (fw : Few tops) (l4 : tops.length ≤ 4) : ∀ {L : List (Addr × Sd)}, (∀ z ∈ L, SideOk tops z.2) → SmE (sdsD L) 1 ∧ PyData.weightAll (sdsD L) ≤ 21 * L.length
  | [], _ => ⟨fun _ h => absurd h List.not_mem_nil, Nat.le_refl _⟩
  | z :: L, h => by
    obtain ⟨h1, h2⟩ := sm_sides fw l4 (L := L) fun y hy => h y (List.mem_cons_of_mem _ hy)
    have a := sm_side fw l4 (h z List.mem_cons_self)
    have aw := a.wt
    refine ⟨SmE.app (SmE.one a) h1, ?_⟩
    show PyData.weightAll (sdD z.2 :: sdsD L) ≤ 21 * (L.length + 1)
    simp only [PyData.weightAll]
    omega
theorem dlen_le {d : PyData} {w k : Nat} (S : Sm d w k) : dLen d ≤ w := by
  cases d with
  | tuple ds =>
    obtain ⟨j, _, _, h⟩ := S.of_tup
    have := wt_len ds
    show ds.length ≤ w
    omega
  | _ => exact Nat.zero_le _
theorem dlen_in {d : PyData} {w k : Nat} (S : Sm d w k) {ds : List PyData} (e : d = .tuple ds) : ∀ y ∈ ds, dLen y ≤ w := fun y hy => by
  subst e
  obtain ⟨j, _, _, h⟩ := S.of_tup
  have h2 := wt_mem hy
  cases y with
  | tuple es =>
    have := wt_len es
    have e : PyData.weight (.tuple es) = PyData.weightAll es := by simp only [PyData.weight]
    show es.length ≤ w
    omega
  | _ => exact Nat.zero_le _

/-! ### papers looked at, of anything: barred -/
theorem atI_lastS {L : List (Addr × Sd)} {z : Addr × Sd} : atI (sdR (L ++ [z])) (-1) = some (V.ref z.1) := by
  have e : sdR (L ++ [z]) = sdR L ++ [V.ref z.1] := by
    show (L ++ [z]).map _ = L.map _ ++ _
    rw [List.map_append]
    rfl
  rw [e]
  exact atI_last _ _
def sdL : PyData → List Sd
  | .tuple ds => ds.map sdOf
  | _ => []
/-- what a chain of anything is, where it is one -/
theorem chain_at {n : Addr} {H : Hp} {v : V} {d : PyData} {tops : List Int} {rs : List Rl} (h : Da n H v d) (c : chainD tops rs d = true) : ∃ (p : Addr) (z0 : Addr × Sd) (L0 : List (Addr × Sd)), v = .ref p ∧ H p = some (.tup (sdR (z0 :: L0))) ∧ SdsAt H (z0 :: L0) ∧ (∀ z ∈ z0 :: L0, SideOk tops z.2) ∧ sdL d = (z0 :: L0).map (·.2) := by
  rcases tup_or d with ⟨ds, rfl⟩ | hn
  · have c' : (ds.all (sideD tops) && (!ds.isEmpty && chB tops rs (ds.map sdOf))) = true := c
    simp only [Bool.and_eq_true] at c'
    obtain ⟨h1, h2, _⟩ := c'
    cases h with
    | tup e ha =>
    rename_i p xs
    obtain ⟨L, rfl, hL, okL, eL⟩ := sides_at ha h1
    cases L with
    | nil =>
      cases ds with
      | nil => cases h2
      | cons _ _ => simp at eL
    | cons z0 L0 => exact ⟨p, z0, L0, rfl, e, hL, okL, eL.symm⟩
  · rw [chain_no (areS_no hn)] at c
    cases c
def barD (tops : List Int) (rs : List Rl) (W : List Sd) (d : PyData) : Bool := chainD tops rs d && (decide ((sdL d).headD (0, true, 0) ∈ W) && W.any fun s => barsB tops ((sdL d).getLastD (0, true, 0)) s)
theorem any_take {α : Type} (g : α → Bool) (xs : List α) (i : Nat) (y : α) (h : xs[i]? = some y) : ((xs.take (i + 1)).map g).map V.bl = ((xs.take i).map g).map V.bl ++ [V.bl (g y)] := all_take g xs i y h
section
variable {P : Program} {w : World} {K : PySem.W.Frag} {mg : Str → Option Value} {base : Heap}
def spBarD (C : Addr) : Sp := fun vs H Q _ => ∃ (n x g : Addr) (tops : List Int) (rs : List Rl) (W : List (Addr × Sd)) (v : V) (d : PyData), vs = [.ref x, .ref g, v] ∧ PlanAt C H x tops rs ∧ H g = some (.tup (sdR W)) ∧ SdsAt H W ∧ (∀ z ∈ W, SideOk tops z.2) ∧ W.length ≤ 400 ∧ Da n H v d ∧ (∀ q ∈ rs, RuleOk tops q) ∧ rs.length ≤ 40 ∧ dLen d ≤ 200000 ∧
  ∀ H', Same H H' → Q (.bl (barD tops rs (W.map (·.2)) d)) H'
abbrev a_is_barred : Stmt := topS 37
abbrev n_is_barred : List Str := ["plan", "want", "thing", "side"]
theorem sc_is_barred : FnScope n_is_barred ["plan", "want", "thing"] (defScope a_is_barred) := ⟨rfl, rfl, rfl, by decide +kernel, rfl, by decide +kernel, by decide +kernel⟩
set_option maxHeartbeats 8000000 in
theorem ok_is_barred {f fIc fBs : Addr} {fd fdIc fdBs : FuncData} {k : Nat} {C : Addr} (F : Fun K "is_barred" "is_barred" a_is_barred f fd) (Ic : Kn P w K mg base 5 "is_chain" ["plan", "thing"] (spChD C) fIc fdIc) (Bs : Kn P w K mg base 2 "bars" ["plan", "one", "other"] (spTwo C barsB) fBs fdBs)  (m_any : mg "any" = none) : FnOk P w K mg base CX0 (k + 6) f fd ["plan", "want", "thing"] (spBarD C) := by
  refine F.ok sc_is_barred (fun vs H Q E h => ?_) (fun cdv A outer s H vs Q E hr h => ?_)
  · obtain ⟨n, x, g, tops, rs, W, v, d, rfl, _⟩ := h
    rfl
  · obtain ⟨n, x, g, tops, rs, W, v, d, rfl, hp, eg, hW, okW, lW, hd, rok, l40, dl, q⟩ := h
    refine ⟨_, (pss_cons (ps_if (PW.pt (pw_or (pt_not (pt_val (pe_kn Ic hr (by omega) (pa_cons (pv 0) (pa_cons (pv 2) pa_nil))))) (pw_or1 (pt_cmpR (notInT (Room.u65 hr)) (pe_ix ix_tup (pv 2) pe_int (fun _ _ => rfl)) (pv 1) (by rfl))))) (pss_one (ps_ret pe_bl)) pss_nil)
      (pss_one (ps_ret (pe_callB (cr_any rfl) (by rfl) m_any (by decide +kernel) (pa_cons (
        pe_lc (own := [("side", 3)]) (g := (gName 3)) (tt := tYes) (te := (tCall (spTwo C barsB) [] E0 (tCons (tVar 0) (tCons (tOp (rIxT K) (tVar 2) (tUn (rU fun i => .int (-i)) (tC (.int 1)))) (tCons (tVar 3) tNil))))) rfl sc_is_barred.nd (pi_tup (pv 1)) (blkOk_by (N := n_is_barred) (sc := defScope a_is_barred) (by decide +kernel))
          (fun _ _ _ _ _ => (pg_name (i := 3) sc_is_barred.nd rfl (.inl rfl) (hf := .inr rfl))) (fun _ _ _ _ _ => pts_nil) (fun _ _ _ _ _ => (pe_kn Bs hr (by omega) (pa_cons (pv 0) (pa_cons (pe_ix (r := rIxT K) ix_tup (pv 2) (pe_un un_neg pe_int) (fun _ _ => rfl)) (pa_cons (pv 3) pa_nil)))))) pa_nil))))), ?_⟩
    refine ⟨_, rfl, _, rfl, n, x, tops, rs, v, d, rfl, hp, hd, rok, l40, dl, fun H1 s1 => ⟨_, rfl, ?_⟩⟩
    cases cc : chainD tops rs d with
    | false =>
      have : barD tops rs (W.map (·.2)) d = false := by
        unfold barD
        rw [cc, Bool.false_and]
      rw [this] at q
      exact iteT (q _ s1)
    | true =>
    obtain ⟨p, z0, L0, rfl, ep, hL, okL, eL⟩ := chain_at (hd.same s1) cc
    have eg1 := s1 _ _ eg
    have hW1 := hW.keep (.same s1)
    have eB : barD tops rs (W.map (·.2)) d = (decide (z0.2 ∈ W.map (·.2)) && (W.map (·.2)).any fun s => barsB tops ((sdL d).getLastD (0, true, 0)) s) := by
      unfold barD
      rw [cc, Bool.true_and, eL]
      rfl
    rw [eB] at q
    refine iteF ⟨_, rfl, p, _, 0, _, rfl, rfl, .inl (.inl ep), atI_nat (j := 0) rfl, _, rfl, _, _, dp_sd (hL z0 List.mem_cons_self), .tup (.inl (.inl eg1)) (dp_sds hW1), shaped_sd _, shaped_sdsT _, _, rfl, ?_⟩
    show if (!(sdsD W).any fun z => PyData.eqv z (sdD z0.2)) = true then _ else _
    rw [sds_any]
    cases cm : decide (z0.2 ∈ W.map (·.2)) with
    | false =>
      rw [cm, Bool.false_and] at q
      exact iteT (q _ s1)
    | true =>
    rw [cm, Bool.true_and] at q
    refine iteF ?_
    obtain ⟨L', y, e'⟩ : ∃ L' y, z0 :: L0 = L' ++ [y] := ⟨_, _, (List.dropLast_concat_getLast (List.cons_ne_nil _ _)).symm⟩
    rw [e'] at ep hL okL eL
    have my : y ∈ L' ++ [y] := by simp
    have el : (sdL d).getLastD (0, true, 0) = y.2 := by
      rw [eL, List.map_append]
      exact List.getLastD_concat ..
    rw [el] at q
    refine ⟨_, rfl, g, rfl, ⟨_, .inl (.inl eg1)⟩, fun D nD => lc_it (walk_tup (xs := sdR W)) (fun i H' => Same H1 H' ∧ H' D = some (.lst ((((W.map (·.2)).take i).map (barsB tops y.2)).map V.bl))) ⟨same_new nD, upd_same⟩ (fun i H' _ u => .inl (.inl (u.1 _ _ eg1))) (fun i v' H2x H2 hi u z => ?_) (fun H2 u => ?_)⟩
    · obtain ⟨sm, eD⟩ := u
      obtain ⟨rfl, gv⟩ := z
      obtain ⟨z, ez, rfl⟩ := mapGet gv
      have mz := List.mem_of_getElem? ez
      have ez' : (W.map (·.2))[i]? = some z.2 := by rw [List.getElem?_map, ez]; rfl
      refine ⟨wipe_one, _, rfl, _, rfl, _, rfl, p, _, _, _, rfl, rfl, .inl (.inl (sm _ _ ep)), atI_lastS, _, rfl, x, y.1, z.1, tops, rs, y.2, z.2, rfl, hp.keep (.same (s1.trans sm)), (hL y my).keep (.same sm), (hW1 z mz).keep (.same sm), okL y my, okW z mz, fun H4 s4 => ⟨_, s4 _ _ eD, ?_, same_over (sm.trans s4) nD, ?_⟩⟩
      · rw [List.length_map, List.length_map, List.length_take, List.length_map]
        exact small1000 (by omega)
      · rw [upd_same, all_take _ _ i z.2 ez']
    · obtain ⟨sm, eD⟩ := u
      have lw : (sdR W).length = (W.map (·.2)).length := by
        show (W.map fun z => V.ref z.1).length = _
        rw [List.length_map, List.length_map]
      rw [lw, List.take_length] at eD
      refine ⟨D, _, rfl, .inl (.inl eD), ?_⟩
      have ea : ((W.map (·.2)).map (barsB tops y.2)).any id = (W.map (·.2)).any fun s => barsB tops y.2 s := by rw [List.any_map]; rfl
      rw [ea]
      exact q _ (s1.trans sm)
end

/-! ### papers looked at, of anything: rings -/
def hdS (d : PyData) : Sd := (sdL d).headD (0, true, 0)
def laS (d : PyData) : Sd := (sdL d).getLastD (0, true, 0)
def ringD (tops : List Int) (rs : List Rl) (d e : PyData) : Bool := chainD tops rs d && (chainD tops rs e && (decide (othS tops (hdS d) = some (laS d)) && (decide (hdS e = laS d) && decide (laS e = hdS d))))
def othD : Option Sd → PyData
  | none => .none
  | some s => sdD s
theorem dp_oth {K : PySem.W.Frag} {H : Hp} {v : V} {o : Option Sd} (h : OthAt H v o) : Dp K H v (othD o) := by
  cases o with
  | none =>
    obtain rfl : v = .non := h
    exact .non
  | some s =>
    obtain ⟨g, rfl, hg⟩ := h
    exact dp_sd hg
theorem shaped_oth (o : Option Sd) : SeqAt.shaped (othD o) = true := by
  cases o with
  | none => decide
  | some s => exact shaped_sd s
theorem eqv_oth (s : Sd) (o : Option Sd) : PyData.eqv (sdD s) (othD o) = decide (o = some s) := by
  cases o with
  | none => rfl
  | some t =>
    show PyData.eqv (sdD s) (sdD t) = _
    rw [eqv_sd]
    refine decide_eq_decide.mpr ⟨fun h => by rw [h], fun h => (Option.some.inj h).symm⟩
section
variable {P : Program} {w : World} {K : PySem.W.Frag} {mg : Str → Option Value} {base : Heap}
def spRingD (C : Addr) : Sp := fun vs H Q _ => ∃ (n x : Addr) (tops : List Int) (rs : List Rl) (v u : V) (d e : PyData), vs = [.ref x, v, u] ∧ PlanAt C H x tops rs ∧ Da n H v d ∧ Da n H u e ∧ (∀ q ∈ rs, RuleOk tops q) ∧ rs.length ≤ 40 ∧ dLen d ≤ 200000 ∧ dLen e ≤ 200000 ∧
  ∀ H', Same H H' → Q (.bl (ringD tops rs d e)) H'
abbrev a_is_ring : Stmt := topS 38
abbrev n_is_ring : List Str := ["plan", "one", "two"]
theorem sc_is_ring : FnScope n_is_ring ["plan", "one", "two"] (defScope a_is_ring) := ⟨rfl, rfl, rfl, by decide +kernel, rfl, by decide +kernel, by decide +kernel⟩
set_option maxHeartbeats 8000000 in
theorem ok_is_ring {f fIc fOs : Addr} {fd fdIc fdOs : FuncData} {k : Nat} {C : Addr} (F : Fun K "is_ring" "is_ring" a_is_ring f fd) (Ic : Kn P w K mg base 5 "is_chain" ["plan", "thing"] (spChD C) fIc fdIc) (Os : Kn P w K mg base 2 "other_side" ["plan", "side"] (spOth C) fOs fdOs)   : FnOk P w K mg base CX0 (k + 6) f fd ["plan", "one", "two"] (spRingD C) := by
  refine F.ok sc_is_ring (fun vs H Q E h => ?_) (fun cdv A outer s H vs Q E hr h => ?_)
  · obtain ⟨n, x, tops, rs, v, u, d, e, rfl, _⟩ := h
    rfl
  · obtain ⟨n, x, tops, rs, v, u, d, e, rfl, hp, hd, he, rok, l40, dl, dl', q⟩ := h
    refine ⟨_, (pss_cons (ps_if (PW.pt (pw_or (pt_not (pt_val (pe_kn Ic hr (by omega) (pa_cons (pv 0) (pa_cons (pv 1) pa_nil))))) (pw_or1 (pt_not (pt_val (pe_kn Ic hr (by omega) (pa_cons (pv 0) (pa_cons (pv 2) pa_nil)))))))) (pss_one (ps_ret pe_bl)) pss_nil)
      (pss_one (ps_ret (pe_and (pe_cmpR (op_eqD hr.units) (pe_ix ix_tup (pv 1) (pe_un un_neg pe_int) (fun _ _ => rfl)) (pe_kn Os hr (by omega) (pa_cons (pv 0) (pa_cons (pe_ix ix_tup (pv 1) pe_int (fun _ _ => rfl)) pa_nil))) (nomark _)) (pe_and (pe_cmpR (op_eqD hr.units) (pe_ix ix_tup (pv 2) pe_int (fun _ _ => rfl)) (pe_ix ix_tup (pv 1) (pe_un un_neg pe_int) (fun _ _ => rfl)) (nomark _)) (pe_one (pe_cmpR (op_eqD hr.units) (pe_ix ix_tup (pv 2) (pe_un un_neg pe_int) (fun _ _ => rfl)) (pe_ix ix_tup (pv 1) pe_int (fun _ _ => rfl)) (nomark _)))))))), ?_⟩
    refine ⟨_, rfl, _, rfl, n, x, tops, rs, v, d, rfl, hp, hd, rok, l40, dl, fun H1 s1 => ⟨_, rfl, ?_⟩⟩
    unfold ringD at q
    cases cd : chainD tops rs d with
    | false =>
      rw [cd, Bool.false_and] at q
      exact iteT (q _ s1)
    | true =>
    rw [cd, Bool.true_and] at q
    refine iteF ⟨_, rfl, _, rfl, n, x, tops, rs, u, e, rfl, hp.keep (.same s1), he.same s1, rok, l40, dl', fun H2 s2 => ⟨_, rfl, ?_⟩⟩
    have s12 := s1.trans s2
    cases ce : chainD tops rs e with
    | false =>
      rw [ce, Bool.false_and] at q
      exact iteT (q _ s12)
    | true =>
    rw [ce, Bool.true_and] at q
    refine iteF ?_
    obtain ⟨p, z0, L0, rfl, ep, hL, okL, eL⟩ := chain_at (hd.same s12) cd
    obtain ⟨r, y0, M0, rfl, er, hM, okM, eM⟩ := chain_at (he.same s12) ce
    have ed0 : hdS d = z0.2 := by unfold hdS; rw [eL]; rfl
    have ee0 : hdS e = y0.2 := by unfold hdS; rw [eM]; rfl
    have hz0 := hL z0 List.mem_cons_self
    have hy0 := hM y0 List.mem_cons_self
    have okz0 := okL z0 List.mem_cons_self
    have g0 : atI (sdR (z0 :: L0)) 0 = some (.ref z0.1) := atI_nat (j := 0) rfl
    have k0 : atI (sdR (y0 :: M0)) 0 = some (.ref y0.1) := atI_nat (j := 0) rfl
    obtain ⟨L', z, e1⟩ : ∃ L' y, z0 :: L0 = L' ++ [y] := ⟨_, _, (List.dropLast_concat_getLast (List.cons_ne_nil _ _)).symm⟩
    obtain ⟨M', y, e2⟩ : ∃ L' y, y0 :: M0 = L' ++ [y] := ⟨_, _, (List.dropLast_concat_getLast (List.cons_ne_nil _ _)).symm⟩
    rw [e1] at ep hL okL eL g0
    rw [e2] at er hM okM eM k0
    have mz : z ∈ L' ++ [z] := by simp
    have my : y ∈ M' ++ [y] := by simp
    have ed1 : laS d = z.2 := by
      unfold laS
      rw [eL, List.map_append]
      exact List.getLastD_concat ..
    have ee1 : laS e = y.2 := by
      unfold laS
      rw [eM, List.map_append]
      exact List.getLastD_concat ..
    have hz := hL z mz
    have hy := hM y my
    rw [ed0, ed1, ee0, ee1] at q
    refine ⟨_, rfl, _, rfl, p, _, _, _, rfl, rfl, .inl (.inl ep), atI_lastS, _, rfl, _, rfl, p, _, 0, _, rfl, rfl, .inl (.inl ep), g0, x, z0.1, tops, rs, z0.2, rfl, hp.keep (.same s12), hz0, okz0, fun H3 vo s3 ho => ?_⟩
    have s13 := s12.trans s3
    refine ⟨_, _, dp_sd (hz.keep (.same s3)), dp_oth ho, shaped_sd _, shaped_oth _, _, rfl, ?_⟩
    rw [eqv_oth]
    have ep3 := s3 _ _ ep
    have er3 := s3 _ _ er
    cases c1 : decide (othS tops z0.2 = some z.2) with
    | false =>
      rw [c1, Bool.false_and] at q
      exact iteF (q _ s13)
    | true =>
    rw [c1, Bool.true_and] at q
    refine iteT ⟨_, rfl, r, _, 0, _, rfl, rfl, .inl (.inl er3), k0, _, rfl, _, rfl, p, _, _, _, rfl, rfl, .inl (.inl ep3), atI_lastS, _, _, dp_sd (hy0.keep (.same s3)), dp_sd (hz.keep (.same s3)), shaped_sd _, shaped_sd _, _, rfl, ?_⟩
    rw [eqv_sd]
    cases c2 : decide (y0.2 = z.2) with
    | false =>
      rw [c2, Bool.false_and] at q
      exact iteF (q _ s13)
    | true =>
    rw [c2, Bool.true_and] at q
    refine iteT ⟨_, rfl, _, rfl, r, _, _, _, rfl, rfl, .inl (.inl er3), atI_lastS, _, rfl, p, _, 0, _, rfl, rfl, .inl (.inl ep3), g0, _, _, dp_sd (hy.keep (.same s3)), dp_sd (hz0.keep (.same s3)), shaped_sd _, shaped_sd _, ?_⟩
    rw [eqv_sd]
    exact q _ s13
end

/-! ### papers looked at, of anything -/
def noneW (tops : List Int) (rs : List Rl) (W : List Sd) : PyData → Bool
  | .tuple [k, d] => strIs "barred" k && barD tops rs W d
  | .tuple [k, d, e] => strIs "ring" k && ringD tops rs d e
  | _ => false
theorem noneW_len {tops : List Int} {rs : List Rl} {W : List Sd} {ds : List PyData} (h2 : ds.length ≠ 2) (h3 : ds.length ≠ 3) : noneW tops rs W (.tuple ds) = false := by
  match ds, h2, h3 with
  | [], _, _ => rfl
  | [_], _, _ => rfl
  | [_, _], h, _ => exact absurd rfl h
  | [_, _, _], _, h => exact absurd rfl h
  | _ :: _ :: _ :: _ :: _, _, _ => rfl
theorem noneW_no {tops : List Int} {rs : List Rl} {W : List Sd} {d : PyData} (h : isTupD d = false) : noneW tops rs W d = false := by
  cases d with
  | tuple ds => cases h
  | _ => rfl
theorem strIs_no {z : Str} {d : PyData} (h : isStrD d = false) : strIs z d = false := by
  cases d with
  | str x => cases h
  | _ => rfl
section
variable {P : Program} {w : World} {K : PySem.W.Frag} {mg : Str → Option Value} {base : Heap}
def spShN (C : Addr) : Sp := fun vs H Q _ => ∃ (n x g : Addr) (tops : List Int) (rs : List Rl) (W : List (Addr × Sd)) (v : V) (d : PyData), vs = [.ref x, .ref g, v] ∧ PlanAt C H x tops rs ∧ H g = some (.tup (sdR W)) ∧ SdsAt H W ∧ (∀ z ∈ W, SideOk tops z.2) ∧ W.length ≤ 400 ∧ Da n H v d ∧ (∀ q ∈ rs, RuleOk tops q) ∧ rs.length ≤ 40 ∧ (∀ ds, d = .tuple ds → ∀ y ∈ ds, dLen y ≤ 200000) ∧
  ∀ H', Same H H' → Q (.bl (noneW tops rs (W.map (·.2)) d)) H'
abbrev a_shows_none : Stmt := topS 39
abbrev n_shows_none : List Str := ["plan", "want", "thing"]
theorem sc_shows_none : FnScope n_shows_none ["plan", "want", "thing"] (defScope a_shows_none) := ⟨rfl, rfl, rfl, by decide +kernel, rfl, by decide +kernel, by decide +kernel⟩
set_option maxHeartbeats 8000000 in
theorem ok_shows_none {f fIb fIr : Addr} {fd fdIb fdIr : FuncData} {k : Nat} {C : Addr} (F : Fun K "shows_none" "shows_none" a_shows_none f fd) (Ib : Kn P w K mg base 6 "is_barred" ["plan", "want", "thing"] (spBarD C) fIb fdIb) (Ir : Kn P w K mg base 6 "is_ring" ["plan", "one", "two"] (spRingD C) fIr fdIr)  (m_isinstance : mg "isinstance" = none) (m_len : mg "len" = none) (m_str : mg "str" = none) (m_tuple : mg "tuple" = none) : FnOk P w K mg base CX0 (k + 7) f fd ["plan", "want", "thing"] (spShN C) := by
  refine F.ok sc_shows_none (fun vs H Q E h => ?_) (fun cdv A outer s H vs Q E hr h => ?_)
  · obtain ⟨n, x, g, tops, rs, W, v, d, rfl, _⟩ := h
    rfl
  · obtain ⟨n, x, g, tops, rs, W, v, d, rfl, hp, eg, hW, okW, lW, hd, rok, l40, dl, q⟩ := h
    refine ⟨_, (pss_cons (ps_if (PW.pt (pw_or (pt_not (pt_val (pe_callB call_isiD (by rfl) m_isinstance (by decide +kernel) (pa_cons (pv 2) (pa_cons (pe_bltn (v := .ty "tuple") (u := .type "tuple") (by rfl) m_tuple (by decide +kernel) rfl) pa_nil))))) (pw_or (pt_cmpR op_notIn_seq (pe_callB call_len_seq (by rfl) m_len (by decide +kernel) (pa_cons (pv 2) pa_nil)) (pe_tup (pa_cons pe_int (pa_cons pe_int pa_nil))) (by rfl)) (pw_or1 (pt_not (pt_val (pe_callB call_isiD (by rfl) m_isinstance (by decide +kernel) (pa_cons (pe_ix ix_tup (pv 2) pe_int (fun _ _ => rfl)) (pa_cons (pe_bltn (v := .ty "str") (u := .type "str") (by rfl) m_str (by decide +kernel) rfl) pa_nil))))))))) (pss_one (ps_ret pe_bl)) pss_nil)
      (pss_cons (ps_if (pt_cmpR op_eq (pe_callB call_len_seq (by rfl) m_len (by decide +kernel) (pa_cons (pv 2) pa_nil)) pe_int (nomark _)) (pss_one (ps_ret (pe_and (pe_cmpR op_eq (pe_ix ix_tup (pv 2) pe_int (fun _ _ => rfl)) pe_str (nomark _)) (pe_one (pe_kn Ib hr (by omega) (pa_cons (pv 0) (pa_cons (pv 1) (pa_cons (pe_ix ix_tup (pv 2) pe_int (fun _ _ => rfl)) pa_nil)))))))) pss_nil)
      (pss_one (ps_ret (pe_and (pe_cmpR op_eq (pe_ix ix_tup (pv 2) pe_int (fun _ _ => rfl)) pe_str (nomark _)) (pe_one (pe_kn Ir hr (by omega) (pa_cons (pv 0) (pa_cons (pe_ix ix_tup (pv 2) pe_int (fun _ _ => rfl)) (pa_cons (pe_ix ix_tup (pv 2) pe_int (fun _ _ => rfl)) pa_nil)))))))))), ?_⟩
    rcases tup_or d with ⟨ds, rfl⟩ | hn
    · have dl' := dl ds rfl
      have hd0 := hd
      cases hd with
      | tup e ha =>
      rename_i a xs
      have ll := ha.len
      refine ⟨_, rfl, n, _, _, "tuple", _, rfl, hd0, kit_tup _, _, rfl, iteF ⟨_, rfl, a, xs, rfl, .inr (.inl (.inl e)), (show 2 ≤ sizeLine by decide), fun T nT => ?_⟩⟩
      have sT := same_new (o := HO.tup [V.int 2, V.int 3]) nT
      refine ⟨T, _, rfl, .inr (.inl (.inl upd_same)), rfl, by decide, _, rfl, ?_⟩
      have e1 := sT _ _ e
      have ha1 := ha.same sT
      have hp1 := hp.keep (.same sT)
      have eg1 := sT _ _ eg
      have hW1 := hW.keep (.same sT)
      generalize upd H T (.tup [V.int 2, V.int 3]) = H1 at sT e1 ha1 hp1 eg1 hW1 ⊢
      show if (!inV (V.int (xs.length : Int)) [V.int 2, V.int 3]) = true then _ else _
      rw [inV_int2]
      by_cases l2 : ds.length = 2
      · match ds, l2, ha1, dl' with
        | [d0, d1], _, .cons h0 (.cons h1 .nil), dl' =>
        rename_i v0 v1
        refine iteFa rfl ⟨_, rfl, a, _, 0, v0, rfl, rfl, .inl (.inl e1), atI_nat (j := 0) rfl, n, v0, d0, "str", _, rfl, h0, kit_str d0, _, rfl, ?_⟩
        have eN : noneW tops rs (W.map (·.2)) (.tuple [d0, d1]) = (strIs "barred" d0 && barD tops rs (W.map (·.2)) d1) := rfl
        rw [eN] at q
        rcases str_or d0 with ⟨z, rfl⟩ | hs
        · cases h0
          refine iteFa rfl ⟨_, rfl, a, _, rfl, .inr (.inl (.inl e1)), rfl, _, rfl, iteTr rfl ⟨_, rfl, a, _, 0, _, rfl, rfl, .inl (.inl e1), atI_nat (j := 0) rfl, rfl, _, rfl, ?_⟩⟩
          have es : strIs "barred" (.str z) = decide (z = "barred") := rfl
          rw [es] at q
          by_cases hz : z = "barred"
          · rw [decide_eq_true hz, Bool.true_and] at q
            refine iteTr (decide_eq_true (by rw [hz])) ⟨_, rfl, _, rfl, _, rfl, a, _, 1, v1, rfl, rfl, .inl (.inl e1), atI_nat (j := 1) rfl, n, x, g, tops, rs, W, v1, d1, rfl, hp1, eg1, hW1, okW, lW, h1, rok, l40, dl' d1 (by simp), fun H2 s2 => q _ (sT.trans s2)⟩
          · rw [decide_eq_false hz, Bool.false_and] at q
            have hf : decide (V.str z = V.str "barred") = false := decide_eq_false fun h => hz (by injection h)
            rw [hf]
            exact iteF (q _ sT)
        · rw [strIs_no hs, Bool.false_and] at q
          rw [hs]
          exact iteTr rfl (q _ sT)
      · by_cases l3 : ds.length = 3
        · match ds, l3, ha1, dl' with
          | [d0, d1, d2], _, .cons h0 (.cons h1 (.cons h2 .nil)), dl' =>
          rename_i v0 v1 v2
          refine iteFa rfl ⟨_, rfl, a, _, 0, v0, rfl, rfl, .inl (.inl e1), atI_nat (j := 0) rfl, n, v0, d0, "str", _, rfl, h0, kit_str d0, _, rfl, ?_⟩
          have eN : noneW tops rs (W.map (·.2)) (.tuple [d0, d1, d2]) = (strIs "ring" d0 && ringD tops rs d1 d2) := rfl
          rw [eN] at q
          rcases str_or d0 with ⟨z, rfl⟩ | hs
          · cases h0
            refine iteFa rfl ⟨_, rfl, a, _, rfl, .inr (.inl (.inl e1)), rfl, _, rfl, iteFa rfl ⟨_, rfl, a, _, 0, _, rfl, rfl, .inl (.inl e1), atI_nat (j := 0) rfl, rfl, _, rfl, ?_⟩⟩
            have es : strIs "ring" (.str z) = decide (z = "ring") := rfl
            rw [es] at q
            by_cases hz : z = "ring"
            · rw [decide_eq_true hz, Bool.true_and] at q
              refine iteTr (decide_eq_true (by rw [hz])) ⟨_, rfl, _, rfl, a, _, 1, v1, rfl, rfl, .inl (.inl e1), atI_nat (j := 1) rfl, _, rfl, a, _, 2, v2, rfl, rfl, .inl (.inl e1), atI_nat (j := 2) rfl, n, x, tops, rs, v1, v2, d1, d2, rfl, hp1, h1, h2, rok, l40, dl' d1 (by simp), dl' d2 (by simp), fun H2 s2 => q _ (sT.trans s2)⟩
            · rw [decide_eq_false hz, Bool.false_and] at q
              have hf : decide (V.str z = V.str "ring") = false := decide_eq_false fun h => hz (by injection h)
              rw [hf]
              exact iteF (q _ sT)
          · rw [strIs_no hs, Bool.false_and] at q
            rw [hs]
            exact iteTr rfl (q _ sT)
        · rw [noneW_len l2 l3] at q
          have hf : (decide ((xs.length : Int) = 2) || decide ((xs.length : Int) = 3)) = false := by
            rw [decide_eq_false (show ¬ (xs.length : Int) = 2 by omega), decide_eq_false (show ¬ (xs.length : Int) = 3 by omega)]
            rfl
          rw [hf]
          exact iteTr rfl (q _ sT)
    · refine ⟨_, rfl, n, _, d, "tuple", _, rfl, hd, kit_tup d, _, rfl, ?_⟩
      rw [hn]
      rw [noneW_no hn] at q
      exact iteT (q H (Same.refl H))
end

/-! ### chains and good standings -/
/-- who leads is in, so is who is led to -/
theorem lds_in {tops : List Int} {rs : List Rl} (rok : ∀ q ∈ rs, RuleOk tops q) {st : List Int} (hg : st ∈ goods tops rs) {a b : Sd} (oa : SideOk tops a) (ob : SideOk tops b) (h : ldsB tops rs a b = true) (ha : inB st a = true) : inB st b = true := by
  unfold ldsB at h
  rw [Bool.or_eq_true, decide_eq_true_eq] at h
  rcases h with h | h
  · obtain ⟨e, h1, h2⟩ := within_iff.mp h
    have := (in_span hg oa).mp ha
    refine (in_span hg ob).mpr ?_
    rw [← e]
    omega
  · exact Rea.in' rok (S := (· = a)) (fun s e => by rw [e]; exact oa) hg (fun s e => by rw [e]; exact ha) (.step (.base rfl) h)
theorem chB_in {tops : List Int} {rs : List Rl} (rok : ∀ q ∈ rs, RuleOk tops q) {st : List Int} (hg : st ∈ goods tops rs) : ∀ {l : List Sd} {a : Sd}, (∀ s ∈ a :: l, SideOk tops s) → chB tops rs (a :: l) = true → inB st a = true → ∀ s ∈ a :: l, inB st s = true
  | [], a, _, _, ha, s, hs => by
    rw [List.mem_singleton.mp hs]
    exact ha
  | b :: l, a, ok, h, ha, s, hs => by
    rw [chB_cons, Bool.and_eq_true] at h
    rcases List.mem_cons.mp hs with rfl | hs
    · exact ha
    · exact chB_in rok hg (fun z hz => ok z (List.mem_cons_of_mem _ hz)) h.2 (lds_in rok hg (ok a List.mem_cons_self) (ok b (List.mem_cons_of_mem _ List.mem_cons_self)) h.1 ha) s hs
theorem chain_ch {tops : List Int} {rs : List Rl} {d : PyData} (h : chainD tops rs d = true) : chB tops rs (sdL d) = true := by
  cases d with
  | tuple ds =>
    have h' : (ds.all (sideD tops) && (!ds.isEmpty && chB tops rs (ds.map sdOf))) = true := h
    simp only [Bool.and_eq_true] at h'
    exact h'.2.2
  | _ => cases h
/-- where a chain's first side is in, its last one is -/
theorem chain_in' {tops : List Int} {rs : List Rl} (rok : ∀ q ∈ rs, RuleOk tops q) {st : List Int} (hg : st ∈ goods tops rs) {n : Addr} {H : Hp} {v : V} {d : PyData} (D : Da n H v d) (h : chainD tops rs d = true) (i : inB st (hdS d) = true) : inB st (laS d) = true ∧ SideOk tops (hdS d) ∧ SideOk tops (laS d) := by
  obtain ⟨p, z0, L0, _, _, _, okL, eL⟩ := chain_at D h
  have c := chain_ch h
  have e0 : hdS d = z0.2 := by unfold hdS; rw [eL]; rfl
  have ok' : ∀ s ∈ z0.2 :: L0.map (·.2), SideOk tops s := fun s hs => by
    have : s ∈ (z0 :: L0).map (·.2) := hs
    obtain ⟨z, hz, rfl⟩ := List.mem_map.mp this
    exact okL z hz
  have ml : laS d ∈ z0.2 :: L0.map (·.2) := by
    unfold laS
    rw [eL]
    show (z0.2 :: L0.map (·.2)).getLastD (0, true, 0) ∈ _
    rw [List.getLastD_cons]
    exact List.getLastD_mem_cons ..
  rw [eL] at c
  rw [e0] at i
  exact ⟨chB_in rok hg ok' c i _ ml, by rw [e0]; exact ok' _ List.mem_cons_self, ok' _ ml⟩
end K16

set_option Elab.async false
set_option linter.all false
set_option maxRecDepth 100000
set_option maxHeartbeats 1000000
/-! enumerate of a zip of three tuples. -/
namespace NB
open PySem PySem.Spec PyProof.Rows L2
open PySem.Sem (wp)
section
variable {prog : Program} {w : World} {A : Around} {E : Value → Shared → Prop} {s : Shared} {z ti to i1 i2 i3 l1 l2 l3 : Addr} {a a1 a2 a3 : Value} {f : Bool} {xs ys zs : Array Value} {i : Nat}
theorem nextOfZ3 {x1 x2 x3 : Value} {Q : Value → Shared → Prop} (D : Far3 z ti to i1 i2 i3 l1 l2 l3) (ho : Out a) (hz : Zat s.heap z ti to a (.bool f))
    (hI : IsTupOf3 s.heap ti (.ref i1) (.ref i2) (.ref i3)) (hO : IsTupOf3 s.heap to a1 a2 a3) (st : St3 s.heap i1 i2 i3 l1 l2 l3 xs ys zs i)
    (hx : xs[i]? = some x1) (hy : ys[i]? = some x2) (hw : zs[i]? = some x3)
    (hQ : ∀ (h' : Heap) (a' : Value) (g : Bool) (b1 b2 b3 : Value), Out a' → Zat h' z ti to a' (.bool g) → IsTupOf3 h' to b1 b2 b3 → St3 h' i1 i2 i3 l1 l2 l3 xs ys zs (i + 1) → IsTupOf3 h' s.heap.objs.size x1 x2 x3 → h'.objs.size = s.heap.objs.size + 1 →
      (∀ c o, c ≠ z → c ≠ to → c ≠ i1 → c ≠ i2 → c ≠ i3 → s.heap.get? c = some o → h'.get? c = some o) → Q (.ref s.heap.objs.size) { s with heap := h' }) :
    wpAny (model prog w) A (Builtin.SmallTypes.nextOf (.ref z)) Q E s := by
  have ty : s.TypeIs (.ref z) "zip" := ⟨_, hz, rfl⟩
  unfold Builtin.SmallTypes.nextOf
  refine wpAny_bind (wpAny_callSpecial?_slot (name := Str.ofString "__next__") ty F.slot_zip_next (wpAny_call_entry F.slot_zip_next ty F.entry_zip_next ?_ (F.args_zip_next_1 _)))
  exact next3 D ho hz hI hO st hx hy hw fun h' a' g b1 b2 b3 c1 c2 c3 c4 c5 c6 c7 => wpAny_pure (hQ h' a' g b1 b2 b3 c1 c2 c3 c4 c5 c6 c7)
theorem nextOfZ_end3 {Q : Value → Shared → Prop} (hh : A.handled = none) (D : Far3 z ti to i1 i2 i3 l1 l2 l3) (ho : Out a) (hz : Zat s.heap z ti to a (.bool f))
    (hI : IsTupOf3 s.heap ti (.ref i1) (.ref i2) (.ref i3)) (st : s.heap.IsTupleIter i1 l1 i ∧ s.heap.IsTuple l1 xs) (hx : xs[i]? = none)
    (hE : ∀ h' e, (∀ c o, c ≠ z → c ≠ to → c ≠ i1 → c ≠ i2 → c ≠ i3 → s.heap.get? c = some o → h'.get? c = some o) → (∃ o, h'.get? e = some o ∧ o.cls = .type "StopIteration") → E (.ref e) { s with heap := h' }) :
    wpAny (model prog w) A (Builtin.SmallTypes.nextOf (.ref z)) Q E s := by
  have ty : s.TypeIs (.ref z) "zip" := ⟨_, hz, rfl⟩
  unfold Builtin.SmallTypes.nextOf
  refine wpAny_bind (wpAny_callSpecial?_slot (name := Str.ofString "__next__") ty F.slot_zip_next (wpAny_call_entry F.slot_zip_next ty F.entry_zip_next ?_ (F.args_zip_next_1 _)))
  exact end3 hh D ho hz hI st hx hE
end

section
variable {prog : Program} {w : World} {A : Around} {E : Value → Shared → Prop} {s : Shared} {e z ti to i1 i2 i3 l1 l2 l3 : Addr} {a a1 a2 a3 old : Value} {f : Bool} {xs ys zs : Array Value} {i : Nat} {c : Int}
/-- the enumerate's next over a zip: h₁ is the heap behind the zip's own next -/
theorem enumZ_next3 {x1 x2 x3 : Value} {Q : Value → Shared → Prop} (D : Far3 z ti to i1 i2 i3 l1 l2 l3) (he : IsEnum s.heap e z c old) (n1 : e ≠ z) (n2 : e ≠ to) (n3 : e ≠ i1) (n4 : e ≠ i2) (n5 : e ≠ i3)
    (ho : Out a) (hz : Zat s.heap z ti to a (.bool f)) (hI : IsTupOf3 s.heap ti (.ref i1) (.ref i2) (.ref i3)) (hO : IsTupOf3 s.heap to a1 a2 a3) (st : St3 s.heap i1 i2 i3 l1 l2 l3 xs ys zs i) (hx : xs[i]? = some x1) (hy : ys[i]? = some x2) (hw : zs[i]? = some x3)
    (hQ : ∀ (h₁ : Heap) (a' : Value) (g : Bool) (b1 b2 b3 : Value), Out a' → Zat h₁ z ti to a' (.bool g) → IsTupOf3 h₁ to b1 b2 b3 → St3 h₁ i1 i2 i3 l1 l2 l3 xs ys zs (i + 1) → IsTupOf3 h₁ s.heap.objs.size x1 x2 x3 → h₁.objs.size = s.heap.objs.size + 1 →
      (∀ c o, c ≠ z → c ≠ to → c ≠ i1 → c ≠ i2 → c ≠ i3 → s.heap.get? c = some o → h₁.get? c = some o) → IsEnum h₁ e z c old →
      ∀ h', IsEnumOut h' e z (c + 1) (.ref s.heap.objs.size) h₁.objs.size → h'.get? h₁.objs.size = some { cls := .type "tuple", data := .seq #[.int c s.toks, .ref s.heap.objs.size] } → (∀ b o, b ≠ e → h₁.get? b = some o → h'.get? b = some o) →
      Q (.ref h₁.objs.size) { s with heap := h', toks := s.toks + 1 }) :
    wpAny (model prog w) A (Builtin.«enumerate.__next__» ⟨[.ref e], []⟩) (fun fin s' => ∃ v, fin = .done (.ret v) ∧ Q v s') E s := by
  obtain ⟨hp, g, d, tk, os⟩ := s
  show wpAny _ _ (field (.ref e) 2 >>= _) _ _ _
  refine wpAny_bind (wpAny_field he rfl (x := .ref z) rfl ?_)
  refine wpAny_bind (nextOfZ3 D ho hz hI hO st hx hy hw fun h₁ a' g' b1 b2 b3 ho' hz' hO' st' hT hsz hk => ?_)
  have he₁ : IsEnum h₁ e z c old := hk _ _ n1 n2 n3 n4 n5 he
  have hq := hQ h₁ a' g' b1 b2 b3 ho' hz' hO' st' hT hsz hk he₁
  clear hQ
  generalize hx' : Value.ref (Shared.heap ⟨hp, g, d, tk, os⟩).objs.size = x at hq ⊢
  show wpAny _ _ (field (.ref e) 3 >>= _) _ _ ⟨h₁, g, d, tk, os⟩
  refine wpAny_bind (wpAny_field he₁ rfl (x := rawInt c) rfl ?_)
  show wpAny _ _ (field (.ref e) 4 >>= _) _ _ ⟨h₁, g, d, tk, os⟩
  refine wpAny_bind (wpAny_field he₁ rfl (x := .none) rfl ?_)
  show wpAny _ _ (mkInt c >>= _) _ _ ⟨h₁, g, d, tk, os⟩
  refine wpAny_bind (wpAny_mkInt ?_)
  show wpAny _ _ (setField (.ref e) 3 (rawInt (c + 1)) >>= _) _ _ ⟨h₁, g, d, tk + 1, os⟩
  refine wpAny_bind (wpAny_setField_rec he₁ (by simp) fun h₂ he₂ hs₂ => ?_)
  replace hs₂ : Heap.SameBut e h₁ h₂ := hs₂
  replace he₂ : IsEnum h₂ e z (c + 1) old := he₂
  show wpAny _ _ (setField (.ref e) 4 .none >>= _) _ _ ⟨h₂, g, d, tk + 1, os⟩
  refine wpAny_bind (wpAny_setField_rec he₂ (by simp) fun h₃ he₃ hs₃ => ?_)
  replace hs₃ : Heap.SameBut e h₂ h₃ := hs₃
  replace he₃ : IsEnum h₃ e z (c + 1) old := he₃
  show wpAny _ _ (newTuple [.int c tk, x] >>= _) _ _ ⟨h₃, g, d, tk + 1, os⟩
  refine wpAny_bind (wpAny_newTuple ?_)
  have he₄ : IsEnum (h₃.push { cls := .type "tuple", data := .seq #[.int c tk, x] }) e z (c + 1) old := Heap.get?_push_of_some _ he₃
  generalize hh₄ : h₃.push { cls := .type "tuple", data := .seq #[.int c tk, x] } = h₄ at he₄
  have hsz3 : h₃.objs.size = h₁.objs.size := by rw [hs₃.1, hs₂.1]
  have hel : e < h₁.objs.size := Heap.lt_size he₁
  have ht₄ : h₄.get? h₁.objs.size = some { cls := .type "tuple", data := .seq #[.int c tk, x] } := by rw [← hh₄, ← hsz3]; exact Heap.get?_push_size _ rfl
  have hk₄ : ∀ b o, b ≠ e → h₁.get? b = some o → h₄.get? b = some o := fun b o hbe hb => by
    rw [← hh₄]; exact Heap.get?_push_of_some _ (hs₃.extBut b o hbe (hs₂.extBut b o hbe hb))
  show wpAny _ _ (Builtin.SmallTypes.ownedTupleIsFree (.ref e) >>= _) _ _ ⟨h₄, g, d, tk + 1, os⟩
  rw [hsz3]
  clear hh₄ he₃ hs₃ he₂ hs₂ hsz3 h₃ h₂
  refine wpAny_bind ?_
  · unfold Builtin.SmallTypes.ownedTupleIsFree
    refine wpAny_bind (wpAny_field he₄ rfl (x := .none) rfl (wpAny_pure ?_))
    simp only [if_true]
    refine wpAny_bind (wpAny_rule ?_)
    refine wpAny_bind (wpAny_field he₄ rfl (x := old) rfl ?_)
    refine wpAny_bind (wpAny_setField_rec he₄ (by simp) fun h₅ he₅ hs₅ => ?_)
    replace hs₅ : Heap.SameBut e h₄ h₅ := hs₅
    replace he₅ : IsEnum h₅ e z (c + 1) x := he₅
    show wpAny _ _ (Builtin.SmallTypes.ownedTupleHandOut (.ref e) (.ref h₁.objs.size) >>= _) _ _ ⟨h₅, g, d, tk + 1, os⟩
    refine wpAny_bind ?_
    · unfold Builtin.SmallTypes.ownedTupleHandOut
      refine wpAny_bind (wpAny_setField_rec he₅ (by simp) fun h₆ he₆ hs₆ => ?_)
      replace hs₆ : Heap.SameBut e h₅ h₆ := hs₆
      replace he₆ : IsEnumOut h₆ e z (c + 1) x h₁.objs.size := he₆
      refine wpAny_setField_rec he₆ (by simp) fun h₇ he₇ hs₇ => ?_
      replace hs₇ : Heap.SameBut e h₆ h₇ := hs₇
      replace he₇ : IsEnumOut h₇ e z (c + 1) x h₁.objs.size := he₇
      refine wpAny_bind (wpAny_letGo (wpAny_pure ⟨_, rfl, hq h₇ he₇ ?_ ?_⟩))
      · exact hs₇.extBut _ _ (Nat.ne_of_gt hel) (hs₆.extBut _ _ (Nat.ne_of_gt hel) (hs₅.extBut _ _ (Nat.ne_of_gt hel) ht₄))
      · exact fun b o hbe hb => hs₇.extBut b o hbe (hs₆.extBut b o hbe (hs₅.extBut b o hbe (hk₄ b o hbe hb)))
theorem enumZ_end3 {Q : Option Value → Shared → Prop} (hh : A.in1.handled = none) (D : Far3 z ti to i1 i2 i3 l1 l2 l3) (he : IsEnum s.heap e z c old)
    (ho : Out a) (hz : Zat s.heap z ti to a (.bool f)) (hI : IsTupOf3 s.heap ti (.ref i1) (.ref i2) (.ref i3)) (st : s.heap.IsTupleIter i1 l1 i ∧ s.heap.IsTuple l1 xs) (hx : xs[i]? = none)
    (hQ : ∀ h', (∀ c o, c ≠ z → c ≠ to → c ≠ i1 → c ≠ i2 → c ≠ i3 → s.heap.get? c = some o → h'.get? c = some o) → Q none { s with heap := h' }) : wpAny (model prog w) A (pyNext (.ref e)) Q E s := by
  have hT : s.TypeIs (.ref e) "enumerate" := ⟨_, he, rfl⟩
  unfold pyNext
  refine wpAny_bind (wpAny_attempt (wpAny_callSpecial?_slot (name := Str.ofString "__next__") hT F.slot_enumerate_next
    (wpAny_call_entry F.slot_enumerate_next hT F.entry_enumerate_next ?_ (F.args_enumerate_next_1 _))))
  show wpAny _ _ (field (.ref e) 2 >>= _) _ _ _
  refine wpAny_bind (wpAny_field he rfl (x := .ref z) rfl ?_)
  refine wpAny_bind (nextOfZ_end3 hh D ho hz hI st hx fun h' x hk hx' => ?_)
  obtain ⟨o, ho', hc⟩ := hx'
  refine wpAny_bind (wpAny_isInstance (T := "StopIteration") (b := true) ⟨o, ho', hc⟩ isSubtype_stop ?_)
  exact wpAny_pure (hQ _ hk)
end

section
variable {prog : Program} {w : World} {A : Around} {E : Value → Shared → Prop} {s : Shared} {e z ti to i1 i2 i3 l1 l2 l3 : Addr} {a a1 a2 a3 old : Value} {f : Bool} {xs ys zs : Array Value} {i : Nat} {c : Int}
theorem pyNextEZ3 {x1 x2 x3 : Value} {Q : Option Value → Shared → Prop} (D : Far3 z ti to i1 i2 i3 l1 l2 l3) (he : IsEnum s.heap e z c old) (n1 : e ≠ z) (n2 : e ≠ to) (n3 : e ≠ i1) (n4 : e ≠ i2) (n5 : e ≠ i3)
    (ho : Out a) (hz : Zat s.heap z ti to a (.bool f)) (hI : IsTupOf3 s.heap ti (.ref i1) (.ref i2) (.ref i3)) (hO : IsTupOf3 s.heap to a1 a2 a3) (st : St3 s.heap i1 i2 i3 l1 l2 l3 xs ys zs i) (hx : xs[i]? = some x1) (hy : ys[i]? = some x2) (hw : zs[i]? = some x3)
    (hQ : ∀ (h₁ : Heap) (a' : Value) (g : Bool) (b1 b2 b3 : Value), Out a' → Zat h₁ z ti to a' (.bool g) → IsTupOf3 h₁ to b1 b2 b3 → St3 h₁ i1 i2 i3 l1 l2 l3 xs ys zs (i + 1) → IsTupOf3 h₁ s.heap.objs.size x1 x2 x3 → h₁.objs.size = s.heap.objs.size + 1 →
      (∀ c o, c ≠ z → c ≠ to → c ≠ i1 → c ≠ i2 → c ≠ i3 → s.heap.get? c = some o → h₁.get? c = some o) → IsEnum h₁ e z c old →
      ∀ h', IsEnumOut h' e z (c + 1) (.ref s.heap.objs.size) h₁.objs.size → h'.get? h₁.objs.size = some { cls := .type "tuple", data := .seq #[.int c s.toks, .ref s.heap.objs.size] } → (∀ b o, b ≠ e → h₁.get? b = some o → h'.get? b = some o) →
      Q (some (.ref h₁.objs.size)) { s with heap := h', toks := s.toks + 1 }) :
    wpAny (model prog w) A (pyNext (.ref e)) Q E s := by
  have ty : s.TypeIs (.ref e) "enumerate" := ⟨_, he, rfl⟩
  unfold pyNext
  refine wpAny_bind (wpAny_attempt (wpAny_callSpecial?_slot (name := Str.ofString "__next__") ty F.slot_enumerate_next ?_))
  refine wpAny_call_entry F.slot_enumerate_next ty F.entry_enumerate_next ?_ (F.args_enumerate_next_1 _)
  exact enumZ_next3 D he n1 n2 n3 n4 n5 ho hz hI hO st hx hy hw fun h₁ a' g b1 b2 b3 c1 c2 c3 c4 c5 c6 c7 c8 h' c9 c10 c11 => wpAny_pure (hQ h₁ a' g b1 b2 b3 c1 c2 c3 c4 c5 c6 c7 c8 h' c9 c10 c11)
end
/-- numbers and the triples of three tuples of one length, side by side -/
def ItEz3 (K : PySem.W.Frag) (a b c : Addr) : It :=
  ⟨fun i H => ∃ (xs ys zs : List V) (x y z : V), SqT K H a xs ∧ SqT K H b ys ∧ SqT K H c zs ∧ xs[i]? = some x ∧ ys[i]? = some y ∧ zs[i]? = some z,
    fun i H v H' => ∃ T U x y z, v = .ref T ∧ H U = none ∧ upd H U (.tup [x, y, z]) T = none ∧ H' = upd (upd H U (.tup [x, y, z])) T (.tup [.int (i : Nat), .ref U]) ∧ (∀ xs, SqT K H a xs → xs[i]? = some x) ∧ (∀ ys, SqT K H b ys → ys[i]? = some y) ∧ ∀ zs, SqT K H c zs → zs[i]? = some z,
    fun i H => ∃ xs : List V, SqT K H a xs ∧ xs.length ≤ i⟩
structure FarE3 (e z ti to i1 i2 i3 a b c : Addr) : Prop where
  D : Far3 z ti to i1 i2 i3 a b c
  ez : e ≠ z
  et : e ≠ ti
  eo : e ≠ to
  e1 : e ≠ i1
  e2 : e ≠ i2
  e3 : e ≠ i3
  ea : a ≠ e
  eb : b ≠ e
  ec : c ≠ e
theorem turnEz3 {P : Program} {w : World} {K : PySem.W.Frag} {elts : List Expr} {kk : Nat} {tpos : Pos} {e z ti to i1 i2 i3 a b c : Addr} (F : FarE3 e z ti to i1 i2 i3 a b c) :
    Turn P w K (.Tuple elts kk tpos) (ItEz3 K a b c) [e, z, ti, to, i1, i2, i3] e (fun i h => (∃ old, IsEnum h e z ((i : Nat) : Int) old) ∧ (∃ v f, Out v ∧ Zat h z ti to v (.bool f)) ∧ IsTupOf3 h ti (.ref i1) (.ref i2) (.ref i3) ∧ (∃ b1 b2 b3, IsTupOf3 h to b1 b2 b3) ∧
      h.IsTupleIter i1 a i ∧ h.IsTupleIter i2 b i ∧ h.IsTupleIter i3 c i) where
  mem := by simp
  obj := fun i h st q hq => by
    obtain ⟨⟨old, he⟩, ⟨v, f, _, hz⟩, hI, ⟨b1, b2, b3, hO⟩, ⟨o1, e1, _, d1⟩, ⟨o2, e2, _, d2⟩, ⟨o3, e3, _, d3⟩⟩ := st
    have e' : q = e ∨ q = z ∨ q = ti ∨ q = to ∨ q = i1 ∨ q = i2 ∨ q = i3 := by simpa using hq
    rcases e' with r | r | r | r | r | r | r
    · rw [r]; exact ⟨_, he, fun v q => nomatch q⟩
    · rw [r]; exact ⟨_, hz, fun v q => nomatch q⟩
    · rw [r]; exact ⟨_, hI, fun v q => nomatch q⟩
    · rw [r]; exact ⟨_, hO, fun v q => nomatch q⟩
    · rw [r]; exact ⟨o1, e1, fun v q => by rw [d1] at q; cases q⟩
    · rw [r]; exact ⟨o2, e2, fun v q => by rw [d2] at q; cases q⟩
    · rw [r]; exact ⟨o3, e3, fun v q => by rw [d3] at q; cases q⟩
  keep := fun i h h' st k => by
    obtain ⟨⟨old, he⟩, ⟨v, f, ho, hz⟩, hI, ⟨b1, b2, b3, hO⟩, h1, h2, h3⟩ := st
    exact ⟨⟨old, k e (by simp) _ he⟩, ⟨v, f, ho, k z (by simp) _ hz⟩, k ti (by simp) _ hI, ⟨b1, b2, b3, k to (by simp) _ hO⟩, h1.at fun o q => k i1 (by simp) o q, h2.at fun o q => k i2 (by simp) o q, h3.at fun o q => k i3 (by simp) o q⟩
  item := by
    intro X hP hw hK hc i pins s σ H E I hf st hg
    subst hP hw hK
    obtain ⟨⟨old, he⟩, ⟨v, f, ho, hz⟩, hI, ⟨b1, b2, b3, hO⟩, h1, h2, h3⟩ := st
    obtain ⟨xs, ys, zs, x, y, u, qx, qy, qu, hx, hy, hu⟩ := hg
    obtain ⟨t1, r1, p1, _⟩ := I.tuple qx
    obtain ⟨t2, r2, p2, _⟩ := I.tuple qy
    obtain ⟨t3, r3, p3, _⟩ := I.tuple qu
    obtain ⟨v1, g1, rv1⟩ := r1.get hx
    obtain ⟨v2, g2, rv2⟩ := r2.get hy
    obtain ⟨v3, g3, rv3⟩ := r3.get hu
    have D := F.D
    have lts : ∀ q ∈ [e, z, ti, to, i1, i2, i3], q < s.heap.objs.size := fun q hq => by
      have e' : q = e ∨ q = z ∨ q = ti ∨ q = to ∨ q = i1 ∨ q = i2 ∨ q = i3 := by simpa using hq
      rcases e' with r | r | r | r | r | r | r
      · rw [r]; exact Heap.lt_size he
      · rw [r]; exact Heap.lt_size hz
      · rw [r]; exact Heap.lt_size hI
      · rw [r]; exact Heap.lt_size hO
      · rw [r]; obtain ⟨_, e1, _⟩ := h1; exact Heap.lt_size e1
      · rw [r]; obtain ⟨_, e1, _⟩ := h2; exact Heap.lt_size e1
      · rw [r]; obtain ⟨_, e1, _⟩ := h3; exact Heap.lt_size e1
    refine pyNextEZ3 D he F.ez F.eo F.e1 F.e2 F.e3 ho hz hI hO ⟨⟨h1, p1⟩, ⟨h2, p2⟩, ⟨h3, p3⟩⟩ (x1 := v1) (x2 := v2) (x3 := v3) (by simpa using g1) (by simpa using g2) (by simpa using g3) fun m a' g c1 c2 c3 ho' hz' hO' st' hT hsz hk he1 h' heo hTT hk' => ?_
    refine ⟨_, rfl, wpAny_letOwnedTupleGo_enum (s := { s with heap := h', toks := s.toks + 1 }) heo fun h'' he' sb => ?_⟩
    replace sb : Heap.SameBut e h' h'' := sb
    have el := lts e (by simp)
    have kk2 : ∀ q o, q ≠ e → m.get? q = some o → h''.get? q = some o := fun q o ne hq => (sb.2 q ne).trans (hk' q o ne hq)
    have new : ObjOk X.prog X.w (upd H s.heap.objs.size (.tup [x, y, u])) m s.heap.objs.size (.tup [x, y, u]) :=
      ⟨by show 3 ≤ sizeLine; decide, [v1, v2, v3], .cons rv1 (.cons rv2 (.cons rv3 .nil)), ⟨_, hT, rfl, _, rfl⟩⟩
    have I1 : Inv X pins σ (upd H s.heap.objs.size (.tup [x, y, u])) { s with heap := m } :=
      I.turnedNew (t' := s.toks) (ch := [e, z, ti, to, i1, i2, i3]) (fun q o hb e => hk q o (fun q' => hb (by simp [q'])) (fun q' => hb (by simp [q'])) (fun q' => hb (by simp [q'])) (fun q' => hb (by simp [q'])) (fun q' => hb (by simp [q'])) e) hf (Nat.le_refl _) new
    have zl : m.objs.size = s.heap.objs.size + 1 := hsz
    have nT : upd H s.heap.objs.size (.tup [x, y, u]) m.objs.size = none := I1.hok.fresh (Nat.le_refl _)
    have hT2 : h''.get? m.objs.size = some { cls := .type "tuple", data := .seq #[.int i s.toks, .ref s.heap.objs.size] } := (sb.2 _ (by rw [zl]; exact Nat.ne_of_gt (Nat.lt_succ_of_lt el))).trans hTT
    have new2 : ObjOk X.prog X.w (upd (upd H s.heap.objs.size (.tup [x, y, u])) m.objs.size (.tup [.int (i : Nat), .ref s.heap.objs.size])) h'' m.objs.size (.tup [.int (i : Nat), .ref s.heap.objs.size]) :=
      ⟨by show 2 ≤ sizeLine; decide, [.int i s.toks, .ref s.heap.objs.size], .cons ⟨_, rfl⟩ (.cons rfl .nil), ⟨_, hT2, rfl, _, rfl⟩⟩
    have I2 : Inv X pins σ (upd (upd H s.heap.objs.size (.tup [x, y, u])) m.objs.size (.tup [.int (i : Nat), .ref s.heap.objs.size])) { s with heap := h'', toks := s.toks + 1 } :=
      I1.turnedNew (t' := s.toks + 1) (ch := [e]) (fun q o hb hq => kk2 q o (fun q' => hb (by simp [q'])) hq) (fun q hq => by
        have hq' := List.mem_singleton.mp hq
        subst hq'
        have h0 := hf q (by simp)
        exact ⟨by rw [upd_ne (Nat.ne_of_lt el)]; exact h0.1, h0.2⟩) (Nat.le_refl _) new2
    refine ⟨.ref m.objs.size, _, I2, rfl, ⟨m.objs.size, s.heap.objs.size, x, y, u, rfl, I.hok.fresh (Nat.le_refl _), nT, rfl, fun l hl => by rw [I.tuple_inj hl qx]; exact hx, fun l hl => by rw [I.tuple_inj hl qy]; exact hy, fun l hl => by rw [I.tuple_inj hl qu]; exact hu⟩, ⟨⟨.ref s.heap.objs.size, ?_⟩, ⟨a', g, ho', kk2 _ _ F.ez.symm hz'⟩, ?_, ⟨c1, c2, c3, kk2 _ _ F.eo.symm hO'⟩, st'.1.1.at fun o q => kk2 _ _ F.e1.symm q, st'.2.1.1.at fun o q => kk2 _ _ F.e2.symm q, st'.2.2.1.at fun o q => kk2 _ _ F.e3.symm q⟩, fun q hq => ?_⟩
    · rw [show ((i + 1 : Nat) : Int) = (i : Int) + 1 by omega]
      exact he'
    · exact kk2 _ _ F.et.symm (hk _ _ D.tiz D.tito D.ti1 D.ti2 D.ti3 hI)
    · have lt := lts q hq
      have lt' : q < s.heap.objs.size := lt
      rw [upd_ne (by rw [zl]; exact Nat.ne_of_lt (Nat.lt_succ_of_lt lt')), upd_ne (Nat.ne_of_lt lt')]
      exact (hf q hq).1
  done := by
    intro X hP hw hK hc i pins s σ H E I hf st hg
    subst hP hw hK
    obtain ⟨⟨old, he⟩, ⟨v, f, ho, hz⟩, hI, ⟨b1, b2, b3, hO⟩, h1, h2, h3⟩ := st
    obtain ⟨xs, qx, hlen⟩ := hg
    obtain ⟨t1, r1, p1, _⟩ := I.tuple qx
    have le := r1.length
    refine enumZ_end3 (I.ok.hd hc) F.D he ho hz hI ⟨h1, p1⟩ (by simp; omega) fun h' hk => ⟨rfl, I.turnedL (t' := s.toks) (ch := [e, z, ti, to, i1, i2, i3]) (fun q o hb e => ?_) hf⟩
    exact hk q o (fun q' => hb (by simp [q'])) (fun q' => hb (by simp [q'])) (fun q' => hb (by simp [q'])) (fun q' => hb (by simp [q'])) (fun q' => hb (by simp [q'])) e
  self := fun A i s Q E st h => by
    obtain ⟨⟨_, he⟩, _⟩ := st
    exact wpAny_pyIter_enum he h
theorem farE_at3 (n a b c : Nat) (ha : a < n) (hb : b < n) (hc : c < n) : FarE3 (n + 6) (n + 5) (n + 3) (n + 4) n (n + 1) (n + 2) a b c := by
  constructor
  · exact far_at n a b c ha hb hc
  all_goals (show (_ : Nat) ≠ _; omega)
def iEnumZ3 (K : PySem.W.Frag) (ta : TA) : TI := fun σ H R => ta σ H fun vs H1 => ∃ a b c xs ys zs, vs = [.ref a, .ref b, .ref c] ∧ SqT K H1 a xs ∧ SqT K H1 b ys ∧ SqT K H1 c zs ∧ R (ItEz3 K a b c) H1
theorem pi_enumZ3 {X : Cx} {es : List Expr} {kk : Nat} {tpos p p2 pos pos2 : Pos} {e e2 e3 : Expr} {ta : TA} (hg : Gl X "enumerate") (hm : X.mg "enumerate" = none) (hg2 : Gl X "zip") (hm2 : X.mg "zip" = none) (ha : PA X [e, e2, e3] ta)
    (hs : starEach [e, e2, e3] X.env = (false, eval e X.env) :: starEach [e2, e3] X.env := by rfl) (hpl : (backTo pos2 (starEach [e2, e3] X.env)).any (·.1) = false := by rfl)
    (hs1 : starEach [.Call (.Name "zip" p2) [e, e2, e3] [] pos2] X.env = (false, eval (.Call (.Name "zip" p2) [e, e2, e3] [] pos2) X.env) :: starEach [] X.env := by rfl) :
    PI X (.Tuple es kk tpos) (.Call (.Name "enumerate" p) [.Call (.Name "zip" p2) [e, e2, e3] [] pos2] [] pos) (iEnumZ3 X.K ta) := by
  refine ⟨fun pins s σ H R I h => ?_⟩
  refine Call_ (ld_blt I hg hm boot_enumerate (PyProof.Rows.callWith_type1 (args_cons ?_ hs1) hs1))
  refine Call_ (ld_blt I hg2 hm2 PyProof.Rows.boot_zip (PyProof.Rows.callWith_type1 (thn (ha.run pos2 pins s σ H _ I h) fun us s1 h1 => ?_) hs hpl))
  obtain ⟨vs, H1, I1, r1, a, b, c, xs, ys, zs, rfl, q1, q2, q3, q⟩ := h1
  cases r1 with
  | cons ra rr =>
    cases rr with
    | cons rb rr =>
      cases rr with
      | cons rc rr =>
        cases rr
        cases ra
        cases rb
        cases rc
        obtain ⟨t1, v1, p1, _⟩ := I1.tuple q1
        obtain ⟨t2, v2, p2', _⟩ := I1.tuple q2
        obtain ⟨t3, v3, p3', _⟩ := I1.tuple q3
        obtain ⟨o1, g1, _⟩ := id p1
        obtain ⟨o2, g2, _⟩ := id p2'
        obtain ⟨o3, g3, _⟩ := id p3'
        refine zip_begins3 (begins_tuple a t1.toArray) (begins_tuple b t2.toArray) (begins_tuple c t3.toArray) p1 p2' p3' fun h' hz hI hO e1 e2 e3 hsz hk => args_nil ?_
        refine enumZ (s := { s1 with heap := h' }) hz fun h'' he kp => wpAny_pyIter_enum he ?_
        replace he : IsEnum h'' h'.objs.size (s1.heap.objs.size + 5) 0 .none := he
        replace kp : ∀ b o, h'.get? b = some o → h''.get? b = some o := kp
        have I2 : Inv X pins σ H1 { s1 with heap := h'' } := I1.kept (t' := s1.toks) fun b o x => kp b o (hk b o x)
        show PIE _ _ _ _ _ (.ref h'.objs.size) { s1 with heap := h'' }
        rw [hsz] at he ⊢
        refine ⟨s1.heap.objs.size + 6, [s1.heap.objs.size + 6, s1.heap.objs.size + 5, s1.heap.objs.size + 3, s1.heap.objs.size + 4, s1.heap.objs.size, s1.heap.objs.size + 1, s1.heap.objs.size + 2], _, _, H1, rfl, I2, turnEz3 (farE_at3 s1.heap.objs.size a b c (Heap.lt_size g1) (Heap.lt_size g2) (Heap.lt_size g3)),
          ⟨⟨.none, he⟩, ⟨.none, false, .inl rfl, kp _ _ hz⟩, kp _ _ hI, ⟨_, _, _, kp _ _ hO⟩, ⟨_, kp _ _ e1, rfl, rfl⟩, ⟨_, kp _ _ e2, rfl, rfl⟩, ⟨_, kp _ _ e3, rfl, rfl⟩⟩, fun q hq => ?_, q⟩
        have le : s1.heap.objs.size ≤ q := by
          simp only [List.mem_cons, List.not_mem_nil, or_false] at hq
          rcases hq with r | r | r | r | r | r | r <;> rw [r] <;> first | exact Nat.le_add_right _ _ | exact Nat.le_refl _
        exact I1.fpOk le (I1.hok.fresh le)
/-- a new pair of the number and of a new triple of the i-th ones -/
def YEz3 (xs ys zs : List V) : Nat → Hp → V → Hp → Prop := fun i H v H' => ∃ T U x y z, v = .ref T ∧ H U = none ∧ upd H U (.tup [x, y, z]) T = none ∧ H' = upd (upd H U (.tup [x, y, z])) T (.tup [.int (i : Nat), .ref U]) ∧ xs[i]? = some x ∧ ys[i]? = some y ∧ zs[i]? = some z
theorem walk_enumZ3 {K : PySem.W.Frag} {a b c : Addr} {xs ys zs : List V} (h2 : ys.length = xs.length) (h3 : zs.length = xs.length) :
    Walk (ItEz3 K a b c) xs.length (fun H => SqT K H a xs ∧ SqT K H b ys ∧ SqT K H c zs) (YEz3 xs ys zs) := by
  refine ⟨fun i _ hi q => ?_, fun _ q => ⟨xs, q.1, Nat.le_refl _⟩, fun i H v H' _ q y => ?_⟩
  · exact ⟨xs, ys, zs, xs[i], ys[i]'(by omega), zs[i]'(by omega), q.1, q.2.1, q.2.2, by simp [hi], by simp [show i < ys.length by omega], by simp [show i < zs.length by omega]⟩
  · obtain ⟨T, U, x, y, z, e1, e2, e3, e4, f1, f2, f3⟩ := y
    exact ⟨T, U, x, y, z, e1, e2, e3, e4, f1 xs q.1, f2 ys q.2.1, f3 zs q.2.2⟩
end NB

set_option Elab.async false
set_option linter.all false
set_option maxRecDepth 100000
set_option maxHeartbeats 1000000
/-! Data that are shown as '()' are the empty tuple. -/
namespace NB
open PySem PySem.Spec PyProof.Rows L2
open PyProof.Rows

def nilD : PyData → Bool
  | .tuple ds => ds.isEmpty
  | _ => false
theorem sg_nil : (("()" : String) : Str).cps.toList = [40, 41] := by decide
theorem quote_two (x : Str) : reprQuote x = 39 ∨ reprQuote x = 34 := by
  unfold reprQuote
  split
  · exact .inr rfl
  · exact .inl rfl
theorem shown_nilD (d : PyData) : d.shown = (("()" : String) : Str) ↔ nilD d = true := by
  constructor
  · intro e
    have no : ∀ k, k ≠ 40 → k ≠ 41 → k ∉ d.shown.cps.toList := fun k h1 h2 => by
      rw [e, sg_nil]
      simp [h1, h2]
    have ye : 40 ∈ d.shown.cps.toList := by
      rw [e, sg_nil]
      decide
    cases d with
    | none => exact absurd ye (shown_none_free (by omega))
    | bool b => exact absurd ye (shown_bool_free (by omega) b)
    | int i => exact absurd ye (shown_int_free (by omega) i)
    | str x =>
      exfalso
      refine no (reprQuote x) (by rcases quote_two x with h | h <;> omega) (by rcases quote_two x with h | h <;> omega) ?_
      rw [PyData.shown]
      unfold reprText
      show _ ∈ (Array.push _ _).toList
      rw [Array.toList_push]
      simp
    | list xs =>
      exfalso
      refine no 93 (by decide) (by decide) ?_
      rw [PyData.shown]
      unfold listText
      rw [mem_cps_append, signs_rbrack]
      exact .inr (by decide)
    | dict kvs =>
      exfalso
      refine no 125 (by decide) (by decide) ?_
      rw [PyData.shown]
      unfold dictText
      rw [mem_cps_append]
      exact .inr (by decide)
    | tuple xs =>
      match xs, no with
      | [], _ => rfl
      | [x], no =>
        exfalso
        refine no 44 (by decide) (by decide) ?_
        rw [PyData.shown]
        unfold tupleText
        rw [mem_cps_append]
        refine .inr ?_
        show 44 ∈ (Str.ofString ",)").cps.toList
        decide
      | x :: y :: r, no =>
        exfalso
        refine no 44 (by decide) (by decide) ?_
        rw [PyData.shown]
        unfold tupleText
        rw [mem_cps_append, mem_cps_append, mem_join]
        refine .inl (.inr (.inr ⟨?_, by decide⟩))
        rw [PyData.shownAll_cons, PyData.shownAll_cons]
        simp only [List.length_cons]
        omega
  · intro h
    cases d with
    | tuple xs =>
      cases xs with
      | nil => decide
      | cons _ _ => cases h
    | _ => cases h
theorem nil_text (d : PyData) : decide (V.str d.shown = V.str (("()" : String) : Str)) = nilD d := by
  cases h : nilD d with
  | true => exact decide_eq_true (by rw [(shown_nilD d).mpr h])
  | false =>
    refine decide_eq_false fun z => ?_
    injection z with z
    rw [(shown_nilD d).mp z] at h
    cases h
end NB

set_option Elab.async false
set_option linter.all false
set_option maxRecDepth 100000
namespace K16
open PySem PySem.Spec PyProof.Rows L2 NB

/-! ### standings of anything -/
def standingD (tops : List Int) : PyData → Bool
  | .tuple ds => decide (ds.length = tops.length) && (tops.zip ds).all fun p => placeD p.1 p.2
  | _ => false
theorem standing_no {tops : List Int} {d : PyData} (h : isTupD d = false) : standingD tops d = false := by
  cases d with
  | tuple ds => cases h
  | _ => rfl
theorem zip_at {α β : Type} {xs : List α} {ys : List β} {i : Nat} {x : α} {y : β} (h : xs[i]? = some x) (h' : ys[i]? = some y) : (xs.zip ys)[i]? = some (x, y) := by
  rw [List.getElem?_zip_eq_some]
  exact ⟨h, h'⟩
section
variable {P : Program} {w : World} {K : PySem.W.Frag} {mg : Str → Option Value} {base : Heap}
/-- a plan of which the tops are known -/
def PlanTo (C : Addr) (H : Hp) (x t : Addr) (tops : List Int) : Prop := ∃ (dx R : Addr), H x = some (.ins C dx [("tops", .ref t), ("rules", .ref R)]) ∧ H t = some (.tup (tops.map V.int))
theorem PlanTo.same {C : Addr} {H H' : Hp} {x t : Addr} {tops : List Int} (h : PlanTo C H x t tops) (s : Same H H') : PlanTo C H' x t tops := by
  obtain ⟨dx, R, e, et⟩ := h
  exact ⟨dx, R, s _ _ e, s _ _ et⟩
theorem lookT (t R : Addr) : ([("tops", V.ref t), ("rules", V.ref R)] : List (Str × V)).lookup ("tops" : Str) = some (V.ref t) := by
  simp [List.lookup]
def spPlanLook (C : Addr) (g : List Int → PyData → Bool) : Sp := fun vs H Q _ => ∃ (n x t : Addr) (tops : List Int) (v : V) (d : PyData), vs = [.ref x, v] ∧ PlanTo C H x t tops ∧ tops.length ≤ 12 ∧ Da n H v d ∧ ∀ H', Same H H' → Q (.bl (g tops d)) H'
abbrev a_is_standing : Stmt := topS 28
abbrev n_is_standing : List Str := ["plan", "thing", "top", "place"]
theorem sc_is_standing : FnScope n_is_standing ["plan", "thing"] (defScope a_is_standing) := ⟨rfl, rfl, rfl, by decide +kernel, rfl, by decide +kernel, by decide +kernel⟩
set_option maxHeartbeats 8000000 in
theorem ok_is_standing {f fPc : Addr} {fd fdPc : FuncData} {k : Nat} {C : Addr} (F : Fun K "is_standing" "is_standing" a_is_standing f fd) (Pc : Kn P w K mg base 2 "is_place" ["top", "thing"] (spLookI placeD) fPc fdPc) (T : PlanTxt K mg C) (m_all : mg "all" = none) (m_isinstance : mg "isinstance" = none) (m_len : mg "len" = none) (m_tuple : mg "tuple" = none) (m_zip : mg "zip" = none) : FnOk P w K mg base CX0 (k + 3) f fd ["plan", "thing"] (spPlanLook C standingD) := by
  refine F.ok sc_is_standing (fun vs H Q E h => ?_) (fun cdv A outer s H vs Q E hr h => ?_)
  · obtain ⟨n, x, t, tops, v, d, rfl, _⟩ := h
    rfl
  · obtain ⟨n, x, t, tops, v, d, rfl, ⟨dx, R, ex, et⟩, l12, hd, q⟩ := h
    refine ⟨_, (pss_cons (ps_if (PW.pt (pw_or (pt_not (pt_val (pe_callB call_isiD (by rfl) m_isinstance (by decide +kernel) (pa_cons (pv 1) (pa_cons (pe_bltn (v := .ty "tuple") (u := .type "tuple") (by rfl) m_tuple (by decide +kernel) rfl) pa_nil))))) (pw_or1 (pt_cmpR op_ne (pe_callB call_len_seq (by rfl) m_len (by decide +kernel) (pa_cons (pv 1) pa_nil)) (pe_callB call_len_seq (by rfl) m_len (by decide +kernel) (pa_cons (pe_fld (pv 0) rfl) pa_nil)) (nomark _))))) (pss_one (ps_ret pe_bl)) pss_nil)
      (pss_one (ps_ret (pe_callB (cr_all rfl) (by rfl) m_all (by decide +kernel) (pa_cons (
        pe_lc (own := [("top", 2), ("place", 3)]) (g := (gTup K 2 (gCons (gName 2) (gCons (gName 3) gNil)))) (tt := tYes) (te := (tCall (spLookI placeD) [] E0 (tCons (tVar 2) (tCons (tVar 3) tNil)))) rfl sc_is_standing.nd (RZ.pi_zipA (by rfl) m_zip (pa_cons (pe_fld (pv 0) rfl) (pa_cons (pv 1) pa_nil))) (blkOk_by (N := n_is_standing) (sc := defScope a_is_standing) (by decide +kernel))
          (fun _ _ _ _ _ => (pg_tup rfl (pgs_cons (pg_name (i := 2) sc_is_standing.nd rfl (.inl rfl) (hf := .inr rfl)) (pgs_cons (pg_name (i := 3) sc_is_standing.nd rfl (.inl rfl) (hf := .inr rfl)) pgs_nil)))) (fun _ _ _ _ _ => pts_nil) (fun _ _ _ _ _ => (pe_kn Pc hr (by omega) (pa_cons (pv 2) (pa_cons (pv 3) pa_nil))))) pa_nil))))), ?_⟩
    rcases tup_or d with ⟨ds, rfl⟩ | hn
    · cases hd with
      | tup e ha =>
      rename_i a xs
      have ll := ha.len
      have eS : standingD tops (.tuple ds) = (decide (ds.length = tops.length) && (tops.zip ds).all fun p => placeD p.1 p.2) := rfl
      rw [eS] at q
      refine ⟨_, rfl, n, _, _, "tuple", _, rfl, .tup e ha, kit_tup _, _, rfl, iteF ⟨_, rfl, a, xs, rfl, .inr (.inl (.inl e)), _, rfl, x, C, dx, _, _, rfl, ex, T.cl, T.nT, lookT t R, t, _, rfl, .inr (.inl (.inl et)), rfl, _, rfl, ite2 (fun c => ?_) (fun c => ?_)⟩⟩
      · have c' : ¬ ds.length = tops.length := fun z => by
          rw [List.length_map, ll, z] at c
          simp at c
        rw [decide_eq_false c', Bool.false_and] at q
        exact q H (Same.refl H)
      · have c' : ds.length = tops.length := Classical.byContradiction fun z => c (by
          have : ¬ ((xs.length : Int) = tops.length) := by omega
          rw [List.length_map]
          simp [this])
        rw [decide_eq_true c', Bool.true_and] at q
        refine ⟨_, rfl, x, C, dx, _, _, rfl, ex, T.cl, T.nT, lookT t R, _, rfl, t, a, _, _, rfl, .inr ⟨.inl (.inl et), .inl (.inl e), fun D nD => lc_it (walk_zipT (xs := tops.map V.int) (ys := xs) (by rw [List.length_map]; omega)) (fun i H' => Same H H' ∧ H' D = some (.lst ((((tops.zip ds).take i).map fun p => placeD p.1 p.2).map V.bl))) ⟨same_new nD, upd_same⟩ (fun i H' _ p => ⟨.inl (.inl (p.1 _ _ et)), .inl (.inl (p.1 _ _ e))⟩) (fun i v H1 H2 hi p y => ?_) (fun H' p => ?_)⟩⟩
        · obtain ⟨sm, eD⟩ := p
          obtain ⟨T', x1, x2, rfl, nT, rfl, g1, g2⟩ := y
          obtain ⟨tp, et', rfl⟩ := mapGet g1
          obtain ⟨dd, ed, hdd⟩ := ha.get i x2 g2
          have sT := same_new (o := HO.tup [V.int tp, x2]) nT
          refine ⟨T', _, rfl, .inl (.inl upd_same), rfl, _, _, rfl, _, _, rfl, rfl, rfl, .int tp, rfl, x2, rfl, n, tp, x2, dd, rfl, (hdd.same sm).same sT, fun H4 s4 => ⟨_, s4 _ _ (sT _ _ eD), ?_, same_over ((sm.trans sT).trans s4) nD, ?_⟩⟩
          · rw [List.length_map, List.length_map, List.length_take, List.length_zip]
            exact small1000 (by omega)
          · rw [upd_same, all_take (fun p : Int × PyData => placeD p.1 p.2) _ i (tp, dd) (zip_at et' ed)]
        · obtain ⟨sm, eD⟩ := p
          rw [List.take_of_length_le (by rw [List.length_zip, List.length_map]; omega)] at eD
          refine ⟨D, _, rfl, .inl (.inl eD), ?_⟩
          rw [all_id]
          exact q H' sm
    · refine ⟨_, rfl, n, _, d, "tuple", _, rfl, hd, kit_tup d, _, rfl, ?_⟩
      rw [hn]
      rw [standing_no hn] at q
      exact iteT (q H (Same.refl H))
end

/-! ### papers of the nearest, looked at, of anything -/
def pullD (tops : List Int) (rs : List Rl) (W : List Sd) (s : Sd) (d : PyData) : Bool := chainD tops rs d && (decide (hdS d ∈ W) && decide (laS d = s))
def goalS (st n : List Int) (i : Nat) : Sd := (i, decide (plc st i < plc n i), plc n i)
def rowD (tops : List Int) (rs : List Rl) (W : List Sd) (st n : List Int) (i : Nat) (d : PyData) : Bool := if plc st i = plc n i then nilD d else pullD tops rs W (goalS st n i) d
def pulsD (tops : List Int) (rs : List Rl) (W : List Sd) (st n : List Int) : PyData → Bool
  | .tuple ds => decide (ds.length = n.length) && (List.range n.length).all fun i => rowD tops rs W st n i (ds.getD i .none)
  | _ => false
theorem puls_no {tops : List Int} {rs : List Rl} {W : List Sd} {st n : List Int} {d : PyData} (h : isTupD d = false) : pulsD tops rs W st n d = false := by
  cases d with
  | tuple ds => cases h
  | _ => rfl
theorem nil_no {d : PyData} (h : isTupD d = false) : nilD d = false := by
  cases d with
  | tuple ds => cases h
  | _ => rfl
def numsD : PyData → List Int
  | .tuple ds => ds.map numD
  | _ => []
def showsD (tops : List Int) (rs : List Rl) (W : List Sd) (st : List Int) (e d : PyData) : Bool := standingD tops e && (rs.all (kept (numsD e)) && (W.all (inB (numsD e)) && pulsD tops rs W st (numsD e) d))
theorem places_at {n : Addr} {H : Hp} : ∀ {tops : List Int} {ds : List PyData} {vs : List V}, DaAll n H vs ds → ds.length = tops.length → ((tops.zip ds).all fun p => placeD p.1 p.2) = true → vs = (ds.map numD).map V.int ∧ ∀ i, i < tops.length → 0 ≤ plc (ds.map numD) i ∧ plc (ds.map numD) i ≤ plc tops i
  | [], [], _, h, _, _ => by
    cases h
    exact ⟨rfl, fun i hi => absurd hi (Nat.not_lt_zero _)⟩
  | t :: ts, d :: ds, _, h, l, a => by
    cases h with
    | cons h1 h2 =>
      rw [List.zip_cons_cons, List.all_cons, Bool.and_eq_true] at a
      obtain ⟨i, rfl, hi⟩ := place_int a.1
      cases h1
      obtain ⟨e, b⟩ := places_at h2 (by simpa using l) a.2
      refine ⟨by rw [e]; rfl, fun j hj => ?_⟩
      cases j with
      | zero => exact ⟨Int.natCast_nonneg i, hi⟩
      | succ j => exact b j (by simpa using hj)
theorem stand_at {n : Addr} {H : Hp} {v : V} {d : PyData} {tops : List Int} (h : Da n H v d) (s : standingD tops d = true) : ∃ p, v = .ref p ∧ H p = some (.tup ((numsD d).map V.int)) ∧ (numsD d).length = tops.length ∧ ∀ i, i < tops.length → 0 ≤ plc (numsD d) i ∧ plc (numsD d) i ≤ plc tops i := by
  rcases tup_or d with ⟨ds, rfl⟩ | hn
  · have s' : (decide (ds.length = tops.length) && (tops.zip ds).all fun p => placeD p.1 p.2) = true := s
    rw [Bool.and_eq_true, decide_eq_true_eq] at s'
    cases h with
    | tup e ha =>
      obtain ⟨ev, b⟩ := places_at ha s'.1 s'.2
      subst ev
      exact ⟨_, rfl, e, by show (ds.map numD).length = _; rw [List.length_map]; exact s'.1, b⟩
  · rw [standing_no hn] at s
    cases s
section
variable {P : Program} {w : World} {K : PySem.W.Frag} {mg : Str → Option Value} {base : Heap}
def spPullD (C : Addr) : Sp := fun vs H Q _ => ∃ (n x g gl : Addr) (tops : List Int) (rs : List Rl) (W : List (Addr × Sd)) (s : Sd) (v : V) (d : PyData), vs = [.ref x, .ref g, .ref gl, v] ∧ PlanAt C H x tops rs ∧ H g = some (.tup (sdR W)) ∧ SdsAt H W ∧ SideAt H gl s ∧ Da n H v d ∧ (∀ q ∈ rs, RuleOk tops q) ∧ rs.length ≤ 40 ∧ dLen d ≤ 200000 ∧
  ∀ H', Same H H' → Q (.bl (pullD tops rs (W.map (·.2)) s d)) H'
abbrev a_is_pull : Stmt := topS 53
abbrev n_is_pull : List Str := ["plan", "want", "goal", "thing"]
theorem sc_is_pull : FnScope n_is_pull ["plan", "want", "goal", "thing"] (defScope a_is_pull) := ⟨rfl, rfl, rfl, by decide +kernel, rfl, by decide +kernel, by decide +kernel⟩
set_option maxHeartbeats 8000000 in
theorem ok_is_pull {f fIc : Addr} {fd fdIc : FuncData} {k : Nat} {C : Addr} (F : Fun K "is_pull" "is_pull" a_is_pull f fd) (Ic : Kn P w K mg base 5 "is_chain" ["plan", "thing"] (spChD C) fIc fdIc)   : FnOk P w K mg base CX0 (k + 6) f fd ["plan", "want", "goal", "thing"] (spPullD C) := by
  refine F.ok sc_is_pull (fun vs H Q E h => ?_) (fun cdv A outer s H vs Q E hr h => ?_)
  · obtain ⟨n, x, g, gl, tops, rs, W, s, v, d, rfl, _⟩ := h
    rfl
  · obtain ⟨n, x, g, gl, tops, rs, W, s, v, d, rfl, hp, eg, hW, hs, hd, rok, l40, dl, q⟩ := h
    refine ⟨_, (pss_one (ps_ret (pe_and (pe_kn Ic hr (by omega) (pa_cons (pv 0) (pa_cons (pv 3) pa_nil))) (pe_and (pe_cmpR (inT (Room.u65 hr)) (pe_ix ix_tup (pv 3) pe_int (fun _ _ => rfl)) (pv 1) (by rfl)) (pe_one (pe_cmpR (op_eqD hr.units) (pe_ix ix_tup (pv 3) (pe_un un_neg pe_int) (fun _ _ => rfl)) (pv 2) (nomark _))))))), ?_⟩
    refine ⟨_, rfl, _, rfl, n, x, tops, rs, v, d, rfl, hp, hd, rok, l40, dl, fun H1 s1 => ⟨_, rfl, ?_⟩⟩
    cases cc : chainD tops rs d with
    | false =>
      have : pullD tops rs (W.map (·.2)) s d = false := by
        unfold pullD
        rw [cc, Bool.false_and]
      rw [this] at q
      exact iteF (q _ s1)
    | true =>
    obtain ⟨p, z0, L0, rfl, ep, hL, okL, eL⟩ := chain_at (hd.same s1) cc
    have eg1 := s1 _ _ eg
    have hW1 := hW.keep (.same s1)
    have ed0 : hdS d = z0.2 := by unfold hdS; rw [eL]; rfl
    have hz0 := hL z0 List.mem_cons_self
    have g0 : atI (sdR (z0 :: L0)) 0 = some (.ref z0.1) := atI_nat (j := 0) rfl
    obtain ⟨L', y, e'⟩ : ∃ L' y, z0 :: L0 = L' ++ [y] := ⟨_, _, (List.dropLast_concat_getLast (List.cons_ne_nil _ _)).symm⟩
    rw [e'] at ep hL okL eL g0
    have my : y ∈ L' ++ [y] := by simp
    have ed1 : laS d = y.2 := by
      unfold laS
      rw [eL, List.map_append]
      exact List.getLastD_concat ..
    have eB : pullD tops rs (W.map (·.2)) s d = (decide (z0.2 ∈ W.map (·.2)) && decide (y.2 = s)) := by
      unfold pullD
      rw [cc, Bool.true_and, ed0, ed1]
    rw [eB] at q
    refine iteT ⟨_, rfl, p, _, 0, _, rfl, rfl, .inl (.inl ep), g0, _, rfl, _, _, dp_sd hz0, .tup (.inl (.inl eg1)) (dp_sds hW1), shaped_sd _, shaped_sdsT _, _, rfl, ?_⟩
    show if ((sdsD W).any fun z => PyData.eqv z (sdD z0.2)) = true then _ else _
    rw [sds_any]
    cases cm : decide (z0.2 ∈ W.map (·.2)) with
    | false =>
      rw [cm, Bool.false_and] at q
      exact iteF (q _ s1)
    | true =>
    rw [cm, Bool.true_and] at q
    refine iteT ⟨_, rfl, _, rfl, p, _, _, _, rfl, rfl, .inl (.inl ep), atI_lastS, _, rfl, _, _, dp_sd (hL y my), dp_sd (hs.keep (.same s1)), shaped_sd _, shaped_sd _, ?_⟩
    rw [eqv_sd]
    exact q _ s1
def spPulsD (C : Addr) : Sp := fun vs H Q _ => ∃ (n0 x a g b : Addr) (tops st n : List Int) (rs : List Rl) (W : List (Addr × Sd)) (v : V) (d : PyData), vs = [.ref x, .ref a, .ref g, .ref b, v] ∧ PlanAt C H x tops rs ∧ H a = some (.tup (st.map V.int)) ∧ H g = some (.tup (sdR W)) ∧ SdsAt H W ∧ H b = some (.tup (n.map V.int)) ∧ n.length = st.length ∧ Da n0 H v d ∧ (∀ q ∈ rs, RuleOk tops q) ∧ rs.length ≤ 40 ∧ (∀ ds, d = .tuple ds → ∀ y ∈ ds, dLen y ≤ 200000) ∧
  ∀ H', Same H H' → Q (.bl (pulsD tops rs (W.map (·.2)) st n d)) H'
abbrev a_are_pulls : Stmt := topS 54
abbrev n_are_pulls : List Str := ["plan", "standing", "want", "new", "thing", "number", "here", "there", "row"]
theorem sc_are_pulls : FnScope n_are_pulls ["plan", "standing", "want", "new", "thing"] (defScope a_are_pulls) := ⟨rfl, rfl, rfl, by decide +kernel, rfl, by decide +kernel, by decide +kernel⟩
set_option maxHeartbeats 8000000 in
theorem ok_are_pulls {f fPu fCm : Addr} {fd fdPu fdCm : FuncData} {k : Nat} {C : Addr} (F : Fun K "are_pulls" "are_pulls" a_are_pulls f fd) (Pu : Kn P w K mg base 6 "is_pull" ["plan", "want", "goal", "thing"] (spPullD C) fPu fdPu) (Cm : Kn P w K mg base 1 "come_to" ["thing", "here", "there"] spCm fCm fdCm) (m_zip : mg "zip" = none) (m_enumerate : mg "enumerate" = none) (m_isinstance : mg "isinstance" = none) (m_len : mg "len" = none) (m_tuple : mg "tuple" = none) : FnOk P w K mg base CX0 (k + 7) f fd ["plan", "standing", "want", "new", "thing"] (spPulsD C) := by
  refine F.ok sc_are_pulls (fun vs H Q E h => ?_) (fun cdv A outer s H vs Q E hr h => ?_)
  · obtain ⟨n0, x, a, g, b, tops, st, n, rs, W, v, d, rfl, _⟩ := h
    rfl
  · obtain ⟨n0, x, a, g, b, tops, st, n, rs, W, v, d, rfl, hp, ea, eg, hW, eb, ln, hd, rok, l40, dl, q⟩ := h
    refine ⟨_, (pss_cons (ps_if (PW.pt (pw_or (pt_not (pt_val (pe_callB call_isiD (by rfl) m_isinstance (by decide +kernel) (pa_cons (pv 4) (pa_cons (pe_bltn (v := .ty "tuple") (u := .type "tuple") (by rfl) m_tuple (by decide +kernel) rfl) pa_nil))))) (pw_or1 (pt_cmpR op_ne (pe_callB call_len_seq (by rfl) m_len (by decide +kernel) (pa_cons (pv 4) pa_nil)) (pe_callB call_len_seq (by rfl) m_len (by decide +kernel) (pa_cons (pv 3) pa_nil)) (nomark _))))) (pss_one (ps_ret pe_bl)) pss_nil)
      (pss_cons (ps_for PassesOwn.never rfl (pi_enumZ (by rfl) m_enumerate (by rfl) m_zip (pa_cons (pv 1) (pa_cons (pv 3) pa_nil))) (pg_tup rfl (pgs_cons (pg_name (i := 5) sc_are_pulls.nd rfl (.inl rfl)) (pgs_cons (pg_tup rfl (pgs_cons (pg_name (i := 6) sc_are_pulls.nd rfl (.inl rfl)) (pgs_cons (pg_name (i := 7) sc_are_pulls.nd rfl (.inl rfl)) pgs_nil))) pgs_nil)))
        (pss_cons (ps_set (i := 8) sc_are_pulls.nd rfl (.inl rfl) (pe_ix ix_tup (pv 4) (pv 5) (fun _ _ => rfl)))
      (pss_cons (ps_if (PW.pt (pw_and (pt_cmpR op_eq (pv 6) (pv 7) (nomark _)) (pw_and1 (pt_not (PW.pt (pw_and (pt_val (pe_callB call_isiD (by rfl) m_isinstance (by decide +kernel) (pa_cons (pv 8) (pa_cons (pe_bltn (v := .ty "tuple") (u := .type "tuple") (by rfl) m_tuple (by decide +kernel) rfl) pa_nil)))) (pw_and1 (pt_cmpR op_eq (pe_callB call_len_seq (by rfl) m_len (by decide +kernel) (pa_cons (pv 8) pa_nil)) pe_int (nomark _))))))))) (pss_one (ps_ret pe_bl)) pss_nil)
      (pss_one (ps_if (PW.pt (pw_and (pt_cmpR op_ne (pv 6) (pv 7) (nomark _)) (pw_and1 (pt_not (pt_val (pe_kn Pu hr (by omega) (pa_cons (pv 0) (pa_cons (pv 2) (pa_cons (pe_kn Cm hr (by omega) (pa_cons (pv 5) (pa_cons (pv 6) (pa_cons (pv 7) pa_nil)))) (pa_cons (pv 8) pa_nil)))))))))) (pss_one (ps_ret pe_bl)) pss_nil)))))
      (pss_one (ps_ret pe_bl)))), ?_⟩
    rcases tup_or d with ⟨ds, rfl⟩ | hn
    rotate_left
    · refine ⟨_, rfl, n0, _, d, "tuple", _, rfl, hd, kit_tup d, _, rfl, ?_⟩
      rw [hn]
      rw [puls_no hn] at q
      exact iteT (q H (Same.refl H))
    cases hd with
    | tup e ha =>
    rename_i c xs
    have ll := ha.len
    have dl' := dl ds rfl
    have eS : pulsD tops rs (W.map (·.2)) st n (.tuple ds) = (decide (ds.length = n.length) && (List.range n.length).all fun i => rowD tops rs (W.map (·.2)) st n i (ds.getD i .none)) := rfl
    rw [eS] at q
    refine ⟨_, rfl, n0, _, _, "tuple", _, rfl, .tup e ha, kit_tup _, _, rfl, iteF ⟨_, rfl, c, xs, rfl, .inr (.inl (.inl e)), _, rfl, b, _, rfl, .inr (.inl (.inl eb)), rfl, _, rfl, ite2 (fun cc => ?_) (fun cc => ?_)⟩⟩
    · have c' : ¬ ds.length = n.length := fun z => by
        rw [List.length_map, ll, z] at cc
        simp at cc
      rw [decide_eq_false c', Bool.false_and] at q
      exact q H (Same.refl H)
    have c' : ds.length = n.length := Classical.byContradiction fun z => cc (by
      have : ¬ ((xs.length : Int) = n.length) := by omega
      rw [List.length_map]
      simp [this])
    rw [decide_eq_true c', Bool.true_and] at q
    refine ⟨_, rfl, _, rfl, a, b, _, _, rfl, .inl (.inl ea), .inl (.inl eb), for_it (walk_enumZ (xs := st.map V.int) (ys := n.map V.int) (by rw [List.length_map, List.length_map, ln])) (fun j σ H' => (∃ u5 u6 u7 u8, σ = [some (.ref x), some (.ref a), some (.ref g), some (.ref b), some (.ref c), u5, u6, u7, u8]) ∧ Same H H' ∧ ((List.range j).all fun i => rowD tops rs (W.map (·.2)) st n i (ds.getD i .none)) = true) ⟨⟨_, _, _, _, rfl⟩, Same.refl H, rfl⟩ (fun j σ H' _ y => ⟨.inl (.inl (y.2.1 _ _ ea)), .inl (.inl (y.2.1 _ _ eb))⟩) (fun j v σ H2 H3 hj y z => ?_) (fun σ H2 y => ?_)⟩
    rotate_left
    · obtain ⟨⟨u5, u6, u7, u8, rfl⟩, s2, al⟩ := y
      rw [List.length_map, ← ln] at al
      rw [al] at q
      exact q _ s2
    obtain ⟨⟨u5, u6, u7, u8, rfl⟩, s2, al⟩ := y
    obtain ⟨T, U, va, vb, rfl, nU, nT, rfl, ga, gb⟩ := z
    obtain ⟨pa, e1, rfl⟩ := mapGet ga
    obtain ⟨pb, e2, rfl⟩ := mapGet gb
    have hj' : j < n.length := by
      rw [List.length_map] at hj
      omega
    have epa : plc st j = pa := by
      show st.getD j 0 = pa
      rw [List.getD_eq_getElem?_getD, e1]
      rfl
    have epb : plc n j = pb := by
      show n.getD j 0 = pb
      rw [List.getD_eq_getElem?_getD, e2]
      rfl
    have sU := same_new (o := HO.tup [V.int pa, V.int pb]) nU
    have sT := same_new (o := HO.tup [V.int (j : Int), V.ref U]) nT
    have sUT := sU.trans sT
    have eU := sT _ _ (upd_same (H := H2) (a := U) (o := HO.tup [V.int pa, V.int pb]))
    obtain ⟨dj, edj⟩ : ∃ dj, ds[j]? = some dj := ⟨_, List.getElem?_eq_getElem (by omega)⟩
    obtain ⟨vj, evj⟩ : ∃ vj, xs[j]? = some vj := ⟨_, List.getElem?_eq_getElem (by omega)⟩
    obtain ⟨dj', edj', hdj⟩ := ha.get j vj evj
    rw [edj] at edj'
    cases edj'
    have egd : ds.getD j .none = dj := by rw [List.getD_eq_getElem?_getD, edj]; rfl
    have s3 := s2.trans sUT
    have nofin : rowD tops rs (W.map (·.2)) st n j dj = false → ((List.range n.length).all fun i => rowD tops rs (W.map (·.2)) st n i (ds.getD i .none)) = false := fun h => by
      rw [List.all_eq_false]
      exact ⟨j, List.mem_range.mpr hj', by rw [egd, h]; decide⟩
    have yesfin : rowD tops rs (W.map (·.2)) st n j dj = true → ((List.range (j + 1)).all fun i => rowD tops rs (W.map (·.2)) st n i (ds.getD i .none)) = true := fun h => by
      rw [List.range_succ, List.all_append, al, Bool.true_and, List.all_cons, egd, h]
      rfl
    refine ⟨T, _, rfl, .inl (.inl upd_same), rfl, _, _, rfl, _, _, rfl, U, _, rfl, .inl (.inl eU), rfl, _, _, rfl, _, _, rfl, rfl, rfl, ?_⟩
    generalize upd (upd H2 U (.tup [V.int pa, V.int pb])) T (.tup [V.int (j : Int), V.ref U]) = H3 at s3 ⊢
    clear sU sT sUT eU nU nT
    have e3 := s3 _ _ e
    have hdj3 := hdj.same s3
    refine ⟨_, rfl, _, rfl, c, _, j, vj, rfl, rfl, .inl (.inl e3), atI_nat evj, ?_⟩
    have retF : rowD tops rs (W.map (·.2)) st n j dj = false → ∀ H4, Same H3 H4 → Q (.bl false) H4 := fun h H4 s4 => by
      have := q H4 (s3.trans s4)
      rw [nofin h] at this
      exact this
    have shape : ∃ u5 u6 u7 u8, ([some (V.ref x), some (V.ref a), some (V.ref g), some (V.ref b), some (V.ref c), some (V.int (j : Int)), some (V.int pa), some (V.int pb), some vj] : List (Option V)) = [some (V.ref x), some (V.ref a), some (V.ref g), some (V.ref b), some (V.ref c), u5, u6, u7, u8] := ⟨_, _, _, _, rfl⟩
    clear q nofin
    refine ⟨_, rfl, _, rfl, rfl, _, rfl, ite2 (fun ce => ?_) (fun ce => ?_)⟩
    · have ce' : pa = pb := by
        have := of_decide_eq_true ce
        injection this
      subst ce'
      have er : rowD tops rs (W.map (·.2)) st n j dj = nilD dj := by
        unfold rowD
        rw [epa, epb, if_pos rfl]
      rw [er] at retF yesfin
      refine ⟨_, rfl, n0, vj, dj, "tuple", _, rfl, hdj3, kit_tup dj, _, rfl, ?_⟩
      rcases tup_or dj with ⟨es, rfl⟩ | hn
      rotate_left
      · rw [hn]
        exact iteF (retF (nil_no hn) _ (Same.refl _))
      cases hdj3 with
      | tup e' ha' =>
      rename_i aj ys
      have ll' := ha'.len
      refine iteT ⟨_, rfl, aj, ys, rfl, .inr (.inl (.inl e')), rfl, _, rfl, ite2 (fun c0 => ?_) (fun c0 => ?_)⟩
      · have l0 : ¬ es.length = 0 := fun z => by
          rw [ll', z] at c0
          simp at c0
        have en : nilD (.tuple es) = false := by
          show es.isEmpty = false
          cases es with
          | nil => exact absurd rfl l0
          | cons _ _ => rfl
        exact retF en _ (Same.refl _)
      · have l0 : es.length = 0 := Classical.byContradiction fun z => c0 (by
          have : ¬ ys = [] := fun h => z (by rw [← ll', h]; rfl)
          simp [this])
        have en : nilD (.tuple es) = true := by
          show es.isEmpty = true
          rw [List.isEmpty_iff_length_eq_zero]
          exact l0
        refine ⟨_, rfl, _, rfl, rfl, _, rfl, ite2 (fun c1 => ?_) (fun c1 => ?_)⟩
        · simp at c1
        · exact ⟨shape, s3, yesfin en⟩
    · have ce' : pa ≠ pb := fun z => ce (decide_eq_true (by rw [z]))
      have er : rowD tops rs (W.map (·.2)) st n j dj = pullD tops rs (W.map (·.2)) (goalS st n j) dj := by
        unfold rowD
        rw [epa, epb, if_neg ce']
      rw [er] at retF yesfin
      refine ⟨_, rfl, _, rfl, rfl, _, rfl, ite2 (fun c1 => ?_) (fun c1 => ?_)⟩
      rotate_left
      · exact absurd (by simp [ce']) c1
      refine ⟨_, rfl, _, rfl, _, rfl, _, rfl, _, rfl, j, pa, pb, rfl, fun H4 gl s4 hg => ?_⟩
      have eg' : SideAt H4 gl (goalS st n j) := by
        unfold goalS
        rw [epa, epb]
        exact hg
      refine ⟨_, rfl, n0, x, g, gl, tops, rs, W, goalS st n j, vj, dj, rfl, hp.keep (.same (s3.trans s4)), (s3.trans s4) _ _ eg, hW.keep (.same (s3.trans s4)), eg', hdj3.same s4, rok, l40, dl' dj (List.mem_of_getElem? edj), fun H5 s5 => ⟨_, rfl, ?_⟩⟩
      have s35 := s4.trans s5
      cases cp : pullD tops rs (W.map (·.2)) (goalS st n j) dj with
      | false => exact iteT (retF cp _ s35)
      | true => exact iteF ⟨shape, s3.trans s35, yesfin cp⟩
def spShwN (K : PySem.W.Frag) (C : Addr) : Sp := fun vs H Q _ => ∃ (n0 x t a g : Addr) (tops st : List Int) (rs : List Rl) (W : List (Addr × Sd)) (u v : V) (e d : PyData), vs = [.ref x, .ref a, .ref g, u, v] ∧ PlanAt C H x tops rs ∧ PlanTo C H x t tops ∧ tops.length ≤ 12 ∧ H a = some (.tup (st.map V.int)) ∧ st.length = tops.length ∧ H g = some (.tup (sdR W)) ∧ SdsAt H W ∧ (∀ z ∈ W, SideOk tops z.2) ∧ W.length ≤ 200 ∧ Da n0 H u e ∧ Da n0 H v d ∧ (∀ q ∈ rs, RuleOk tops q) ∧ rs.length ≤ 40 ∧ (∀ ds, d = .tuple ds → ∀ y ∈ ds, dLen y ≤ 200000) ∧
  ∀ H', Same H H' → Q (.bl (showsD tops rs (W.map (·.2)) st e d)) H'
abbrev a_shows_nearest : Stmt := topS 55
abbrev n_shows_nearest : List Str := ["plan", "standing", "want", "new", "thing"]
theorem sc_shows_nearest : FnScope n_shows_nearest ["plan", "standing", "want", "new", "thing"] (defScope a_shows_nearest) := ⟨rfl, rfl, rfl, by decide +kernel, rfl, by decide +kernel, by decide +kernel⟩
set_option maxHeartbeats 8000000 in
theorem ok_shows_nearest {f fIs fGd fHa fAp : Addr} {fd fdIs fdGd fdHa fdAp : FuncData} {k : Nat} {C : Addr} (F : Fun K "shows_nearest" "shows_nearest" a_shows_nearest f fd) (Is : Kn P w K mg base 3 "is_standing" ["plan", "thing"] (spPlanLook C standingD) fIs fdIs) (Gd : Kn P w K mg base 4 "is_good" ["plan", "standing"] (spGood C) fGd fdGd) (Ha : Kn P w K mg base 2 "has" ["want", "standing"] (spHas K) fHa fdHa) (Ap : Kn P w K mg base 7 "are_pulls" ["plan", "standing", "want", "new", "thing"] (spPulsD C) fAp fdAp)   : FnOk P w K mg base CX0 (k + 8) f fd ["plan", "standing", "want", "new", "thing"] (spShwN K C) := by
  refine F.ok sc_shows_nearest (fun vs H Q E h => ?_) (fun cdv A outer s H vs Q E hr h => ?_)
  · obtain ⟨n0, x, t, a, g, tops, st, rs, W, u, v, e, d, rfl, _⟩ := h
    rfl
  · obtain ⟨n0, x, t, a, g, tops, st, rs, W, u, v, e, d, rfl, hp, hpt, l12, ea, ls, eg, hW, okW, lW, he, hd, rok, l40, dl, q⟩ := h
    refine ⟨_, (pss_cons (ps_if (PW.pt (pw_or (pt_not (pt_val (pe_kn Is hr (by omega) (pa_cons (pv 0) (pa_cons (pv 3) pa_nil))))) (pw_or (pt_not (pt_val (pe_kn Gd hr (by omega) (pa_cons (pv 0) (pa_cons (pv 3) pa_nil))))) (pw_or1 (pt_not (pt_val (pe_kn Ha hr (by omega) (pa_cons (pv 2) (pa_cons (pv 3) pa_nil))))))))) (pss_one (ps_ret pe_bl)) pss_nil)
      (pss_one (ps_ret (pe_kn Ap hr (by omega) (pa_cons (pv 0) (pa_cons (pv 1) (pa_cons (pv 2) (pa_cons (pv 3) (pa_cons (pv 4) pa_nil))))))))), ?_⟩
    refine ⟨_, rfl, _, rfl, n0, x, t, tops, u, e, rfl, hpt, l12, he, fun H1 s1 => ⟨_, rfl, ?_⟩⟩
    unfold showsD at q
    cases cs : standingD tops e with
    | false =>
      rw [cs, Bool.false_and] at q
      exact iteT (q _ s1)
    | true =>
    rw [cs, Bool.true_and] at q
    obtain ⟨p, rfl, ep, lp, bp⟩ := stand_at he cs
    refine iteF ⟨_, rfl, _, rfl, x, p, tops, rs, numsD e, rfl, hp.keep (.same s1), s1 _ _ ep, l40, fun q hq => fit_of (rok q hq) lp, fun H2 s2 => ⟨_, rfl, ?_⟩⟩
    have s12 := s1.trans s2
    cases cg : rs.all (kept (numsD e)) with
    | false =>
      rw [cg, Bool.false_and] at q
      exact iteT (q _ s12)
    | true =>
    rw [cg, Bool.true_and] at q
    refine iteF ⟨_, rfl, _, rfl, g, p, W, numsD e, rfl, .inl (.inl (s12 _ _ eg)), hW.keep (.same s12), fun z hz => by rw [lp]; exact (okW z hz).lt, lW, s12 _ _ ep, fun H3 s3 => ⟨_, rfl, ?_⟩⟩
    have s13 := s12.trans s3
    cases ch : (W.map (·.2)).all (inB (numsD e)) with
    | false =>
      rw [ch, Bool.false_and] at q
      exact iteT (q _ s13)
    | true =>
    rw [ch, Bool.true_and] at q
    refine iteF ⟨_, rfl, _, rfl, _, rfl, _, rfl, _, rfl, n0, x, a, g, p, tops, st, numsD e, rs, W, v, d, rfl, hp.keep (.same s13), s13 _ _ ea, s13 _ _ eg, hW.keep (.same s13), s13 _ _ ep, by omega, hd.same s13, rok, l40, dl, fun H4 s4 => q _ (s13.trans s4)⟩
end
end K16

set_option Elab.async false
set_option linter.all false
set_option maxRecDepth 100000
namespace K16
open PySem PySem.Spec PyProof.Rows L2 NB

/-! ### papers of the nearest, as data -/
theorem sideD_sd {tops : List Int} {s : Sd} (ok : SideOk tops s) : sideD tops (sdD s) = true := by
  have lt := ok.lt
  have bd := ok.bd
  show (decide (([PyData.int (s.1 : Int), .str (word s.2.1), .int s.2.2] : List PyData).length = 3) && (placeD ((tops.length : Int) - 1) (.int (s.1 : Int)) && (wordD (.str (word s.2.1)) && placeD (tops.getD (natD (.int (s.1 : Int))) 0) (.int s.2.2)))) = true
  rw [show natD (.int (s.1 : Int)) = s.1 from Int.toNat_natCast s.1]
  have e : tops.getD s.1 0 = plc tops s.1 := rfl
  rw [e]
  have h1 : placeD ((tops.length : Int) - 1) (.int (s.1 : Int)) = true := by
    show (decide (0 ≤ (s.1 : Int)) && decide ((s.1 : Int) ≤ (tops.length : Int) - 1)) = true
    rw [Bool.and_eq_true, decide_eq_true_eq, decide_eq_true_eq]
    omega
  have h2 : wordD (.str (word s.2.1)) = true := by
    cases s.2.1 <;> decide +kernel
  have h3 : placeD (plc tops s.1) (.int s.2.2) = true := by
    show (decide (0 ≤ s.2.2) && decide (s.2.2 ≤ plc tops s.1)) = true
    rw [Bool.and_eq_true, decide_eq_true_eq, decide_eq_true_eq]
    omega
  rw [h1, h2, h3]
  rfl
theorem sdOf_sd (s : Sd) : sdOf (sdD s) = s := by
  obtain ⟨n, b, x⟩ := s
  show (natD (.int (n : Int)), strIs "from" (.str (word b)), numD (.int x)) = (n, b, x)
  rw [show natD (.int (n : Int)) = n from Int.toNat_natCast n]
  cases b <;> rfl
theorem sdOf_sds (L : List (Addr × Sd)) : (sdsD L).map sdOf = L.map (·.2) := by
  show (L.map fun z => sdD z.2).map sdOf = _
  rw [List.map_map]
  exact List.map_congr_left fun z _ => sdOf_sd z.2
theorem chainD_sds {tops : List Int} {rs : List Rl} {L : List (Addr × Sd)} (ok : ∀ z ∈ L, SideOk tops z.2) (ne : L ≠ []) (ch : chB tops rs (L.map (·.2)) = true) : chainD tops rs (.tuple (sdsD L)) = true := by
  show ((sdsD L).all (sideD tops) && (!(sdsD L).isEmpty && chB tops rs ((sdsD L).map sdOf))) = true
  rw [sdOf_sds, ch]
  have h1 : (sdsD L).all (sideD tops) = true := by
    rw [List.all_eq_true]
    intro d hd
    obtain ⟨z, hz, rfl⟩ := List.mem_map.mp hd
    exact sideD_sd (ok z hz)
  rw [h1]
  cases L with
  | nil => exact absurd rfl ne
  | cons _ _ => rfl
theorem pullD_sds {H : Hp} {a : Addr} {tops : List Int} {rs : List Rl} {W : List Sd} {s : Sd} {L : List (Addr × Sd)} (c : ChnAt H a tops rs W s L) : pullD tops rs W s (.tuple (sdsD L)) = true := by
  obtain ⟨w, hw, hh⟩ := c.hd
  have ne : L ≠ [] := fun z => by
    rw [z] at hh
    cases hh
  have e1 : hdS (.tuple (sdsD L)) = w := by
    show ((sdsD L).map sdOf).headD (0, true, 0) = w
    rw [sdOf_sds, List.headD_eq_head?_getD, hh]
    rfl
  have e2 : laS (.tuple (sdsD L)) = s := by
    show ((sdsD L).map sdOf).getLastD (0, true, 0) = s
    rw [sdOf_sds, List.getLastD_eq_getLast?, c.lst]
    rfl
  unfold pullD
  rw [chainD_sds c.ok ne c.ch, e1, e2, decide_eq_true hw, decide_eq_true rfl]
  rfl
theorem db_pick {H : Hp} (Q : Nat → PyData → Prop) : ∀ (as : List Addr) (k : Nat), (∀ i a, as[i]? = some a → ∃ d, (∀ E, Db E H (.ref a) d) ∧ Q (k + i) d) → ∃ ds : List PyData, (∀ E, DbAll E H (as.map V.ref) ds) ∧ ds.length = as.length ∧ ∀ i d, ds[i]? = some d → Q (k + i) d
  | [], k, _ => ⟨[], fun _ => .nil, rfl, fun i d h => by simp at h⟩
  | a :: as, k, h => by
    obtain ⟨d, D, q⟩ := h 0 a rfl
    obtain ⟨ds, Ds, l, qs⟩ := db_pick Q as (k + 1) fun i b hb => by
      obtain ⟨d, D, q⟩ := h (i + 1) b hb
      exact ⟨d, D, by rw [show k + 1 + i = k + (i + 1) by omega]; exact q⟩
    refine ⟨d :: ds, fun E => .cons (D E) (Ds E), by rw [List.length_cons, List.length_cons, l], fun i e he => ?_⟩
    cases i with
    | zero =>
      cases he
      exact q
    | succ i =>
      have := qs i e he
      rw [show k + (i + 1) = k + 1 + i by omega]
      exact this
/-- a row of sides, as data -/
structure RowOk (tops : List Int) (d : PyData) : Prop where
  ex : ∃ L : List (Addr × Sd), d = .tuple (sdsD L) ∧ (∀ z ∈ L, SideOk tops z.2) ∧ L.length ≤ 281
theorem pap_data {H : Hp} {r : Addr} {tops : List Int} {rs : List Rl} {W : List Sd} {st n : List Int} (ln : n.length = st.length) (p : PapAt H r tops rs W st n) : ∃ (xs : List V) (ds : List PyData), H r = some (.tup xs) ∧ (∀ E, DbAll E H xs ds) ∧ ds.length = st.length ∧ (∀ d ∈ ds, RowOk tops d) ∧ pulsD tops rs W st n (.tuple ds) = true := by
  obtain ⟨as, e, la, pl⟩ := p
  obtain ⟨ds, Ds, l, qs⟩ := db_pick (H := H) (fun i d => rowD tops rs W st n i d = true ∧ RowOk tops d) as 0 fun i a ha => by
    rw [Nat.zero_add]
    rcases pl i a ha with ⟨e1, e2⟩ | ⟨ne, L, c⟩
    · refine ⟨.tuple [], fun E => .tup e2 .nil, ?_, ⟨[], rfl, (fun z hz => absurd hz List.not_mem_nil), Nat.zero_le _⟩⟩
      unfold rowD
      rw [if_pos e1]
      rfl
    · refine ⟨.tuple (sdsD L), fun E => .tup c.ea (db_sides c.hL), ?_, ⟨L, rfl, c.ok, c.len⟩⟩
      unfold rowD
      rw [if_neg ne]
      exact pullD_sds c
  refine ⟨_, ds, e, Ds, by omega, fun d hd => ?_, ?_⟩
  · obtain ⟨i, hi, rfl⟩ := List.getElem_of_mem hd
    exact (qs i _ (List.getElem?_eq_getElem hi)).2
  · show (decide (ds.length = n.length) && (List.range n.length).all fun i => rowD tops rs W st n i (ds.getD i .none)) = true
    rw [decide_eq_true (by omega), Bool.true_and, List.all_eq_true]
    intro i hi
    have hi' : i < ds.length := by
      have := List.mem_range.mp hi
      omega
    have := (qs i _ (List.getElem?_eq_getElem hi')).1
    rw [Nat.zero_add] at this
    rw [List.getD_eq_getElem?_getD, List.getElem?_eq_getElem hi']
    exact this
theorem nums_ints : ∀ {tops : List Int} {ds : List PyData}, ds.length = tops.length → ((tops.zip ds).all fun p => placeD p.1 p.2) = true → ds = (ds.map numD).map PyData.int
  | [], [], _, _ => rfl
  | t :: ts, d :: ds, l, a => by
    rw [List.zip_cons_cons, List.all_cons, Bool.and_eq_true] at a
    obtain ⟨i, rfl, hi⟩ := place_int a.1
    have := nums_ints (tops := ts) (ds := ds) (by simpa using l) a.2
    rw [List.map_cons, List.map_cons, ← this]
    rfl
theorem stand_ints {tops : List Int} {d : PyData} (s : standingD tops d = true) : d = .tuple ((numsD d).map PyData.int) := by
  cases d with
  | tuple ds =>
    have s' : (decide (ds.length = tops.length) && (tops.zip ds).all fun p => placeD p.1 p.2) = true := s
    rw [Bool.and_eq_true, decide_eq_true_eq] at s'
    exact congrArg PyData.tuple (nums_ints s'.1 s'.2)
  | _ => cases s
theorem ints_stand : ∀ {tops n : List Int}, n.length = tops.length → (∀ i, i < tops.length → 0 ≤ plc n i ∧ plc n i ≤ plc tops i) → ((tops.zip (n.map PyData.int)).all fun p => placeD p.1 p.2) = true ∧ (n.map PyData.int).map numD = n
  | [], [], _, _ => ⟨rfl, rfl⟩
  | t :: ts, x :: xs, l, h => by
    obtain ⟨h1, h2⟩ := ints_stand (tops := ts) (n := xs) (by simpa using l) fun i hi => h (i + 1) (by simpa using hi)
    have h0 := h 0 (by simp)
    refine ⟨?_, by rw [List.map_cons, List.map_cons, h2]; rfl⟩
    rw [List.map_cons, List.zip_cons_cons, List.all_cons, h1, Bool.and_true]
    show (decide (0 ≤ x) && decide (x ≤ t)) = true
    rw [Bool.and_eq_true, decide_eq_true_eq, decide_eq_true_eq]
    exact h0
/-- the right answer is shown -/
theorem shows_right {tops : List Int} {rs : List Rl} {W : List Sd} {st n : List Int} {ds : List PyData} (N : Nrst tops rs W st n) (h : pulsD tops rs W st n (.tuple ds) = true) : showsD tops rs W st (.tuple (n.map PyData.int)) (.tuple ds) = true := by
  have g := goods_mem.mp N.good
  obtain ⟨h1, h2⟩ := ints_stand g.1.1 g.1.2
  unfold showsD
  have e : numsD (.tuple (n.map PyData.int)) = n := h2
  rw [e, h]
  have s : standingD tops (.tuple (n.map PyData.int)) = true := by
    show (decide ((n.map PyData.int).length = tops.length) && (tops.zip (n.map PyData.int)).all fun p => placeD p.1 p.2) = true
    rw [h1, List.length_map, decide_eq_true g.1.1]
    rfl
  have k : rs.all (kept n) = true := goodB_iff.mpr g.2
  have a : W.all (inB n) = true := List.all_eq_true.mpr N.has
  rw [s, k, a]
  rfl
/-- what is shown is the nearest one -/
theorem shows_sound {tops : List Int} {rs : List Rl} (rok : ∀ q ∈ rs, RuleOk tops q) {W : List Sd} {st n : List Int} (N : Nrst tops rs W st n) {n0 : Addr} {H : Hp} {u v : V} {e d : PyData} (De : Da n0 H u e) (Dd : Da n0 H v d) (h : showsD tops rs W st e d = true) : e = .tuple (n.map PyData.int) := by
  unfold showsD at h
  simp only [Bool.and_eq_true] at h
  obtain ⟨s, k, a, pl⟩ := h
  obtain ⟨_, _, _, lm, bm⟩ := stand_at De s
  have ei := stand_ints s
  generalize numsD e = m at *
  have gm : m ∈ goods tops rs := goods_mem.mpr ⟨⟨lm, bm⟩, goodB_iff.mp k⟩
  have am : ∀ s ∈ W, inB m s = true := List.all_eq_true.mp a
  have lnn := goods_len N.good
  cases d with
  | tuple ds =>
    have pl' : (decide (ds.length = m.length) && (List.range m.length).all fun i => rowD tops rs W st m i (ds.getD i .none)) = true := pl
    rw [Bool.and_eq_true, decide_eq_true_eq, List.all_eq_true] at pl'
    obtain ⟨ld, al⟩ := pl'
    cases Dd with
    | tup ed ha =>
    rename_i c xs
    have ll := ha.len
    have emn : m = n := plc_ext (by rw [lm, lnn]) fun i hi => by
      have b := N.btw m gm am i (by omega)
      have r := al i (List.mem_range.mpr hi)
      unfold rowD at r
      unfold Btw at b
      by_cases c : plc st i = plc m i
      · omega
      · rw [if_neg c] at r
        obtain ⟨di, edi, Di⟩ := ha.get i _ (List.getElem?_eq_getElem (by omega : i < xs.length))
        rw [List.getD_eq_getElem?_getD, edi] at r
        have r' : (chainD tops rs di && (decide (hdS di ∈ W) && decide (laS di = goalS st m i))) = true := r
        simp only [Bool.and_eq_true, decide_eq_true_eq] at r'
        obtain ⟨c1, c2, c3⟩ := r'
        have i1 := (chain_in' rok N.good Di c1 (N.has _ c2)).1
        rw [c3] at i1
        have en : n[i]? = some (plc n i) := by
          rw [List.getElem?_eq_getElem (show i < n.length by omega), plc_get (show i < n.length by omega)]
        unfold goalS inB at i1
        rw [en] at i1
        by_cases l : plc st i < plc m i
        · rw [decide_eq_true l] at i1
          have i2 : plc m i ≤ plc n i := of_decide_eq_true i1
          omega
        · rw [decide_eq_false l] at i1
          have i2 : plc n i ≤ plc m i := of_decide_eq_true i1
          omega
    rw [← emn]
    exact ei
  | _ => cases pl
end K16

set_option Elab.async false
set_option linter.all false
set_option maxRecDepth 100000
namespace K16
open PySem PySem.Spec PyProof.Rows L2 NB

/-! ### rows of bounds as data -/
def bdD (ls ms : List Int) (n j : Nat) : List PyData := (List.range' j n).map fun i => .tuple [.int (plc ls i), .int (plc ms i)]
theorem bdD_da {n : Addr} {H : Hp} {ls ms : List Int} : ∀ (Us : List Addr) (j : Nat), (∀ (i : Nat) (T : Addr), Us[i]? = some T → H T = some (.tup [.int (plc ls (j + i)), .int (plc ms (j + i))])) → DaAll n H (Us.map V.ref) (bdD ls ms Us.length j)
  | [], _, _ => .nil
  | U :: Us, j, h => by
    have ih := bdD_da (n := n) (H := H) (ls := ls) (ms := ms) Us (j + 1) fun i T e => by
      have := h (i + 1) T (by rw [List.getElem?_cons_succ]; exact e)
      rw [show j + 1 + i = j + (i + 1) by omega]
      exact this
    exact .cons (.tup (h 0 U rfl) (.cons (.int _) (.cons (.int _) .nil))) ih
theorem bnd_da {n : Addr} {H : Hp} {p : Addr} {ls ms : List Int} (h : BndAt H p ls ms) : Da n H (.ref p) (.tuple (bdD ls ms ls.length 0)) := by
  obtain ⟨Us, ep, lU, aU⟩ := h
  rw [← lU]
  exact .tup ep (bdD_da Us 0 fun i T e => by rw [Nat.zero_add]; exact aU i T e)
theorem sm_rows {ls ms : List Int} : ∀ (n j : Nat), (∀ i, i < j + n → (plc ls i).natAbs < 10 ^ 90 ∧ (plc ms i).natAbs < 10 ^ 90) → SmE (bdD ls ms n j) 1 ∧ PyData.weightAll (bdD ls ms n j) ≤ 700 * n
  | 0, _, _ => ⟨fun _ h => absurd h List.not_mem_nil, Nat.le_refl _⟩
  | n + 1, j, h => by
    obtain ⟨h1, h2⟩ := sm_rows n (j + 1) fun i hi => h i (by omega)
    obtain ⟨a1, a2⟩ := h j (by omega)
    have x := Sm.int a1
    have y := Sm.int a2
    have xw := x.wt
    have yw := y.wt
    have s : Sm (.tuple [.int (plc ls j), .int (plc ms j)]) 690 1 := Sm.tup (k := 0) (SmE.app (SmE.one x) (SmE.one y)) (by simp only [PyData.weightAll]; omega)
    have sw := s.wt
    refine ⟨SmE.app (SmE.one s) h1, ?_⟩
    show PyData.weightAll (.tuple [.int (plc ls j), .int (plc ms j)] :: bdD ls ms n (j + 1)) ≤ 700 * (n + 1)
    simp only [PyData.weightAll] at sw ⊢
    omega
theorem fol_small {tops : List Int} {rs : List Rl} (rok : ∀ q ∈ rs, RuleOk tops q) (fw : Few tops) {S : Sd → Prop} (hS : ∀ s, S s → SideOk tops s) {lows highs : List Int} (F : Fol tops rs S lows highs) (l4 : tops.length ≤ 4) : Sm (.tuple (bdD lows highs lows.length 0)) 2800 2 := by
  have big : (10 : Nat) < 10 ^ 90 := by decide
  have key : ∀ i, i < tops.length → (plc lows i).natAbs < 10 ^ 90 ∧ (plc highs i).natAbs < 10 ^ 90 := fun i hi => by
    have f3 := few_plc fw i
    have t0 := (fw _ (List.getElem_mem hi)).1
    rw [← plc_get hi] at t0
    have a : plc lows i ≤ 3 := by
      rcases F.l0 i hi with e | r
      · omega
      · have h2 : plc lows i ≤ plc tops i := (r.ok rok hS).bd.2
        omega
    have b : 0 ≤ plc highs i := by
      rcases F.h0 i hi with e | r
      · omega
      · exact (r.ok rok hS).bd.1
    have := F.lz i hi
    have := F.hz i hi
    omega
  have ll := F.ll
  obtain ⟨h1, h2⟩ := sm_rows (ls := lows) (ms := highs) lows.length 0 fun i hi => key i (by omega)
  exact Sm.tup (k := 1) h1 (by omega)
end K16

set_option Elab.async false
set_option linter.all false
set_option maxRecDepth 100000
namespace K16
open PySem PySem.Spec PyProof.Rows L2 NB

/-! ### bounds pressed rule by rule: the law -/
structure LiAt (H : Hp) (L : Addr) (Rs : List Addr) (lows highs : List Int) : Prop where
  eL : H L = some (.lst (Rs.map V.ref))
  l1 : Rs.length = lows.length
  l2 : highs.length = lows.length
  nd : Rs.Nodup
  nL : L ∉ Rs
  at' : ∀ (i : Nat) (R : Addr), Rs[i]? = some R → H R = some (.lst [.int (plc lows i), .int (plc highs i)])
theorem LiAt.same {H H' : Hp} {L : Addr} {Rs : List Addr} {lows highs : List Int} (h : LiAt H L Rs lows highs) (s : Same H H') : LiAt H' L Rs lows highs := ⟨s _ _ h.eL, h.l1, h.l2, h.nd, h.nL, fun i R e => s _ _ (h.at' i R e)⟩
/-- all else stays -/
def ButR (Rs : List Addr) (H H' : Hp) : Prop := ∀ b o, b ∉ Rs → H b = some o → H' b = some o
theorem ButR.refl (Rs : List Addr) (H : Hp) : ButR Rs H H := fun _ _ _ e => e
theorem ButR.trans {Rs : List Addr} {H H1 H2 : Hp} (a : ButR Rs H H1) (b : ButR Rs H1 H2) : ButR Rs H H2 := fun c o n e => b c o n (a c o n e)
theorem ButR.of {Rs : List Addr} {H H' : Hp} (s : Same H H') : ButR Rs H H' := fun b o _ e => s b o e
def outL (lows highs : List Int) (s : Sd) : Bool := if s.2.1 then decide (plc highs s.1 < s.2.2) else decide (s.2.2 < plc lows s.1)
def prL (lows : List Int) (s : Sd) : List Int := if s.2.1 then lows.set s.1 (max (plc lows s.1) s.2.2) else lows
def prH (highs : List Int) (s : Sd) : List Int := if s.2.1 then highs else highs.set s.1 (min (plc highs s.1) s.2.2)
/-- a side that is not yet pressed -/
def offS (lows highs : List Int) (s : Sd) : Bool := if s.2.1 then decide (plc lows s.1 < s.2.2) else decide (s.2.2 < plc highs s.1)
section
variable {P : Program} {w : World} {K : PySem.W.Frag} {mg : Str → Option Value} {base : Heap}
def spOutL : Sp := fun vs H Q _ => ∃ (L p : Addr) (Rs : List Addr) (lows highs : List Int) (s : Sd), vs = [.ref L, .ref p] ∧ LiAt H L Rs lows highs ∧ SideAt H p s ∧ s.1 < lows.length ∧ Q (.bl (outL lows highs s)) H
abbrev a__law_out : Stmt := topS 77
abbrev n__law_out : List Str := ["_law_rows", "_law_side", "_law_thing", "_law_word", "_law_place"]
theorem sc__law_out : FnScope n__law_out ["_law_rows", "_law_side"] (defScope a__law_out) := ⟨rfl, rfl, rfl, by decide +kernel, rfl, by decide +kernel, by decide +kernel⟩
set_option maxHeartbeats 8000000 in
theorem ok__law_out {f  : Addr} {fd  : FuncData} {k : Nat}  (F : Fun K "_law_out" "_law_out" a__law_out f fd)    : FnOk P w K mg base CX0 (k + 1) f fd ["_law_rows", "_law_side"] spOutL := by
  refine F.ok sc__law_out (fun vs H Q E h => ?_) (fun cdv A outer s H vs Q E hr h => ?_)
  · obtain ⟨L, p, Rs, lows, highs, s', rfl, _⟩ := h
    rfl
  · obtain ⟨L, p, Rs, lows, highs, s', rfl, hL, hs, lt, q⟩ := h
    refine ⟨_, (pss_cons (ps_asg (pv 1) (pg_tup rfl (pgs_cons (pg_name (i := 2) sc__law_out.nd rfl (.inl rfl)) (pgs_cons (pg_name (i := 3) sc__law_out.nd rfl (.inl rfl)) (pgs_cons (pg_name (i := 4) sc__law_out.nd rfl (.inl rfl)) pgs_nil)))))
      (pss_one (ps_ret (pe_ifExp (pt_cmpR op_eq (pv 3) pe_str (nomark _)) (pe_cmpR op_lt (pe_ix ix_list (pe_ix ix_list (pv 0) (pv 2) (fun _ _ => rfl)) pe_int (fun _ _ => rfl)) (pv 4) (nomark _)) (pe_cmpR op_gt (pe_ix ix_list (pe_ix ix_list (pv 0) (pv 2) (fun _ _ => rfl)) pe_int (fun _ _ => rfl)) (pv 4) (nomark _)))))), ?_⟩
    obtain ⟨n, b, pl⟩ := s'
    have hs' : H p = some (.tup [.int (n : Int), .str (word b), .int pl]) := hs
    have lt' : n < lows.length := lt
    have lRn : n < Rs.length := by rw [hL.l1]; exact lt'
    have eR : Rs[n]? = some Rs[n] := List.getElem?_eq_getElem lRn
    have hR := hL.at' n _ eR
    refine ⟨.ref p, rfl, p, _, rfl, .inl (.inl hs'), rfl, _, _, rfl, _, _, rfl, _, _, rfl, rfl, ?_⟩
    unfold outL at q
    cases b with
    | true =>
      refine ⟨_, rfl, rfl, _, rfl, iteTr (by decide +kernel) ⟨_, rfl, _, rfl, L, _, n, _, rfl, rfl, .inl (.inl hL.eL), atI_nat (by rw [List.getElem?_map, eR]; rfl), _, _, 1, _, rfl, rfl, .inl (.inl hR), atI_nat (j := 1) rfl, _, rfl, _, _, rfl, rfl, q⟩⟩
    | false =>
      refine ⟨_, rfl, rfl, _, rfl, iteFa (by decide +kernel) ⟨_, rfl, _, rfl, L, _, n, _, rfl, rfl, .inl (.inl hL.eL), atI_nat (by rw [List.getElem?_map, eR]; rfl), _, _, 0, _, rfl, rfl, .inl (.inl hR), atI_nat (j := 0) rfl, _, rfl, _, _, rfl, rfl, q⟩⟩
theorem press_set {H : Hp} {L : Addr} {Rs : List Addr} {lows highs : List Int} {s : Sd} {R : Addr} {xs : List V} (h : LiAt H L Rs lows highs) (lt : s.1 < lows.length) (eR : Rs[s.1]? = some R) (sh : xs = [.int (plc (prL lows s) s.1), .int (plc (prH highs s) s.1)]) : ButR Rs H (upd H R (.lst xs)) ∧ LiAt (upd H R (.lst xs)) L Rs (prL lows s) (prH highs s) := by
  have mR : R ∈ Rs := List.mem_of_getElem? eR
  have ll : (prL lows s).length = lows.length := by
    unfold prL
    split
    · rw [List.length_set]
    · rfl
  have lh : (prH highs s).length = highs.length := by
    unfold prH
    split
    · rfl
    · rw [List.length_set]
  refine ⟨fun b o nb e => ?_, ⟨?_, by rw [ll]; exact h.l1, by rw [ll, lh]; exact h.l2, h.nd, h.nL, fun i R' e => ?_⟩⟩
  · rw [upd_ne (fun z : b = R => nb (by rw [z]; exact mR))]
    exact e
  · rw [upd_ne (fun z : L = R => h.nL (by rw [z]; exact mR))]
    exact h.eL
  · by_cases c : i = s.1
    · subst c
      rw [e] at eR
      injection eR with eR
      subst eR
      rw [upd_same, sh]
    · have lw : s.1 < highs.length := by rw [h.l2]; exact lt
      have p1 : plc (prL lows s) i = plc lows i := by
        unfold prL
        split
        · rw [plcSet lt, if_neg c]
        · rfl
      have p2 : plc (prH highs s) i = plc highs i := by
        unfold prH
        split
        · rfl
        · rw [plcSet lw, if_neg c]
      have ne : R' ≠ R := fun z => c (by
        obtain ⟨li, ei⟩ := List.getElem?_eq_some_iff.mp e
        obtain ⟨lj, ej⟩ := List.getElem?_eq_some_iff.mp eR
        have pw := List.pairwise_iff_getElem.mp h.nd
        rcases Nat.lt_trichotomy i s.1 with c | c | c
        · exact absurd (by rw [ei, ej, z]) (pw _ _ li lj c)
        · exact c
        · exact absurd (by rw [ei, ej, z]) (pw _ _ lj li c))
      rw [upd_ne ne, p1, p2]
      exact h.at' i R' e
theorem set_fr {lows highs : List Int} {n : Nat} {pl : Int} (lt : n < lows.length) : [V.int (plc lows n), V.int (plc highs n)].set 0 (.int (if pl > plc lows n then pl else plc lows n)) = [.int (plc (prL lows (n, true, pl)) n), .int (plc (prH highs (n, true, pl)) n)] := by
  have e : plc (prL lows (n, true, pl)) n = if pl > plc lows n then pl else plc lows n := by
    show plc (lows.set n (max (plc lows n) pl)) n = _
    rw [plcSet lt, if_pos rfl]
    split <;> omega
  rw [e]
  rfl
theorem set_to {lows highs : List Int} {n : Nat} {pl : Int} (lt : n < highs.length) : [V.int (plc lows n), V.int (plc highs n)].set 1 (.int (if pl < plc highs n then pl else plc highs n)) = [.int (plc (prL lows (n, false, pl)) n), .int (plc (prH highs (n, false, pl)) n)] := by
  have e : plc (prH highs (n, false, pl)) n = if pl < plc highs n then pl else plc highs n := by
    show plc (highs.set n (min (plc highs n) pl)) n = _
    rw [plcSet lt, if_pos rfl]
    split <;> omega
  rw [e]
  rfl
theorem eqv_two (a b c d : Int) : (PyData.list [.int a, .int b]).eqv (.list [.int c, .int d]) = (decide (a = c) && decide (b = d)) := by
  simp only [PyData.eqv, PyData.eqvAll, Bool.and_true]
  congr 1
def spPress : Sp := fun vs H Q _ => ∃ (L p : Addr) (Rs : List Addr) (lows highs : List Int) (s : Sd), vs = [.ref L, .ref p] ∧ LiAt H L Rs lows highs ∧ SideAt H p s ∧ s.1 < lows.length ∧ ∀ H', ButR Rs H H' → LiAt H' L Rs (prL lows s) (prH highs s) → Q (.bl (offS lows highs s)) H'
abbrev a__law_press : Stmt := topS 78
abbrev n__law_press : List Str := ["_law_rows", "_law_side", "_law_thing", "_law_word", "_law_place", "_law_kept"]
theorem sc__law_press : FnScope n__law_press ["_law_rows", "_law_side"] (defScope a__law_press) := ⟨rfl, rfl, rfl, by decide +kernel, rfl, by decide +kernel, by decide +kernel⟩
set_option maxHeartbeats 8000000 in
theorem ok__law_press {f  : Addr} {fd  : FuncData} {k : Nat}  (F : Fun K "_law_press" "_law_press" a__law_press f fd)   (m_list : mg "list" = none) (m_max : mg "max" = none) (m_min : mg "min" = none) : FnOk P w K mg base CX0 (k + 1) f fd ["_law_rows", "_law_side"] spPress := by
  refine F.ok sc__law_press (fun vs H Q E h => ?_) (fun cdv A outer s H vs Q E hr h => ?_)
  · obtain ⟨L, p, Rs, lows, highs, s', rfl, _⟩ := h
    rfl
  · obtain ⟨L, p, Rs, lows, highs, s', rfl, hL, hs, lt, q⟩ := h
    refine ⟨_, (pss_cons (ps_asg (pv 1) (pg_tup rfl (pgs_cons (pg_name (i := 2) sc__law_press.nd rfl (.inl rfl)) (pgs_cons (pg_name (i := 3) sc__law_press.nd rfl (.inl rfl)) (pgs_cons (pg_name (i := 4) sc__law_press.nd rfl (.inl rfl)) pgs_nil)))))
      (pss_cons (ps_set (i := 5) sc__law_press.nd rfl (.inl rfl) (pe_callTy call_list_of (by rfl) m_list (by decide +kernel) (pa_cons (pe_ix ix_list (pv 0) (pv 2) (fun _ _ => rfl)) pa_nil)))
      (pss_cons (ps_if (pt_cmpR op_eq (pv 3) pe_str (nomark _)) (pss_one (ps_asg (pe_callB (call_max2 rfl) (by rfl) m_max (by decide +kernel) (pa_cons (pe_ix ix_list (pe_ix ix_list (pv 0) (pv 2) (fun _ _ => rfl)) pe_int (fun _ _ => rfl)) (pa_cons (pv 4) pa_nil))) (pg_sub (pe_ix ix_list (pv 0) (pv 2) (fun _ _ => rfl)) pe_int set_list))) (pss_one (ps_asg (pe_callB (call_min2 rfl) (by rfl) m_min (by decide +kernel) (pa_cons (pe_ix ix_list (pe_ix ix_list (pv 0) (pv 2) (fun _ _ => rfl)) pe_int (fun _ _ => rfl)) (pa_cons (pv 4) pa_nil))) (pg_sub (pe_ix ix_list (pv 0) (pv 2) (fun _ _ => rfl)) pe_int set_list))))
      (pss_one (ps_ret (pe_cmpR (op_neD hr.units) (pe_ix ix_list (pv 0) (pv 2) (fun _ _ => rfl)) (pv 5) (nomark _))))))), ?_⟩
    obtain ⟨n, b, pl⟩ := s'
    have hs' : H p = some (.tup [.int (n : Int), .str (word b), .int pl]) := hs
    have lt' : n < lows.length := lt
    have lRn : n < Rs.length := by rw [hL.l1]; exact lt'
    have eR : Rs[n]? = some Rs[n] := List.getElem?_eq_getElem lRn
    have hR := hL.at' n _ eR
    have mR : Rs[n] ∈ Rs := List.getElem_mem lRn
    have aL : atI (Rs.map V.ref) (n : Int) = some (.ref Rs[n]) := atI_nat (by rw [List.getElem?_map, eR]; rfl)
    refine ⟨.ref p, rfl, p, _, rfl, .inl (.inl hs'), rfl, _, _, rfl, _, _, rfl, _, _, rfl, rfl, ?_⟩
    refine ⟨_, rfl, _, rfl, L, _, n, _, rfl, rfl, .inl (.inl hL.eL), aL, _, _, rfl, .inl (.inl (.inl hR)), fun k nk => ?_⟩
    have s1 := same_new (o := HO.lst [.int (plc lows n), .int (plc highs n)]) nk
    have hL1 := hL.same s1
    have ek : (upd H k (HO.lst [.int (plc lows n), .int (plc highs n)])) k = some (.lst [.int (plc lows n), .int (plc highs n)]) := upd_same
    have hR1 := hL1.at' n _ eR
    have nkR : ∀ R ∈ Rs, k ≠ R := fun R m z => by
      obtain ⟨i, li, e⟩ := List.getElem_of_mem m
      have := hL.at' i R (by rw [List.getElem?_eq_getElem li, e])
      rw [← z, nk] at this
      cases this
    have sB1 : ButR Rs H (upd H k (HO.lst [.int (plc lows n), .int (plc highs n)])) := .of s1
    generalize (upd H k (HO.lst [.int (plc lows n), .int (plc highs n)])) = H1 at hL1 ek hR1 sB1 ⊢
    cases b with
    | true =>
      refine ⟨_, rfl, rfl, _, rfl, iteTr (by decide +kernel) ⟨_, rfl, _, rfl, L, _, n, _, rfl, rfl, .inl (.inl hL1.eL), aL, _, _, 0, _, rfl, rfl, .inl (.inl hR1), atI_nat (j := 0) rfl, _, rfl, _, _, rfl, ?_⟩⟩
      refine ⟨_, rfl, _, rfl, L, _, n, _, rfl, rfl, .inl (.inl hL1.eL), aL, Rs[n], _, 0, 0, rfl, rfl, hR1, rfl, ?_⟩
      obtain ⟨b2, l2⟩ := press_set (s := (n, true, pl)) hL1 lt' eR (xs := _) (set_fr lt')
      refine ⟨_, rfl, _, rfl, L, _, n, _, rfl, rfl, .inl (.inl l2.eL), aL, _, rfl, _, _, .lst (.inl (.inl (l2.at' n _ eR))) (.cons (.int _) (.cons (.int _) .nil)), .lst (.inl (.inl (b2 _ _ (fun m => nkR _ m rfl) ek))) (.cons (.int _) (.cons (.int _) .nil)), rfl, rfl, ?_⟩
      rw [eqv_two]
      have e : (!(decide (plc (prL lows (n, true, pl)) n = plc lows n) && decide (plc (prH highs (n, true, pl)) n = plc highs n))) = offS lows highs (n, true, pl) := by
        have e1 : plc (prL lows (n, true, pl)) n = max (plc lows n) pl := by
          show plc (lows.set n (max (plc lows n) pl)) n = _
          rw [plcSet lt', if_pos rfl]
        have e2 : plc (prH highs (n, true, pl)) n = plc highs n := rfl
        rw [e1, e2, decide_eq_true (p := plc highs n = plc highs n) rfl, Bool.and_true]
        show (!decide (max (plc lows n) pl = plc lows n)) = decide (plc lows n < pl)
        by_cases c : plc lows n < pl
        · rw [decide_eq_true c, decide_eq_false (by omega)]
          rfl
        · rw [decide_eq_false c, decide_eq_true (by omega)]
          rfl
      rw [e]
      exact q _ (sB1.trans b2) l2
    | false =>
      refine ⟨_, rfl, rfl, _, rfl, iteFa (by decide +kernel) ⟨_, rfl, _, rfl, L, _, n, _, rfl, rfl, .inl (.inl hL1.eL), aL, _, _, 1, _, rfl, rfl, .inl (.inl hR1), atI_nat (j := 1) rfl, _, rfl, _, _, rfl, ?_⟩⟩
      refine ⟨_, rfl, _, rfl, L, _, n, _, rfl, rfl, .inl (.inl hL1.eL), aL, Rs[n], _, 1, 1, rfl, rfl, hR1, rfl, ?_⟩
      obtain ⟨b2, l2⟩ := press_set (s := (n, false, pl)) hL1 lt' eR (xs := _) (set_to (by rw [hL.l2]; exact lt'))
      refine ⟨_, rfl, _, rfl, L, _, n, _, rfl, rfl, .inl (.inl l2.eL), aL, _, rfl, _, _, .lst (.inl (.inl (l2.at' n _ eR))) (.cons (.int _) (.cons (.int _) .nil)), .lst (.inl (.inl (b2 _ _ (fun m => nkR _ m rfl) ek))) (.cons (.int _) (.cons (.int _) .nil)), rfl, rfl, ?_⟩
      rw [eqv_two]
      have e : (!(decide (plc (prL lows (n, false, pl)) n = plc lows n) && decide (plc (prH highs (n, false, pl)) n = plc highs n))) = offS lows highs (n, false, pl) := by
        have e1 : plc (prH highs (n, false, pl)) n = min (plc highs n) pl := by
          show plc (highs.set n (min (plc highs n) pl)) n = _
          rw [plcSet (by rw [hL.l2]; exact lt'), if_pos rfl]
        have e2 : plc (prL lows (n, false, pl)) n = plc lows n := rfl
        rw [e1, e2, decide_eq_true (p := plc lows n = plc lows n) rfl, Bool.true_and]
        show (!decide (min (plc highs n) pl = plc highs n)) = decide (pl < plc highs n)
        by_cases c : pl < plc highs n
        · rw [decide_eq_true c, decide_eq_false (by omega)]
          rfl
        · rw [decide_eq_false c, decide_eq_true (by omega)]
          rfl
      rw [e]
      exact q _ (sB1.trans b2) l2
end
end K16

set_option Elab.async false
set_option linter.all false
set_option maxRecDepth 100000
namespace K16
open PySem PySem.Spec PyProof.Rows L2 NB

/-! ### rows pressed until they rest -/
theorem cnt_lt {α : Type} {p q : α → Bool} : ∀ {l : List α}, (∀ x ∈ l, q x = true → p x = true) → (∃ x ∈ l, p x = true ∧ q x = false) → l.countP q < l.countP p
  | [], _, ⟨x, hx, _⟩ => absurd hx List.not_mem_nil
  | a :: l, h, ⟨x, hx, px, qx⟩ => by
    have h' : ∀ x ∈ l, q x = true → p x = true := fun x hx => h x (List.mem_cons_of_mem _ hx)
    have le : l.countP q ≤ l.countP p := List.countP_mono_left h'
    rw [List.countP_cons, List.countP_cons]
    rcases List.mem_cons.mp hx with e | m
    · subst e
      rw [px, qx]
      simp only [Bool.false_eq_true, if_false, if_true]
      omega
    · have lt := cnt_lt h' ⟨x, m, px, qx⟩
      have ha := h a List.mem_cons_self
      cases c : q a with
      | true =>
        rw [ha c]
        simp only [if_true]
        omega
      | false =>
        cases c2 : p a <;> simp only [Bool.false_eq_true, if_false, if_true] <;> omega
def sdsR (rs : List Rl) : List Sd := rs.flatMap fun q => [q.1, q.2]
def cntO (rs : List Rl) (lows highs : List Int) : Nat := (sdsR rs).countP (offS lows highs)
structure PrP (tops : List Int) (rs : List Rl) (S : Sd → Prop) (lows highs : List Int) : Prop where
  ll : lows.length = tops.length
  lh : highs.length = tops.length
  l0 : ∀ i, i < tops.length → plc lows i = 0 ∨ Rea tops rs S (i, true, plc lows i)
  h0 : ∀ i, i < tops.length → plc highs i = plc tops i ∨ Rea tops rs S (i, false, plc highs i)
  lz : ∀ i, i < tops.length → 0 ≤ plc lows i
  hz : ∀ i, i < tops.length → plc highs i ≤ plc tops i
def Nar (lows highs lows' highs' : List Int) : Prop := ∀ i, plc lows i ≤ plc lows' i ∧ plc highs' i ≤ plc highs i
theorem Nar.refl (lows highs : List Int) : Nar lows highs lows highs := fun _ => ⟨Int.le_refl _, Int.le_refl _⟩
theorem Nar.trans {a b c d e f : List Int} (h : Nar a b c d) (h' : Nar c d e f) : Nar a b e f := fun i => ⟨Int.le_trans (h i).1 (h' i).1, Int.le_trans (h' i).2 (h i).2⟩
theorem Nar.off {lows highs lows' highs' : List Int} (h : Nar lows highs lows' highs') {s : Sd} (o : offS lows' highs' s = true) : offS lows highs s = true := by
  have := h s.1
  unfold offS at o ⊢
  split at o
  · rw [if_pos (by assumption)]
    have := of_decide_eq_true o
    exact decide_eq_true (by omega)
  · rw [if_neg (by assumption)]
    have := of_decide_eq_true o
    exact decide_eq_true (by omega)
theorem plc_pr {lows highs : List Int} {s : Sd} (l1 : s.1 < lows.length) (l2 : s.1 < highs.length) (i : Nat) : plc (prL lows s) i = (if i = s.1 ∧ s.2.1 = true then max (plc lows i) s.2.2 else plc lows i) ∧ plc (prH highs s) i = (if i = s.1 ∧ s.2.1 = false then min (plc highs i) s.2.2 else plc highs i) := by
  obtain ⟨n, b, p⟩ := s
  have l1' : n < lows.length := l1
  have l2' : n < highs.length := l2
  cases b with
  | true =>
    refine ⟨?_, by rw [if_neg (by simp)]; rfl⟩
    show plc (lows.set n (max (plc lows n) p)) i = if i = n ∧ true = true then max (plc lows i) p else _
    rw [plcSet l1']
    by_cases c : i = n
    · rw [if_pos c, if_pos ⟨c, rfl⟩, c]
    · rw [if_neg c, if_neg (fun z => c z.1)]
  | false =>
    refine ⟨by rw [if_neg (by simp)]; rfl, ?_⟩
    show plc (highs.set n (min (plc highs n) p)) i = if i = n ∧ false = false then min (plc highs i) p else _
    rw [plcSet l2']
    by_cases c : i = n
    · rw [if_pos c, if_pos ⟨c, rfl⟩, c]
    · rw [if_neg c, if_neg (fun z => c z.1)]
theorem len_pr (lows highs : List Int) (s : Sd) : (prL lows s).length = lows.length ∧ (prH highs s).length = highs.length := by
  unfold prL prH
  constructor
  · split
    · rw [List.length_set]
    · rfl
  · split
    · rfl
    · rw [List.length_set]
theorem nar_pr {lows highs : List Int} {s : Sd} (l1 : s.1 < lows.length) (l2 : s.1 < highs.length) : Nar lows highs (prL lows s) (prH highs s) := fun i => by
  obtain ⟨e1, e2⟩ := plc_pr l1 l2 i
  rw [e1, e2]
  constructor
  · split <;> omega
  · split <;> omega
theorem off_pr {lows highs : List Int} {s : Sd} (l1 : s.1 < lows.length) (l2 : s.1 < highs.length) : offS (prL lows s) (prH highs s) s = false := by
  obtain ⟨n, b, p⟩ := s
  obtain ⟨e1, e2⟩ := plc_pr (s := (n, b, p)) l1 l2 n
  cases b with
  | true =>
    have e : plc (prL lows (n, true, p)) n = max (plc lows n) p := e1.trans (if_pos ⟨rfl, rfl⟩)
    show decide (plc (prL lows (n, true, p)) n < p) = false
    rw [e]
    exact decide_eq_false (by omega)
  | false =>
    have e : plc (prH highs (n, false, p)) n = min (plc highs n) p := e2.trans (if_pos ⟨rfl, rfl⟩)
    show decide (p < plc (prH highs (n, false, p)) n) = false
    rw [e]
    exact decide_eq_false (by omega)
theorem set_plc {l : List Int} {n : Nat} (h : n < l.length) : l.set n (plc l n) = l := by
  rw [plc_get h]
  exact List.set_getElem_self h
theorem pr_same {lows highs : List Int} {s : Sd} (l1 : s.1 < lows.length) (l2 : s.1 < highs.length) (o : offS lows highs s = false) : prL lows s = lows ∧ prH highs s = highs := by
  unfold offS at o
  unfold prL prH
  split at o
  · rw [if_pos (by assumption), if_pos (by assumption)]
    have := of_decide_eq_false o
    refine ⟨?_, rfl⟩
    rw [show max (plc lows s.1) s.2.2 = plc lows s.1 by omega]
    exact set_plc l1
  · rw [if_neg (by assumption), if_neg (by assumption)]
    have := of_decide_eq_false o
    refine ⟨rfl, ?_⟩
    rw [show min (plc highs s.1) s.2.2 = plc highs s.1 by omega]
    exact set_plc l2
theorem PrP.press {tops : List Int} {rs : List Rl} {S : Sd → Prop} {lows highs : List Int} (h : PrP tops rs S lows highs) {s : Sd} (ok : SideOk tops s) (r : Rea tops rs S s) : PrP tops rs S (prL lows s) (prH highs s) := by
  have lt := ok.lt
  have bd := ok.bd
  have l1 : s.1 < lows.length := by rw [h.ll]; exact lt
  have l2 : s.1 < highs.length := by rw [h.lh]; exact lt
  obtain ⟨n1, n2⟩ := len_pr lows highs s
  refine ⟨n1.trans h.ll, n2.trans h.lh, fun i hi => ?_, fun i hi => ?_, fun i hi => ?_, fun i hi => ?_⟩
  · rw [(plc_pr l1 l2 i).1]
    split
    · rename_i c
      by_cases d : plc lows i < s.2.2
      · rw [show max (plc lows i) s.2.2 = s.2.2 by omega, c.1]
        right
        have e : s = (s.1, true, s.2.2) := by
          obtain ⟨a, b, x⟩ := s
          exact congrArg (fun b => (a, b, x)) c.2
        rw [← e]
        exact r
      · rw [show max (plc lows i) s.2.2 = plc lows i by omega]
        exact h.l0 i hi
    · exact h.l0 i hi
  · rw [(plc_pr l1 l2 i).2]
    split
    · rename_i c
      by_cases d : s.2.2 < plc highs i
      · rw [show min (plc highs i) s.2.2 = s.2.2 by omega, c.1]
        right
        have e : s = (s.1, false, s.2.2) := by
          obtain ⟨a, b, x⟩ := s
          exact congrArg (fun b => (a, b, x)) c.2
        rw [← e]
        exact r
      · rw [show min (plc highs i) s.2.2 = plc highs i by omega]
        exact h.h0 i hi
    · exact h.h0 i hi
  · have := (nar_pr l1 l2 i).1
    have := h.lz i hi
    omega
  · have := (nar_pr l1 l2 i).2
    have := h.hz i hi
    omega
theorem PrP.out {tops : List Int} {rs : List Rl} {S : Sd → Prop} {lows highs : List Int} (h : PrP tops rs S lows highs) {s : Sd} (ok : SideOk tops s) (o : outL lows highs s = true) : ∃ a, Rea tops rs S a ∧ barsB tops a s = true := by
  have lt := ok.lt
  have bd := ok.bd
  obtain ⟨n, b, p⟩ := s
  have lt' : n < tops.length := lt
  have bd' : 0 ≤ p ∧ p ≤ plc tops n := bd
  cases b with
  | true =>
    have : plc highs n < p := of_decide_eq_true o
    rcases h.h0 n lt' with e | r
    · omega
    · exact ⟨_, r, bars_iff.mpr ⟨rfl, .inl (show plc highs n < p by omega)⟩⟩
  | false =>
    have : p < plc lows n := of_decide_eq_true o
    rcases h.l0 n lt' with e | r
    · omega
    · exact ⟨_, r, bars_iff.mpr ⟨rfl, .inr (show p < plc lows n by omega)⟩⟩
def ClQ (lows highs : List Int) (q : Rl) : Prop := (outL lows highs q.1 = true → offS lows highs q.2 = false) ∧ (outL lows highs q.2 = true → offS lows highs q.1 = false)
theorem bars_outL {tops lows highs : List Int} {a b : Sd} (oa : SideOk tops a) (ob : SideOk tops b) (h : barsB tops a b = true) (o : offS lows highs a = false) : outL lows highs b = true := by
  obtain ⟨e, h⟩ := bars_iff.mp h
  have ba := oa.bd
  have bb := ob.bd
  obtain ⟨n, c, p⟩ := a
  obtain ⟨m, d, r⟩ := b
  have e' : n = m := e
  subst e'
  have ba' : 0 ≤ p ∧ p ≤ plc tops n := ba
  have bb' : 0 ≤ r ∧ r ≤ plc tops n := bb
  cases c <;> cases d
  · have h' : p < 0 ∨ r < 0 := h
    omega
  · have h' : p < r ∨ plc tops n < 0 := h
    have := of_decide_eq_false (p := p < plc highs n) o
    exact decide_eq_true (show plc highs n < r by omega)
  · have h' : plc tops n < 0 ∨ r < p := h
    have := of_decide_eq_false (p := plc lows n < p) o
    exact decide_eq_true (show r < plc lows n by omega)
  · have h' : plc tops n < r ∨ plc tops n < p := h
    omega
theorem PrP.fol {tops : List Int} {rs : List Rl} {S : Sd → Prop} {lows highs : List Int} (h : PrP tops rs S lows highs) (rok : ∀ q ∈ rs, RuleOk tops q) (hS : ∀ s, S s → SideOk tops s) (w : ∀ s, S s → offS lows highs s = false) (cl : ∀ q ∈ rs, ClQ lows highs q) : Fol tops rs S lows highs := by
  have all : ∀ s, Rea tops rs S s → offS lows highs s = false := fun s r => by
    induction r with
    | base h => exact w _ h
    | step ra hb ih =>
      obtain ⟨q, hq, ⟨b, rfl⟩ | ⟨b, rfl⟩⟩ := led_iff.mp hb
      · exact (cl q hq).1 (bars_outL (ra.ok rok hS) (rok q hq).1 b ih)
      · exact (cl q hq).2 (bars_outL (ra.ok rok hS) (rok q hq).2 b ih)
  exact ⟨h.ll, h.lh, h.l0, h.h0, fun i p r => Int.not_lt.mp (of_decide_eq_false (all _ r)), fun i p r => Int.not_lt.mp (of_decide_eq_false (all _ r)), h.lz, h.hz⟩
theorem cnt_nar (rs : List Rl) {lows highs lows' highs' : List Int} (h : Nar lows highs lows' highs') : cntO rs lows' highs' ≤ cntO rs lows highs := List.countP_mono_left fun _ _ => h.off
theorem cnt_pr {rs : List Rl} {lows highs : List Int} {s : Sd} (m : s ∈ sdsR rs) (l1 : s.1 < lows.length) (l2 : s.1 < highs.length) (o : offS lows highs s = true) : cntO rs (prL lows s) (prH highs s) < cntO rs lows highs := cnt_lt (fun _ _ => (nar_pr l1 l2).off) ⟨s, m, o, off_pr l1 l2⟩
section
variable {P : Program} {w : World} {K : PySem.W.Frag} {mg : Str → Option Value} {base : Heap}
theorem LiAt.tup {H H' : Hp} {L : Addr} {Rs : List Addr} {lows highs : List Int} (h : LiAt H L Rs lows highs) (b : ButR Rs H H') {p : Addr} {xs : List V} (e : H p = some (.tup xs)) : H' p = some (.tup xs) := b p _ (fun m => by
  obtain ⟨i, li, ei⟩ := List.getElem_of_mem m
  have := h.at' i p (by rw [List.getElem?_eq_getElem li, ei])
  rw [e] at this
  cases this) e
theorem ButR.same {Rs : List Addr} {H0 H H' : Hp} (b : ButR Rs H H') (s : Same H0 H) (fr : ∀ R ∈ Rs, H0 R = none) : Same H0 H' := fun a o e => b a o (fun m => by
  rw [fr a m] at e
  cases e) (s a o e)
abbrev rTupOf (K : PySem.W.Frag) : List V → Hp → VK → Prop := fun xs H Q => ∃ p ys, xs = [.ref p] ∧ ((SqL K H p ys ∧ ∀ l, H l = none → Q (.ref l) (upd H l (.tup ys))) ∨ (SqT K H p ys ∧ Q (.ref p) H))
def spPd (K : PySem.W.Frag) : Sp := fun vs H Q _ => ∃ (t R g : Addr) (tops : List Int) (rs : List Rl) (Ls : List (Addr × Sd)), vs = [.ref t, .ref R, .ref g] ∧ H t = some (.tup (tops.map V.int)) ∧ RulesAt H R rs ∧ SqT K H g (sdR Ls) ∧ SdsAt H Ls ∧ (∀ z ∈ Ls, SideOk tops z.2) ∧ (∀ q ∈ rs, RuleOk tops q) ∧ (∀ i, i < tops.length → 0 ≤ plc tops i) ∧ tops.length ≤ 12 ∧
  ∀ H' p lows highs, Same H H' → BndAt H' p lows highs → Fol tops rs (· ∈ Ls.map (·.2)) lows highs → Q (.ref p) H'
abbrev a__law_pressed : Stmt := topS 79
abbrev n__law_pressed : List Str := ["_law_tops", "_law_rules_here", "_law_want", "_law_rows", "_law_side", "_law_changed", "_law_one", "_law_two", "_law_top", "_law_row"]
theorem sc__law_pressed : FnScope n__law_pressed ["_law_tops", "_law_rules_here", "_law_want"] (defScope a__law_pressed) := ⟨rfl, rfl, rfl, by decide +kernel, rfl, by decide +kernel, by decide +kernel⟩
set_option maxHeartbeats 8000000 in
theorem ok__law_pressed {f fKLp fKLo : Addr} {fd fdKLp fdKLo : FuncData} {k : Nat}  (F : Fun K "_law_pressed" "_law_pressed" a__law_pressed f fd) (KLp : Kn P w K mg base 1 "_law_press" ["_law_rows", "_law_side"] spPress fKLp fdKLp) (KLo : Kn P w K mg base 1 "_law_out" ["_law_rows", "_law_side"] spOutL fKLo fdKLo)  (m_tuple : mg "tuple" = none) : FnOk P w K mg base CX0 (k + 3) f fd ["_law_tops", "_law_rules_here", "_law_want"] (spPd K) := by
  refine F.ok sc__law_pressed (fun vs H Q E h => ?_) (fun cdv A outer s H vs Q E hr h => ?_)
  · obtain ⟨t, R, g, tops, rs, Ls, rfl, _⟩ := h
    rfl
  · obtain ⟨t, R, g, tops, rs, Ls, rfl, et, hR, eg, hL, okS, rok, pl, l12, q⟩ := h
    refine ⟨_, (pss_cons (ps_setLc (i := 3) (own := [("_law_top", 8)]) (g := (gName 8)) (tt := tYes) (te := (tLst (tCons (tC (.int 0)) (tCons (tVar 8) tNil)))) rfl sc__law_pressed.nd rfl rfl (sw_true rfl rfl rfl (by decide +kernel)) (pi_tup (pv 0)) (blkOk_by (N := n__law_pressed) (sc := defScope a__law_pressed) (by decide +kernel))
          (fun _ _ _ _ _ => (pg_name (i := 8) sc__law_pressed.nd rfl (.inl rfl) (hf := .inr rfl))) (fun _ _ _ _ _ => pts_nil) (fun _ _ _ _ _ => (pe_lst (pa_cons pe_int (pa_cons (pv 8) pa_nil)))))
      (pss_cons (ps_for PassesOwn.never rfl (pi_tup (pv 2)) (pg_name (i := 4) sc__law_pressed.nd rfl (.inl rfl))
        (pss_one (ps_expr (pe_kn KLp hr (by omega) (pa_cons (pv 3) (pa_cons (pv 4) pa_nil))))))
      (pss_cons (ps_set (i := 5) sc__law_pressed.nd rfl (.inl rfl) pe_bl)
      (pss_cons (ps_while PassesOwn.never (pt_val (pv 5))
        (pss_cons (ps_set (i := 5) sc__law_pressed.nd rfl (.inl rfl) pe_bl)
      (pss_one (ps_for PassesOwn.never rfl (pi_tup (pv 1)) (pg_tup rfl (pgs_cons (pg_name (i := 6) sc__law_pressed.nd rfl (.inl rfl)) (pgs_cons (pg_name (i := 7) sc__law_pressed.nd rfl (.inl rfl)) pgs_nil)))
        (C8.pss_cut (ps_if (PW.pt (pw_and (pt_val (pe_kn KLo hr (by omega) (pa_cons (pv 3) (pa_cons (pv 6) pa_nil)))) (pw_and1 (pt_val (pe_kn KLp hr (by omega) (pa_cons (pv 3) (pa_cons (pv 7) pa_nil))))))) (pss_one (ps_set (i := 5) sc__law_pressed.nd rfl (.inl rfl) pe_bl)) pss_nil)
      (pss_one (ps_if (PW.pt (pw_and (pt_val (pe_kn KLo hr (by omega) (pa_cons (pv 3) (pa_cons (pv 7) pa_nil)))) (pw_and1 (pt_val (pe_kn KLp hr (by omega) (pa_cons (pv 3) (pa_cons (pv 6) pa_nil))))))) (pss_one (ps_set (i := 5) sc__law_pressed.nd rfl (.inl rfl) pe_bl)) pss_nil)))))))
      (pss_one (ps_ret (pe_callTy call_tuple_of (by rfl) m_tuple (by decide +kernel) (pa_cons (
        pe_lc (own := [("_law_row", 9)]) (g := (gName 9)) (tt := tYes) (te := (tCB (rTupOf K) (tCons (tVar 9) tNil))) rfl sc__law_pressed.nd (pi_list (pv 3)) (blkOk_by (N := n__law_pressed) (sc := defScope a__law_pressed) (by decide +kernel))
          (fun _ _ _ _ _ => (pg_name (i := 9) sc__law_pressed.nd rfl (.inl rfl) (hf := .inr rfl))) (fun _ _ _ _ _ => pts_nil) (fun _ _ _ _ _ => (pe_callTy call_tuple_of (by rfl) m_tuple (by decide +kernel) (pa_cons (pv 9) pa_nil)))) pa_nil)))))))), ?_⟩
    refine ⟨.ref t, rfl, t, rfl, ⟨_, .inl (.inl et)⟩, fun D nD => lc_it (walk_tup (xs := tops.map V.int)) (fun j H' => Same H H' ∧ ∃ Rs : List Addr, Rs.length = j ∧ H' D = some (.lst (Rs.map V.ref)) ∧ Rs.Nodup ∧ D ∉ Rs ∧ (∀ R ∈ Rs, H R = none) ∧ ∀ (i : Nat) (R : Addr), Rs[i]? = some R → H' R = some (.lst [.int 0, .int (plc tops i)])) ⟨same_new nD, [], rfl, upd_same, .nil, List.not_mem_nil, (fun _ h => absurd h List.not_mem_nil), (fun i R h => by simp at h)⟩ (fun j H' _ y => .inl (.inl (y.1 _ _ et))) (fun j v H1 H2 hj y z => ?_) (fun H1 y => ?_)⟩
    · obtain ⟨s1, Rs, lR, eD, nd, nm, fr, at'⟩ := y
      obtain ⟨rfl, gv⟩ := z
      obtain ⟨x, ex, rfl⟩ := mapGet gv
      have eDz := eD
      refine ⟨rfl, .int x, rfl, (show 2 ≤ sizeLine by decide), fun z nz => ?_⟩
      have s2 := same_new (o := HO.lst [.int 0, .int x]) nz
      have zD : z ≠ D := fun e => by
        rw [e, eD] at nz
        cases nz
      have zR : z ∉ Rs := fun m => by
        obtain ⟨i, li, e⟩ := List.getElem_of_mem m
        have := at' i z (by rw [List.getElem?_eq_getElem li, e])
        rw [nz] at this
        cases this
      have hj' : j < tops.length := by rw [List.length_map] at hj; exact hj
      refine ⟨Rs.map V.ref, s2 _ _ eD, by rw [List.length_map, lR]; exact small1000 (by omega), same_over (s1.trans s2) nD, Rs ++ [z], by rw [List.length_append, lR]; rfl, by rw [upd_same, List.map_append]; rfl, List.nodup_append.mpr ⟨nd, List.nodup_cons.mpr ⟨List.not_mem_nil, .nil⟩, fun a ha b hb e => zR (by rw [← List.mem_singleton.mp hb, ← e]; exact ha)⟩, fun m => ?_, fun R m => ?_, fun i R e => ?_⟩
      · rcases List.mem_append.mp m with m | m
        · exact nm m
        · exact zD (List.mem_singleton.mp m).symm
      · rcases List.mem_append.mp m with m | m
        · exact fr R m
        · rw [List.mem_singleton.mp m]
          exact s1.free nz
      · rw [List.getElem?_append] at e
        split at e
        · rename_i c
          have hR' := at' i R e
          have neR : R ≠ D := fun z => nm (z ▸ List.mem_of_getElem? e)
          rw [upd_ne neR]
          exact s2 _ _ hR'
        · rename_i c
          have ei : i = j := by
            by_cases h : i - Rs.length = 0
            · omega
            · rw [List.getElem?_eq_none (by rw [List.length_singleton]; omega)] at e
              cases e
          have eR : R = z := by
            rw [ei, lR, Nat.sub_self] at e
            exact (Option.some.inj e).symm
          rw [eR, upd_ne zD, upd_same, ei, show plc tops j = x from by
            show tops.getD j 0 = x
            rw [List.getD_eq_getElem?_getD, ex]
            rfl]
    · obtain ⟨s1, Rs, lR, eD, nd, nm, fr, at'⟩ := y
      rw [List.length_map] at lR
      have pz : ∀ i, plc (List.replicate tops.length 0) i = 0 := fun i => by
        show (List.replicate tops.length (0 : Int)).getD i 0 = 0
        rw [List.getD_eq_getElem?_getD, List.getElem?_replicate]
        split <;> rfl
      have hLi : LiAt H1 D Rs (List.replicate tops.length 0) tops := ⟨eD, by rw [List.length_replicate]; exact lR, List.length_replicate.symm, nd, nm, fun i R e => by
        rw [pz i]
        exact at' i R e⟩
      have F0 : PrP tops rs (· ∈ Ls.map (·.2)) (List.replicate tops.length 0) tops := ⟨List.length_replicate, rfl, fun i _ => .inl (pz i), fun i _ => .inl rfl, fun i _ => by rw [pz i]; exact Int.le_refl _, fun i _ => Int.le_refl _⟩
      refine ⟨.ref g, rfl, g, rfl, ⟨_, sameT s1 eg⟩, for_it (walk_tup (xs := sdR Ls)) (fun j σ H' => ∃ (u4 : Option V) (lows highs : List Int), σ = [some (.ref t), some (.ref R), some (.ref g), some (.ref D), u4, none, none, none, none, none] ∧ Same H H' ∧ LiAt H' D Rs lows highs ∧ PrP tops rs (· ∈ Ls.map (·.2)) lows highs ∧ ∀ s, s ∈ (Ls.take j).map (·.2) → offS lows highs s = false) ⟨_, _, _, rfl, s1, hLi, F0, fun s h => by simp at h⟩ (fun j σ H' _ y => by obtain ⟨_, _, _, _, s2, _⟩ := y; exact sameT s2 eg) (fun j v σ H3 H4 hj y z => ?_) (fun σ H3 y => ?_)⟩
      · obtain ⟨u4, lows, highs, rfl, s3, hLi3, F3, w3⟩ := y
        obtain ⟨rfl, gv⟩ := z
        obtain ⟨y, ey, rfl⟩ := mapGet gv
        have my : y ∈ Ls := List.mem_of_getElem? ey
        have oy := okS y my
        have l1 : y.2.1 < lows.length := by rw [F3.ll]; exact oy.lt
        have l2 : y.2.1 < highs.length := by rw [F3.lh]; exact oy.lt
        have hy : SideAt H4 y.1 y.2 := s3 _ _ (hL y my)
        refine ⟨.ref D, rfl, .ref y.1, rfl, D, y.1, Rs, lows, highs, y.2, rfl, hLi3, hy, l1, fun H5 b5 hLi5 => ⟨_, _, _, rfl, b5.same s3 fr, hLi5, F3.press oy (.base (List.mem_map_of_mem my)), fun s h => ?_⟩⟩
        rw [List.take_add_one, ey, List.map_append] at h
        have nar := nar_pr l1 l2
        cases c : offS (prL lows y.2) (prH highs y.2) s with
        | false => rfl
        | true =>
          rcases List.mem_append.mp h with h | h
          · rw [← w3 s h]
            exact (nar.off c).symm
          · have e : s = y.2 := by simpa using h
            rw [e, off_pr l1 l2] at c
            cases c
      · obtain ⟨u4, lows, highs, rfl, s3, hLi3, F3, w3⟩ := y
        rw [show (sdR Ls).length = Ls.length from List.length_map .., List.take_length] at w3
        refine ⟨fun m σ H' => ∃ (go : Bool) (u6 u7 : Option V) (lows highs : List Int), σ = [some (.ref t), some (.ref R), some (.ref g), some (.ref D), u4, some (.bl go), u6, u7, none, none] ∧ m = 2 * cntO rs lows highs + (if go then 1 else 0) ∧ Same H H' ∧ LiAt H' D Rs lows highs ∧ PrP tops rs (· ∈ Ls.map (·.2)) lows highs ∧ (∀ s, s ∈ Ls.map (·.2) → offS lows highs s = false) ∧ (go = false → ∀ q ∈ rs, ClQ lows highs q), ⟨_, true, _, _, _, _, rfl, rfl, s3, hLi3, F3, w3, fun h => by cases h⟩, fun m σ H4 W => ?_⟩
        obtain ⟨go, u6, u7, lows, highs, rfl, em, s4, hLi4, F4, w4, cl4⟩ := W
        refine ⟨.bl go, rfl, go, rfl, ite2 (fun c => ?_) (fun c => ?_)⟩
        · subst c
          refine ⟨_, fun _ _ h => h, ?_⟩
          obtain ⟨as, eas, la, ha⟩ := hR
          refine ⟨.ref R, rfl, R, rfl, ⟨_, .inl (.inl (s4 _ _ eas))⟩, for_it (walk_tup (xs := as.map V.ref)) (fun j σ H' => ∃ (go : Bool) (u6 u7 : Option V) (lo hi : List Int), σ = [some (.ref t), some (.ref R), some (.ref g), some (.ref D), u4, some (.bl go), u6, u7, none, none] ∧ Same H H' ∧ LiAt H' D Rs lo hi ∧ PrP tops rs (· ∈ Ls.map (·.2)) lo hi ∧ (∀ s, s ∈ Ls.map (·.2) → offS lo hi s = false) ∧ (go = true → cntO rs lo hi < cntO rs lows highs) ∧ (go = false → lo = lows ∧ hi = highs ∧ ∀ q ∈ rs.take j, ClQ lo hi q)) ⟨false, _, _, _, _, rfl, s4, hLi4, F4, w4, (fun h => by cases h), fun _ => ⟨rfl, rfl, fun q h => by simp at h⟩⟩ (fun j σ H' _ y => by obtain ⟨_, _, _, _, _, _, s, _⟩ := y; exact .inl (.inl (s _ _ eas))) (fun j v σ H5 H6 hj y z => ?_) (fun σ H5 y => ?_)⟩
          · obtain ⟨go, v6, v7, lo, hi, rfl, s5, hLi5, F5, w5, gt, gf⟩ := y
            obtain ⟨rfl, gv⟩ := z
            obtain ⟨r, er, rfl⟩ := mapGet gv
            have hj' : j < rs.length := by rw [List.length_map, la] at hj; exact hj
            have eq : rs[j]? = some rs[j] := List.getElem?_eq_getElem hj'
            obtain ⟨p1, p2, eR0, h10, h20⟩ := ha j r _ er eq
            have eR1 := s5 _ _ eR0
            have h1 : SideAt H6 p1 rs[j].1 := s5 _ _ h10
            have h2 : SideAt H6 p2 rs[j].2 := s5 _ _ h20
            have okq := rok rs[j] (List.getElem_mem hj')
            have m1 : rs[j].1 ∈ sdsR rs := List.mem_flatMap.mpr ⟨rs[j], List.getElem_mem hj', by simp⟩
            have m2 : rs[j].2 ∈ sdsR rs := List.mem_flatMap.mpr ⟨rs[j], List.getElem_mem hj', by simp⟩
            have le : ∀ {go : Bool} {lo hi : List Int}, (go = true → cntO rs lo hi < cntO rs lows highs) → (go = false → lo = lows ∧ hi = highs) → cntO rs lo hi ≤ cntO rs lows highs := fun {go lo hi} h h' => by
              cases go with
              | true => exact Nat.le_of_lt (h rfl)
              | false => rw [(h' rfl).1, (h' rfl).2]; exact Nat.le_refl _
            refine ⟨r, _, rfl, .inl (.inl eR1), rfl, _, _, rfl, _, _, rfl, rfl, ?_⟩
            refine ⟨fun σ H' => ∃ (go : Bool) (lo hi : List Int), σ = [some (.ref t), some (.ref R), some (.ref g), some (.ref D), u4, some (.bl go), some (.ref p1), some (.ref p2), none, none] ∧ Same H H' ∧ LiAt H' D Rs lo hi ∧ PrP tops rs (· ∈ Ls.map (·.2)) lo hi ∧ (∀ s, s ∈ Ls.map (·.2) → offS lo hi s = false) ∧ (go = true → cntO rs lo hi < cntO rs lows highs) ∧ (go = false → lo = lows ∧ hi = highs ∧ (∀ q ∈ rs.take j, ClQ lo hi q) ∧ (outL lo hi rs[j].1 = true → offS lo hi rs[j].2 = false)), ?_, fun σ H8 y => ?_⟩
            · skip
              refine ⟨.ref D, rfl, .ref p1, rfl, D, p1, Rs, lo, hi, rs[j].1, rfl, hLi5, h1, by rw [F5.ll]; exact okq.1.lt, _, rfl, ite2 (fun c => ?_) (fun c => iteF ⟨go, lo, hi, rfl, s5, hLi5, F5, w5, gt, fun h => ⟨(gf h).1, (gf h).2.1, (gf h).2.2, fun z => absurd z c⟩⟩)⟩
              have l1 : (rs[j].2).1 < lo.length := by rw [F5.ll]; exact okq.2.lt
              have l2 : (rs[j].2).1 < hi.length := by rw [F5.lh]; exact okq.2.lt
              obtain ⟨a, ra, ba⟩ := F5.out okq.1 c
              refine ⟨.ref D, rfl, .ref p2, rfl, D, p2, Rs, lo, hi, rs[j].2, rfl, hLi5, h2, by rw [F5.ll]; exact okq.2.lt, fun H7 b7 hLi7 => ⟨_, rfl, ite2 (fun d => ?_) (fun d => ?_)⟩⟩
              · have nar := nar_pr l1 l2
                exact ⟨true, _, _, rfl, b7.same s5 fr, hLi7, F5.press okq.2 (.step ra (led_iff.mpr ⟨rs[j], List.getElem_mem hj', .inl ⟨ba, rfl⟩⟩)), (fun s hs => by
                  cases e : offS (prL lo rs[j].2) (prH hi rs[j].2) s with
                  | false => rfl
                  | true =>
                    rw [← w5 s hs]
                    exact (nar.off e).symm), (fun _ => Nat.lt_of_lt_of_le (cnt_pr m2 l1 l2 d) (le gt fun h => ⟨(gf h).1, (gf h).2.1⟩)), (fun h => by cases h)⟩
              · have d' : offS lo hi rs[j].2 = false := by simpa using d
                obtain ⟨e1, e2⟩ := pr_same l1 l2 d'
                rw [e1, e2] at hLi7
                exact ⟨go, lo, hi, rfl, b7.same s5 fr, hLi7, F5, w5, gt, fun h => ⟨(gf h).1, (gf h).2.1, (gf h).2.2, fun _ => d'⟩⟩
            · obtain ⟨go, lo, hi, rfl, s5', hLi5, F5, w5, gt, gf⟩ := y
              have h1 : SideAt H8 p1 rs[j].1 := s5' _ _ h10
              have h2 : SideAt H8 p2 rs[j].2 := s5' _ _ h20
              have s5 := s5'
              refine ⟨.ref D, rfl, .ref p2, rfl, D, p2, Rs, lo, hi, rs[j].2, rfl, hLi5, h2, by rw [F5.ll]; exact okq.2.lt, _, rfl, ite2 (fun c => ?_) (fun c => iteF ⟨go, _, _, lo, hi, rfl, s5, hLi5, F5, w5, gt, fun h => ⟨(gf h).1, (gf h).2.1, fun q hq => by
                rw [List.take_add_one, eq] at hq
                rcases List.mem_append.mp hq with hq | hq
                · exact (gf h).2.2.1 q hq
                · have e : q = rs[j] := by simpa using hq
                  rw [e]
                  exact ⟨(gf h).2.2.2, fun z => absurd z c⟩⟩⟩)⟩
              have l1 : (rs[j].1).1 < lo.length := by rw [F5.ll]; exact okq.1.lt
              have l2 : (rs[j].1).1 < hi.length := by rw [F5.lh]; exact okq.1.lt
              obtain ⟨a, ra, ba⟩ := F5.out okq.2 c
              refine ⟨.ref D, rfl, .ref p1, rfl, D, p1, Rs, lo, hi, rs[j].1, rfl, hLi5, h1, by rw [F5.ll]; exact okq.1.lt, fun H7 b7 hLi7 => ⟨_, rfl, ite2 (fun d => ?_) (fun d => ?_)⟩⟩
              · have nar := nar_pr l1 l2
                exact ⟨true, _, _, _, _, rfl, b7.same s5 fr, hLi7, F5.press okq.1 (.step ra (led_iff.mpr ⟨rs[j], List.getElem_mem hj', .inr ⟨ba, rfl⟩⟩)), (fun s hs => by
                  cases e : offS (prL lo rs[j].1) (prH hi rs[j].1) s with
                  | false => rfl
                  | true =>
                    rw [← w5 s hs]
                    exact (nar.off e).symm), (fun _ => Nat.lt_of_lt_of_le (cnt_pr m1 l1 l2 d) (le gt fun h => ⟨(gf h).1, (gf h).2.1⟩)), (fun h => by cases h)⟩
              · have d' : offS lo hi rs[j].1 = false := by simpa using d
                obtain ⟨e1, e2⟩ := pr_same l1 l2 d'
                rw [e1, e2] at hLi7
                exact ⟨go, _, _, lo, hi, rfl, b7.same s5 fr, hLi7, F5, w5, gt, fun h => ⟨(gf h).1, (gf h).2.1, fun q hq => by
                rw [List.take_add_one, eq] at hq
                rcases List.mem_append.mp hq with hq | hq
                · exact (gf h).2.2.1 q hq
                · have e : q = rs[j] := by simpa using hq
                  rw [e]
                  exact ⟨(gf h).2.2.2, fun _ => d'⟩⟩⟩
          · obtain ⟨go, v6, v7, lo, hi, rfl, s5, hLi5, F5, w5, gt, gf⟩ := y
            rw [List.length_map, la, List.take_length] at gf
            refine ⟨_, ?_, go, _, _, lo, hi, rfl, rfl, s5, hLi5, F5, w5, fun h => (gf h).2.2⟩
            rw [em]
            cases go with
            | true =>
              have := gt rfl
              simp only [if_true]
              omega
            | false =>
              rw [(gf rfl).1, (gf rfl).2.1]
              simp only [Bool.false_eq_true, if_false, if_true]
              omega
        · have cf : go = false := by simpa using c
          have FF := F4.fol rok (fun s hs => by obtain ⟨z, hz, rfl⟩ := List.mem_map.mp hs; exact okS z hz) w4 (cl4 cf)
          refine ⟨.ref D, rfl, D, rfl, ⟨_, .inl (.inl hLi4.eL)⟩, fun D2 nD2 => lc_it (walk_list (xs := Rs.map V.ref)) (fun j H' => Same H4 H' ∧ ∃ Us : List Addr, Us.length = j ∧ H' D2 = some (.lst (Us.map V.ref)) ∧ ∀ (i : Nat) (T : Addr), Us[i]? = some T → H' T = some (.tup [.int (plc lows i), .int (plc highs i)])) ⟨same_new nD2, [], rfl, upd_same, (fun i T h => by simp at h)⟩ (fun j H' _ y => .inl (.inl (y.1 _ _ hLi4.eL))) (fun j v H5 H6 hj y z => ?_) (fun H5 y => ?_)⟩
          · obtain ⟨s5, Us, lU, eD2, aU⟩ := y
            obtain ⟨rfl, gv⟩ := z
            obtain ⟨r, er, rfl⟩ := mapGet gv
            have e5 := s5 _ _ (hLi4.at' j r er)
            refine ⟨rfl, .ref r, rfl, r, _, rfl, .inl ⟨.inl (.inl e5), fun B nB => ?_⟩⟩
            have s6 := same_new (o := HO.tup [.int (plc lows j), .int (plc highs j)]) nB
            have hj' : j < tops.length := by rw [List.length_map, lR] at hj; exact hj
            refine ⟨Us.map V.ref, s6 _ _ eD2, by rw [List.length_map, lU]; exact small1000 (by omega), same_over (s5.trans s6) nD2, Us ++ [B], by rw [List.length_append, lU]; rfl, by rw [upd_same, List.map_append]; rfl, fun i T e => ?_⟩
            have kk : Keep (upd H6 B (.tup [.int (plc lows j), .int (plc highs j)])) (upd (upd H6 B (.tup [.int (plc lows j), .int (plc highs j)])) D2 (.lst (Us.map V.ref ++ [.ref B]))) := .upd (s6 _ _ eD2)
            rw [List.getElem?_append] at e
            split at e
            · exact kk.tup (s6 _ _ (aU i T e))
            · rename_i c
              have ei : i = j := by
                by_cases h : i - Us.length = 0
                · omega
                · rw [List.getElem?_eq_none (by rw [List.length_singleton]; omega)] at e
                  cases e
              have eT : T = B := by
                rw [ei, lU, Nat.sub_self] at e
                exact (Option.some.inj e).symm
              rw [eT, ei]
              exact kk.tup upd_same
          · obtain ⟨s5, Us, lU, eD2, aU⟩ := y
            rw [List.length_map, lR] at lU
            refine ⟨D2, _, rfl, .inl ⟨.inl (.inl eD2), fun B nB => ?_⟩⟩
            have s6 := same_new (o := HO.tup (Us.map V.ref)) nB
            exact q _ B lows highs ((s4.trans s5).trans s6) ⟨Us, upd_same, by rw [lU, F4.ll], fun i T e => s6 _ _ (aU i T e)⟩ FF
end
end K16

set_option Elab.async false
set_option linter.all false
set_option maxRecDepth 100000
namespace K16
open PySem PySem.Spec PyProof.Rows L2 NB

/-! ### wants that can be had; rules and sides drawn: the law -/
theorem rules_take {H : Hp} {R p : Addr} {as : List Addr} {rs : List Rl} {c : Nat} (e : H p = some (.tup ((as.take c).map V.ref))) (la : as.length = rs.length) (f : ∀ (i : Nat) (r : Addr) (q : Rl), as[i]? = some r → rs[i]? = some q → RuleAt H r q) : RulesAt H p (rs.take c) := by
  refine ⟨as.take c, e, by rw [List.length_take, List.length_take, la], fun i r q h1 h2 => ?_⟩
  rw [List.getElem?_take] at h1 h2
  by_cases hc : i < c
  · rw [if_pos hc] at h1 h2
    exact f i r q h1 h2
  · rw [if_neg hc] at h1
    cases h1
theorem cat_rules {K : PySem.W.Frag} {H : Hp} {a b : Addr} {rs ss : List Rl} {Q : VK} (ha : RulesAt H a rs) (hb : RulesAt H b ss) (hl : rs.length + ss.length ≤ 1000)
    (q : ∀ p H', Same H H' → RulesAt H' p (rs ++ ss) → Q (.ref p) H') : rCatA K (.ref a) (.ref b) H Q := by
  obtain ⟨as, ea, la, f⟩ := id ha
  obtain ⟨bs, eb, lb, g⟩ := id hb
  refine ⟨a, b, _, _, rfl, rfl, .inl (.inl ea), .inl (.inl eb), ?_, fun e => ?_, fun _ e => ?_, fun _ _ p np => ?_⟩
  · rw [List.length_map, List.length_map]
    exact Nat.le_of_lt (small1000 (by omega))
  · have e' : as = [] := List.map_eq_nil_iff.mp e
    subst e'
    have r0 : rs = [] := List.eq_nil_of_length_eq_zero la.symm
    subst r0
    exact q b H (Same.refl H) hb
  · have e' : bs = [] := List.map_eq_nil_iff.mp e
    subst e'
    have r0 : ss = [] := List.eq_nil_of_length_eq_zero lb.symm
    subst r0
    refine q a H (Same.refl H) ?_
    rw [List.append_nil]
    exact ha
  · refine q p _ (same_new np) ⟨as ++ bs, ?_, by rw [List.length_append, List.length_append, la, lb], rules_cat la (fun i r q h1 h2 => (f i r q h1 h2).keep (.same (same_new np))) (fun i r q h1 h2 => (g i r q h1 h2).keep (.same (same_new np)))⟩
    rw [upd_same, List.map_append]
theorem slice_any {K : PySem.W.Frag} {H : Hp} {R : Addr} {rs : List Rl} {c : Nat} {Q : VK} (h : RulesAt H R rs) (q : ∀ p H', Same H H' → RulesAt H' p (rs.take c) → Q (.ref p) H') : rSlA K (.ref R) none (some (c : Int)) H Q := by
  obtain ⟨as, e, la, f⟩ := id h
  have e1 : HT.sIx as.length as.length (some (c : Int)) = min c as.length := HT.sIx_nat _ _ _
  refine ⟨R, _, rfl, .inl (.inl e), fun w => ?_, fun w p np => ?_⟩
  · rw [List.length_map, e1] at w
    refine q R H (Same.refl H) ?_
    rw [List.take_of_length_le (by omega)]
    exact h
  · refine q p _ (same_new np) (rules_take (R := R) (as := as) ?_ la fun i r q h1 h2 => (f i r q h1 h2).keep (.same (same_new np)))
    rw [upd_same]
    unfold cutV
    rw [List.length_map, e1, HT.sIx_none, List.drop_zero, ← List.map_take]
    refine congrArg (fun x => some (HO.tup (List.map V.ref x))) ?_
    show List.take (min c as.length - 0) as = _
    rw [Nat.sub_zero]
    rcases Nat.le_total c as.length with l | l
    · rw [Nat.min_eq_left l]
    · rw [Nat.min_eq_right l, List.take_of_length_le (Nat.le_refl _), List.take_of_length_le l]
theorem all_lh (lows highs : List Int) (n : Nat) : ((List.range n).all fun i => decide (plc lows i ≤ plc highs i)) = true ↔ ∀ i, i < n → plc lows i ≤ plc highs i := by
  rw [List.all_eq_true]
  constructor
  · intro h i hi
    exact of_decide_eq_true (h i (List.mem_range.mpr hi))
  · intro h i hi
    exact decide_eq_true (h i (List.mem_range.mp hi))
theorem Fol.had {tops : List Int} {rs : List Rl} (rok : ∀ q ∈ rs, RuleOk tops q) {Ls : List (Addr × Sd)} (okS : ∀ z ∈ Ls, SideOk tops z.2) {lows highs st : List Int} (F : Fol tops rs (· ∈ Ls.map (·.2)) lows highs) (hg : st ∈ goods tops rs) : (∀ i, i < tops.length → plc lows i ≤ plc highs i) ↔ Had tops rs Ls := by
  have hS : ∀ s, s ∈ Ls.map (·.2) → SideOk tops s := fun s hs => by
    obtain ⟨z, hz, rfl⟩ := List.mem_map.mp hs
    exact okS z hz
  constructor
  · intro lh
    obtain ⟨g1, g2⟩ := F.good rok hS lh hg
    exact ⟨_, g1, fun s hs => g2 s (.base hs)⟩
  · rintro ⟨g, hg', h⟩ i hi
    exact F.cross rok hS hg' h i hi
section
variable {P : Program} {w : World} {K : PySem.W.Frag} {mg : Str → Option Value} {base : Heap}
def spCan (K : PySem.W.Frag) : Sp := fun vs H Q _ => ∃ (t R g : Addr) (tops st : List Int) (rs : List Rl) (Ls : List (Addr × Sd)), vs = [.ref t, .ref R, .ref g] ∧ H t = some (.tup (tops.map V.int)) ∧ RulesAt H R rs ∧ SqT K H g (sdR Ls) ∧ SdsAt H Ls ∧ (∀ z ∈ Ls, SideOk tops z.2) ∧ (∀ q ∈ rs, RuleOk tops q) ∧ (∀ i, i < tops.length → 0 ≤ plc tops i) ∧ tops.length ≤ 12 ∧ st ∈ goods tops rs ∧
  ∀ H' b, Same H H' → (b = true ↔ Had tops rs Ls) → Q (.bl b) H'
abbrev a__law_can : Stmt := topS 80
abbrev n__law_can : List Str := ["_law_tops", "_law_rules_here", "_law_want", "_law_low", "_law_high"]
theorem sc__law_can : FnScope n__law_can ["_law_tops", "_law_rules_here", "_law_want"] (defScope a__law_can) := ⟨rfl, rfl, rfl, by decide +kernel, rfl, by decide +kernel, by decide +kernel⟩
set_option maxHeartbeats 8000000 in
theorem ok__law_can {f fKLd : Addr} {fd fdKLd : FuncData} {k : Nat}  (F : Fun K "_law_can" "_law_can" a__law_can f fd) (KLd : Kn P w K mg base 3 "_law_pressed" ["_law_tops", "_law_rules_here", "_law_want"] (spPd K) fKLd fdKLd)  (m_all : mg "all" = none) : FnOk P w K mg base CX0 (k + 4) f fd ["_law_tops", "_law_rules_here", "_law_want"] (spCan K) := by
  refine F.ok sc__law_can (fun vs H Q E h => ?_) (fun cdv A outer s H vs Q E hr h => ?_)
  · obtain ⟨t, R, g, tops, st, rs, Ls, rfl, _⟩ := h
    rfl
  · obtain ⟨t, R, g, tops, st, rs, Ls, rfl, et, hR, eg, hL, okS, rok, pl, l12, hst, q⟩ := h
    refine ⟨_, (pss_one (ps_ret (pe_callB (cr_all rfl) (by rfl) m_all (by decide +kernel) (pa_cons (
        pe_lc (own := [("_law_low", 3), ("_law_high", 4)]) (g := (gTup K 2 (gCons (gName 3) (gCons (gName 4) gNil)))) (tt := tYes) (te := (tOp (rI0 fun i j => .bl (decide (i ≤ j))) (tVar 3) (tVar 4))) rfl sc__law_can.nd (pi_tup (pe_kn KLd hr (by omega) (pa_cons (pv 0) (pa_cons (pv 1) (pa_cons (pv 2) pa_nil))))) (blkOk_by (N := n__law_can) (sc := defScope a__law_can) (by decide +kernel))
          (fun _ _ _ _ _ => (pg_tup rfl (pgs_cons (pg_name (i := 3) sc__law_can.nd rfl (.inl rfl) (hf := .inr rfl)) (pgs_cons (pg_name (i := 4) sc__law_can.nd rfl (.inl rfl) (hf := .inr rfl)) pgs_nil)))) (fun _ _ _ _ _ => pts_nil) (fun _ _ _ _ _ => (pe_cmpR op_le (pv 3) (pv 4) (nomark _)))) pa_nil)))), ?_⟩
    refine ⟨.ref t, rfl, .ref R, rfl, .ref g, rfl, t, R, g, tops, rs, Ls, rfl, et, hR, eg, hL, okS, rok, pl, l12, fun H1 p lows highs s1 hB FF => ?_⟩
    obtain ⟨Us, eU, lU, aU⟩ := hB
    have lT : Us.length = tops.length := lU.trans FF.ll
    refine ⟨p, rfl, ⟨_, .inl (.inl eU)⟩, fun D nD => lc_it (walk_tup (xs := Us.map V.ref)) (fun i H' => Same H1 H' ∧ H' D = some (.lst (((List.range i).map fun i => decide (plc lows i ≤ plc highs i)).map V.bl))) ⟨same_new nD, upd_same⟩ (fun i H' _ u => .inl (.inl (u.1 _ _ eU))) (fun i v' H2x H2 hi u z => ?_) (fun H2 u => ?_)⟩
    · obtain ⟨sm, eD⟩ := u
      obtain ⟨rfl, gv⟩ := z
      obtain ⟨T, eT, rfl⟩ := mapGet gv
      have e2 := sm _ _ (aU i T eT)
      have hi' : i < tops.length := by rw [List.length_map, lT] at hi; exact hi
      refine ⟨T, _, rfl, .inl (.inl e2), rfl, _, _, rfl, _, _, rfl, rfl, wipe_two, _, rfl, _, rfl, _, _, rfl, rfl, _, eD, ?_, same_over sm nD, ?_⟩
      · rw [List.length_map, List.length_map, List.length_range]
        exact small1000 (by omega)
      · rw [upd_same, List.range_succ, List.map_append, List.map_append]
        rfl
    · obtain ⟨sm, eD⟩ := u
      rw [List.length_map, lT] at eD
      refine ⟨D, _, rfl, .inl (.inl eD), ?_⟩
      rw [all_id]
      exact q _ _ (s1.trans sm) ((all_lh lows highs tops.length).trans (FF.had rok okS hst))
/-- an idle rule -/
def idleR (tops : List Int) : Rl := ((0, true, 0), (0, false, plc tops 0))
def spPad : Sp := fun vs H Q _ => ∃ (p t R : Addr) (tops : List Int) (rs : List Rl) (c : Nat), vs = [.ref p, .ref t, .ref R] ∧ PotAt H p c ∧ c < 900000 ∧ H t = some (.tup (tops.map V.int)) ∧ 1 ≤ tops.length ∧ (∀ i, i < tops.length → 0 ≤ plc tops i) ∧ RulesAt H R rs ∧ rs.length ≤ 16 ∧
  ∀ H' R' rs', But p H H' → PotAt H' p (c + 1) → RulesAt H' R' rs' → rs'.length ≤ 40 → (∀ q ∈ rs', q = idleR tops ∨ q ∈ rs) → Q (.ref R') H'
abbrev a__law_padded : Stmt := topS 81
abbrev n__law_padded : List Str := ["_law_pot_here", "_law_tops", "_law_rules_here", "_law_idle", "_law_few"]
theorem sc__law_padded : FnScope n__law_padded ["_law_pot_here", "_law_tops", "_law_rules_here"] (defScope a__law_padded) := ⟨rfl, rfl, rfl, by decide +kernel, rfl, by decide +kernel, by decide +kernel⟩
set_option maxHeartbeats 8000000 in
theorem ok__law_padded {f fTT : Addr} {fd fdTT : FuncData} {k : Nat}  (F : Fun K "_law_padded" "_law_padded" a__law_padded f fd) (TT : Kn P w K mg base 1 "_law_take" ["_law_pot_here", "_law_many"] spTake fTT fdTT)  (m_len : mg "len" = none) : FnOk P w K mg base CX0 (k + 2) f fd ["_law_pot_here", "_law_tops", "_law_rules_here"] spPad := by
  refine F.ok sc__law_padded (fun vs H Q E h => ?_) (fun cdv A outer s H vs Q E hr h => ?_)
  · obtain ⟨p, t, R, tops, rs, c, rfl, _⟩ := h
    rfl
  · obtain ⟨p, t, R, tops, rs, c, rfl, pp, hc, et, l1, pl, hR, l16, q⟩ := h
    refine ⟨_, (pss_cons (ps_if (pt_cmpR op_gt (pe_kn TT hr (by omega) (pa_cons (pv 0) (pa_cons pe_int pa_nil))) pe_int (nomark _)) (pss_one (ps_ret (pv 2))) pss_nil)
      (pss_cons (ps_par (i := 3) (j := 4) (by rfl) sc__law_padded.nd rfl rfl (by decide) rfl rfl (pa_cons (pe_tup (pa_cons (pe_tup (pa_cons (pe_tup (pa_cons pe_int (pa_cons pe_str (pa_cons pe_int pa_nil)))) (pa_cons (pe_tup (pa_cons pe_int (pa_cons pe_str (pa_cons (pe_ix ix_tup (pv 1) pe_int (fun _ _ => rfl)) pa_nil)))) pa_nil))) pa_nil)) (pa_cons (pe_slice (r := rSlA K) sl_tupA (pv 2) po_none (po_some pe_int)) pa_nil)) (by rfl))
      (pss_one (ps_ret (pe_op (r := rCatA K) op_catA (pe_op (op_repT (X := _)) (pv 3) (pe_op op_sub pe_int (pe_callB call_len_seq (by rfl) m_len (by decide +kernel) (pa_cons (pv 4) pa_nil)))) (pv 4)))))), ?_⟩
    refine ⟨_, rfl, p, _, c, rfl, pp, by omega, by decide, by omega, fun d H1 b1 p1 d0 d1 => ?_⟩
    have k1 := Keep.but b1 pp
    have hR1 := hR.keep k1
    have et1 := k1.tup et
    refine ⟨_, _, rfl, rfl, _, rfl, ite2 (fun c1 => ?_) (fun c1 => ?_)⟩
    · exact ⟨_, rfl, q _ R rs b1 p1 hR1 (by omega) fun q hq => .inr hq⟩
    · have w3 : (3 : Nat) ≤ sizeLine := by decide
      have w2 : (2 : Nat) ≤ sizeLine := by decide
      have w1 : (1 : Nat) ≤ sizeLine := by decide
      have at0 : atI (tops.map V.int) 0 = some (.int (plc tops 0)) := by
        rw [plc_get (i := 0) (by omega)]
        show atI _ ((0 : Nat) : Int) = _
        exact at_int (by omega)
      refine ⟨w3, fun T1 n1 => ?_⟩
      have s1 := same_new (o := HO.tup [.int 0, .str (Str.ofString "from"), .int 0]) n1
      refine ⟨.ref t, rfl, t, _, 0, _, rfl, rfl, .inl (.inl (s1 _ _ et1)), at0, w3, fun T2 n2 => ?_⟩
      have s2 := same_new (o := HO.tup [.int 0, .str (Str.ofString "to"), .int (plc tops 0)]) n2
      refine ⟨w2, fun T3 n3 => ?_⟩
      have s3 := same_new (o := HO.tup [.ref T1, .ref T2]) n3
      refine ⟨w1, fun T4 n4 => ?_⟩
      have s4 := same_new (o := HO.tup [.ref T3]) n4
      have s14 := (s1.trans s2).trans (s3.trans s4)
      have rT : RuleAt (upd (upd (upd (upd H1 T1 (.tup [.int 0, .str (Str.ofString "from"), .int 0])) T2 (.tup [.int 0, .str (Str.ofString "to"), .int (plc tops 0)])) T3 (.tup [.ref T1, .ref T2])) T4 (.tup [.ref T3])) T3 (idleR tops) := ⟨T1, T2, s4 _ _ upd_same, s4 _ _ (s3 _ _ (s2 _ _ upd_same)), s4 _ _ (s3 _ _ upd_same)⟩
      have e4 : (upd (upd (upd (upd H1 T1 (.tup [.int 0, .str (Str.ofString "from"), .int 0])) T2 (.tup [.int 0, .str (Str.ofString "to"), .int (plc tops 0)])) T3 (.tup [.ref T1, .ref T2])) T4 (.tup [.ref T3])) T4 = some (.tup [.ref T3]) := upd_same
      generalize (upd (upd (upd (upd H1 T1 (.tup [.int 0, .str (Str.ofString "from"), .int 0])) T2 (.tup [.int 0, .str (Str.ofString "to"), .int (plc tops 0)])) T3 (.tup [.ref T1, .ref T2])) T4 (.tup [.ref T3])) = H4 at s14 rT e4 ⊢
      refine ⟨.ref R, rfl, _, rfl, slice_any (c := 8) (hR1.keep (.same s14)) fun Fw H5 s5 hF => ?_⟩
      obtain ⟨bs, eb, lb, hb⟩ := id hF
      have l8 : bs.length ≤ 8 := by rw [lb, List.length_take]; omega
      refine ⟨_, _, rfl, .ref T4, rfl, .ref Fw, rfl, Fw, _, rfl, .inr (.inl (.inl eb)), _, _, rfl, rfl, T4, _, [.ref T3], rfl, rfl, .inl (.inl (s5 _ _ e4)), (fun z => by cases z), ?_, ?_, by simp, fun p6 n6 => ?_⟩
      · rw [List.length_map]
        omega
      · rw [List.length_map]
        omega
      have en : ((40 : Int) - (((bs.map V.ref).length : Nat) : Int)).toNat = 40 - bs.length := by
        rw [List.length_map]
        omega
      rw [en]
      have ef : ∀ n : Nat, (List.replicate n [V.ref T3]).flatten = (List.replicate n T3).map V.ref := fun n => by
        induction n with
        | zero => rfl
        | succ n ih =>
          rw [List.replicate_succ, List.flatten_cons, ih, List.replicate_succ]
          rfl
      rw [ef]
      have s6 := same_new (o := HO.tup ((List.replicate (40 - bs.length) T3).map V.ref)) n6
      have hI : RulesAt (upd H5 p6 (HO.tup ((List.replicate (40 - bs.length) T3).map V.ref))) p6 (List.replicate (40 - bs.length) (idleR tops)) := ⟨_, upd_same, by rw [List.length_replicate, List.length_replicate], fun i r q h1 h2 => by
        have e1 : r = T3 := (List.mem_replicate.mp (List.mem_of_getElem? h1)).2
        have e2 : q = idleR tops := (List.mem_replicate.mp (List.mem_of_getElem? h2)).2
        rw [e1, e2]
        exact rT.keep (.same (s5.trans s6))⟩
      refine ⟨.ref Fw, rfl, cat_rules hI (hF.keep (.same s6)) (by rw [List.length_replicate, ← lb]; omega) fun g7 H7 s7 h7 => ?_⟩
      have s17 := s14.trans (s5.trans (s6.trans s7))
      refine q _ g7 _ (b1.trans (.of s17)) (p1.keep s17) h7 (by rw [List.length_append, List.length_replicate, ← lb]; omega) fun q hq => ?_
      rcases List.mem_append.mp hq with hq | hq
      · exact .inl (List.mem_replicate.mp hq).2
      · exact .inr (List.mem_of_mem_take hq)
def spNS : Sp := fun vs H Q _ => ∃ (p t R : Addr) (tops : List Int) (rs : List Rl) (c : Nat), vs = [.ref p, .ref t, .ref R] ∧ PotAt H p c ∧ c < 900000 ∧ H t = some (.tup (tops.map V.int)) ∧ Pl tops ∧ 1 ≤ tops.length ∧ tops.length ≤ 12 ∧ RulesAt H R rs ∧ rs.length ≤ 40 ∧
  ∀ H' g s, But p H H' → PotAt H' p (c + 5) → SideAt H' g s → SideOk tops s → Q (.ref g) H'
abbrev a__law_near_side : Stmt := topS 82
abbrev n__law_near_side : List Str := ["_law_pot_here", "_law_tops", "_law_rules_here", "_law_thing", "_law_places", "_law_rule", "_law_place", "_law_other", "_law_word"]
theorem sc__law_near_side : FnScope n__law_near_side ["_law_pot_here", "_law_tops", "_law_rules_here"] (defScope a__law_near_side) := ⟨rfl, rfl, rfl, by decide +kernel, rfl, by decide +kernel, by decide +kernel⟩
set_option maxHeartbeats 8000000 in
theorem ok__law_near_side {f fTT fOO : Addr} {fd fdTT fdOO : FuncData} {k : Nat}  (F : Fun K "_law_near_side" "_law_near_side" a__law_near_side f fd) (TT : Kn P w K mg base 1 "_law_take" ["_law_pot_here", "_law_many"] spTake fTT fdTT) (OO : Kn P w K mg base 2 "_law_of" ["_law_pot_here", "_law_some"] (spOf K) fOO fdOO)  (m_len : mg "len" = none) (m_max : mg "max" = none) (m_min : mg "min" = none) : FnOk P w K mg base CX0 (k + 3) f fd ["_law_pot_here", "_law_tops", "_law_rules_here"] spNS := by
  refine F.ok sc__law_near_side (fun vs H Q E h => ?_) (fun cdv A outer s H vs Q E hr h => ?_)
  · obtain ⟨p, t, R, tops, rs, c, rfl, _⟩ := h
    rfl
  · obtain ⟨p, t, R, tops, rs, c, rfl, pp, hc, et, pl, l1, l12, hR, l40, q⟩ := h
    refine ⟨_, (pss_cons (ps_set (i := 3) sc__law_near_side.nd rfl (.inr rfl) (pe_kn TT hr (by omega) (pa_cons (pv 0) (pa_cons (pe_callB call_len_seq (by rfl) m_len (by decide +kernel) (pa_cons (pv 1) pa_nil)) pa_nil))))
      (pss_cons (ps_set (i := 4) sc__law_near_side.nd rfl (.inl rfl) (pe_lst (pa_cons pe_int (pa_cons (pe_ix ix_tup (pv 1) (pv 3) (fun _ _ => rfl)) (pa_cons (pe_kn TT hr (by omega) (pa_cons (pv 0) (pa_cons (pe_op op_add (pe_ix ix_tup (pv 1) (pv 3) (fun _ _ => rfl)) pe_int) pa_nil))) pa_nil)))))
      (pss_cons (ps_for PassesOwn.never rfl (pi_tup (pv 2)) (pg_name (i := 5) sc__law_near_side.nd rfl (.inl rfl))
        (pss_one (ps_expr (pe_bm PySem.F.plainAttrs_list PySem.F.slot_list_extend PySem.F.type_list_extend mt_extend (pv 4) (pa_cons (
        pe_lc (own := [("_law_other", 7), ("_law_word", 8), ("_law_place", 6)]) (g := (gTup K 3 (gCons (gName 7) (gCons (gName 8) (gCons (gName 6) gNil))))) (tt := (tTest (tOp rEq (tVar 7) (tVar 3)))) (te := (tVar 6)) rfl sc__law_near_side.nd (pi_tup (pv 5)) (blkOk_by (N := n__law_near_side) (sc := defScope a__law_near_side) (by decide +kernel))
          (fun _ _ _ _ _ => (pg_tup rfl (pgs_cons (pg_name (i := 7) sc__law_near_side.nd rfl (.inl rfl) (hf := .inr rfl)) (pgs_cons (pg_name (i := 8) sc__law_near_side.nd rfl (.inl rfl) (hf := .inr rfl)) (pgs_cons (pg_name (i := 6) sc__law_near_side.nd rfl (.inl rfl) (hf := .inr rfl)) pgs_nil))))) (fun _ _ _ _ _ => pts_one (pt_cmpR op_eq (pv 7) (pv 3) (nomark _))) (fun _ _ _ _ _ => (pv 6))) pa_nil)))))
      (pss_cons (ps_set (i := 6) sc__law_near_side.nd rfl (.inl rfl) (pe_op op_sub (pe_op op_add (pe_kn OO hr (by omega) (pa_cons (pv 0) (pa_cons (pv 4) pa_nil))) (pe_kn TT hr (by omega) (pa_cons (pv 0) (pa_cons pe_int pa_nil)))) pe_int))
      (pss_one (ps_ret (pe_tup (pa_cons (pv 3) (pa_cons (pe_kn OO hr (by omega) (pa_cons (pv 0) (pa_cons (pe_lst (pa_cons pe_str (pa_cons pe_str pa_nil))) pa_nil))) (pa_cons (pe_callB (call_max2 rfl) (by rfl) m_max (by decide +kernel) (pa_cons pe_int (pa_cons (pe_callB (call_min2 rfl) (by rfl) m_min (by decide +kernel) (pa_cons (pv 6) (pa_cons (pe_ix ix_tup (pv 1) (pv 3) (fun _ _ => rfl)) pa_nil))) pa_nil))) pa_nil)))))))))), ?_⟩
    have w3 : (3 : Nat) ≤ sizeLine := by decide
    have w2 : (2 : Nat) ≤ sizeLine := by decide
    refine ⟨_, rfl, _, rfl, t, _, rfl, .inr (.inl (.inl et)), p, _, c, rfl, pp, by rw [List.length_map]; omega, Int.lt_of_le_of_lt (show ((tops.map V.int).length : Int) ≤ 12 by rw [List.length_map]; omega) (by decide), by omega, fun d H1 b1 p1 d0 d1 => ?_⟩
    rw [List.length_map] at d1
    obtain ⟨d, rfl⟩ : ∃ i : Nat, d = i := ⟨d.toNat, by omega⟩
    have ld : d < tops.length := by omega
    have k1 := Keep.but b1 pp
    have et1 := k1.tup et
    have hR1 := hR.keep k1
    have at1 : atI (tops.map V.int) (d : Int) = some (.int (plc tops d)) := by
      rw [plc_get ld]
      exact at_int ld
    have bt := pl _ (List.getElem_mem ld)
    rw [← plc_get ld] at bt
    refine ⟨.ref t, rfl, _, rfl, t, _, d, _, rfl, rfl, .inl (.inl et1), at1, _, rfl, .ref t, rfl, _, rfl, t, _, d, _, rfl, rfl, .inl (.inl et1), at1, _, _, rfl, rfl, p, _, c + 1, rfl, p1, by omega, Int.lt_of_le_of_lt (show plc tops d + 1 ≤ 10 ^ 30 by omega) (by decide), by omega, fun d2 H2 b2 p2 e0 e1 => ⟨w3, fun l nl => ?_⟩⟩
    have k2 := Keep.but b2 p1
    have et2 := k2.tup et1
    have hR2 := hR1.keep k2
    have s3 := same_new (o := HO.lst [.int 0, .int (plc tops d), .int d2]) nl
    have el : (upd H2 l (HO.lst [.int 0, .int (plc tops d), .int d2])) l = some (.lst (([0, plc tops d, d2] : List Int).map V.int)) := upd_same
    have lp : l ≠ p := fun z => by
      obtain ⟨_, _, _, e, _⟩ := p2
      rw [← z, nl] at e
      cases e
    generalize (upd H2 l (HO.lst [.int 0, .int (plc tops d), .int d2])) = H3 at s3 el ⊢
    obtain ⟨as, eas, la, ha⟩ := hR2
    refine ⟨.ref R, rfl, R, rfl, ⟨_, .inl (.inl (s3 _ _ eas))⟩, for_it (walk_tup (xs := as.map V.ref)) (fun j σ H' => ∃ (u5 u6 : Option V) (xs : List Int), σ = [some (.ref p), some (.ref t), some (.ref R), some (.int d), some (.ref l), u5, u6, none, none] ∧ Same H2 H' ∧ H' l = some (.lst (xs.map V.int)) ∧ 1 ≤ xs.length ∧ xs.length ≤ 3 + 2 * j) ⟨_, _, _, rfl, s3, el, by simp, by simp⟩ (fun j σ H' _ y => by obtain ⟨_, _, _, _, s, _⟩ := y; exact .inl (.inl (s _ _ eas))) (fun j v σ H4 H5 hj y z => ?_) (fun σ H4 y => ?_)⟩
    · obtain ⟨u5, u6, xs, rfl, s4, el4, lx, ux⟩ := y
      obtain ⟨rfl, gv⟩ := z
      obtain ⟨r, er, rfl⟩ := mapGet gv
      have hj' : j < rs.length := by rw [List.length_map, la] at hj; exact hj
      obtain ⟨q1, q2, eR0, h10, h20⟩ := ha j r _ er (List.getElem?_eq_getElem hj')
      have eR4 := s4 _ _ eR0
      refine ⟨.ref l, rfl, .inl ⟨rfl, _, .inl (.inl el4)⟩, .ref r, rfl, r, rfl, ⟨_, .inl (.inl eR4)⟩, fun D nD => lc_it (walk_tup (xs := [V.ref q1, V.ref q2])) (fun i H' => Same H5 H' ∧ ∃ ys : List Int, H' D = some (.lst (ys.map V.int)) ∧ ys.length ≤ i) ⟨same_new nD, [], upd_same, Nat.le_refl _⟩ (fun i H' _ u => .inl (.inl (u.1 _ _ eR4))) (fun i v' H6 H7 hi u z => ?_) (fun H6 u => ?_)⟩
      · obtain ⟨s6, ys, eD, ly⟩ := u
        obtain ⟨rfl, gv⟩ := z
        have hi2 : i < 2 := hi
        obtain ⟨pj, sj, rfl, hsj⟩ : ∃ (pj : Addr) (sj : Sd), v' = .ref pj ∧ SideAt H7 pj sj := by
          have : i = 0 ∨ i = 1 := by omega
          rcases this with rfl | rfl
          · exact ⟨q1, _, (Option.some.inj gv).symm, s6 _ _ (s4 _ _ h10)⟩
          · exact ⟨q2, _, (Option.some.inj gv).symm, s6 _ _ (s4 _ _ h20)⟩
        obtain ⟨n, b, x⟩ := sj
        have hsj' : H7 pj = some (.tup [.int (n : Int), .str (word b), .int x]) := hsj
        refine ⟨pj, _, rfl, .inl (.inl hsj'), rfl, _, _, rfl, _, _, rfl, _, _, rfl, rfl, wipe_seq3, _, rfl, _, rfl, rfl, _, rfl, ite2 (fun c => ?_) (fun c => ?_)⟩
        · refine ⟨_, rfl, ys.map V.int, eD, by rw [List.length_map]; exact small1000 (by omega), same_over s6 nD, ys ++ [x], by rw [upd_same, List.map_append]; rfl, by rw [List.length_append]; exact Nat.add_le_add ly (Nat.le_refl 1)⟩
        · exact ⟨s6, ys, eD, by omega⟩
      · obtain ⟨s6, ys, eD, ly⟩ := u
        have ly' : ys.length ≤ 2 := ly
        refine ⟨l, D, _, _, rfl, rfl, s6 _ _ el4, eD, by rw [List.length_map, List.length_map]; exact Nat.le_of_lt (small1000 (by omega)), _, _, xs ++ ys, rfl, same_over (s4.trans s6) nl, by rw [upd_same, List.map_append], by rw [List.length_append]; omega, by rw [List.length_append]; omega⟩
    · obtain ⟨u5, u6, xs, rfl, s4, el4, lx, ux⟩ := y
      rw [List.length_map, la] at ux
      refine ⟨_, rfl, _, rfl, p, l, xs.map V.int, c + 2, rfl, p2.keep s4, lp, .inl (.inl (.inl el4)), by rw [List.length_map]; omega, by rw [List.length_map]; omega, by omega, fun x H5 mx b5 p5 => ?_⟩
      obtain ⟨x, -, rfl⟩ := List.mem_map.mp mx
      refine ⟨_, rfl, p, _, _, rfl, p5, by decide, by decide, by omega, fun y H6 b6 p6 y0 y1 => ⟨_, _, rfl, rfl, _, _, rfl, rfl, ?_⟩⟩
      refine ⟨_, rfl, _, rfl, w2, fun l2 nl2 => ?_⟩
      have s7 := same_new (o := HO.lst [.str (Str.ofString "from"), .str (Str.ofString "to")]) nl2
      have lp2 : l2 ≠ p := fun z => by
        obtain ⟨_, _, _, e, _⟩ := p6
        rw [← z, nl2] at e
        cases e
      have et6 := (((Keep.same s4).trans (Keep.but b5 (p2.keep s4))).trans (Keep.but b6 p5)).tup et2
      refine ⟨p, l2, _, _, rfl, p6.keep s7, lp2, .inl (.inl (.inl upd_same)), (show 1 ≤ 2 by decide), (show 2 ≤ 1000000 by decide), by omega, fun wv H8 mw b8 p8 => ?_⟩
      obtain ⟨b, rfl⟩ := words_mem mw
      have et8 := (Keep.but b8 (p6.keep s7)).tup (s7 _ _ et6)
      refine ⟨_, rfl, .ref t, rfl, _, rfl, t, _, d, _, rfl, rfl, .inl (.inl et8), at1, _, _, rfl, _, _, rfl, w3, fun g ng => ?_⟩
      have s9 := same_new (o := HO.tup [.int (d : Int), .str (word b), .int (if (if plc tops d < x + y - 1 then plc tops d else x + y - 1) > 0 then (if plc tops d < x + y - 1 then plc tops d else x + y - 1) else 0)]) ng
      have bAll : But p H1 H8 := b2.trans ((But.of s4).trans (b5.trans (b6.trans ((But.of s7).trans b8))))
      refine q _ g (d, b, if (if plc tops d < x + y - 1 then plc tops d else x + y - 1) > 0 then (if plc tops d < x + y - 1 then plc tops d else x + y - 1) else 0) (b1.trans (bAll.trans (.of s9))) (p8.keep s9) upd_same (SideOk.mk' ld ?_ ?_)
      · split <;> omega
      · split
        · split <;> omega
        · omega
end
end K16

set_option Elab.async false
set_option linter.all false
set_option maxRecDepth 100000
namespace K16
open PySem PySem.Spec PyProof.Rows L2 NB

/-! ### the first place at which a want can be had: the law -/
/-- a want with one side more, that some good standing has -/
def HadS (tops : List Int) (rs : List Rl) (Ls : List (Addr × Sd)) (s : Sd) : Prop := ∃ st ∈ goods tops rs, (∀ y, y ∈ Ls.map (·.2) → inB st y = true) ∧ inB st s = true
theorem had_snoc {tops : List Int} {rs : List Rl} {Ls : List (Addr × Sd)} {z : Addr × Sd} : Had tops rs (Ls ++ [z]) ↔ HadS tops rs Ls z.2 := by
  unfold Had HadS
  constructor
  · rintro ⟨st, hg, h⟩
    refine ⟨st, hg, fun y hy => h y ?_, h z.2 ?_⟩
    · rw [List.map_append]
      exact List.mem_append_left _ hy
    · rw [List.map_append]
      exact List.mem_append_right _ (by simp)
  · rintro ⟨st, hg, h, hz⟩
    refine ⟨st, hg, fun y hy => ?_⟩
    rw [List.map_append] at hy
    rcases List.mem_append.mp hy with hy | hy
    · exact h y hy
    · rw [show y = z.2 by simpa using hy]
      exact hz
section
variable {P : Program} {w : World} {K : PySem.W.Frag} {mg : Str → Option Value} {base : Heap}
def spFi (K : PySem.W.Frag) : Sp := fun vs H Q _ => ∃ (t R g sp l : Addr) (tops st : List Int) (rs : List Rl) (Ls : List (Addr × Sd)) (n : Nat) (b : Bool) (xs : List Int) (k : Nat), vs = [.ref t, .ref R, .ref g, .ref sp, .ref l] ∧ H t = some (.tup (tops.map V.int)) ∧ RulesAt H R rs ∧ SqT K H g (sdR Ls) ∧ SdsAt H Ls ∧ (∀ z ∈ Ls, SideOk tops z.2) ∧ (∀ q ∈ rs, RuleOk tops q) ∧ (∀ i, i < tops.length → 0 ≤ plc tops i) ∧ tops.length ≤ 12 ∧ st ∈ goods tops rs ∧ Ls.length ≤ 200 ∧
  H sp = some (.tup [.int (n : Int), .str (word b)]) ∧ H l = some (.lst (xs.map V.int)) ∧ (∀ x ∈ xs, SideOk tops (n, b, x)) ∧ k < xs.length ∧ xs.length ≤ 500 ∧ (∀ j, j < xs.length → (HadS tops rs Ls (n, b, plc xs j) ↔ k ≤ j)) ∧
  ∀ H', Same H H' → Q (.int (plc xs k)) H'
abbrev a__law_first : Stmt := topS 83
abbrev n__law_first : List Str := ["_law_tops", "_law_rules_here", "_law_want", "_law_side", "_law_places", "_law_at", "_law_last", "_law_half"]
theorem sc__law_first : FnScope n__law_first ["_law_tops", "_law_rules_here", "_law_want", "_law_side", "_law_places"] (defScope a__law_first) := ⟨rfl, rfl, rfl, by decide +kernel, rfl, by decide +kernel, by decide +kernel⟩
set_option maxHeartbeats 8000000 in
theorem ok__law_first {f fKLc : Addr} {fd fdKLc : FuncData} {k : Nat}  (F : Fun K "_law_first" "_law_first" a__law_first f fd) (KLc : Kn P w K mg base 4 "_law_can" ["_law_tops", "_law_rules_here", "_law_want"] (spCan K) fKLc fdKLc)  (m_len : mg "len" = none) : FnOk P w K mg base CX0 (k + 5) f fd ["_law_tops", "_law_rules_here", "_law_want", "_law_side", "_law_places"] (spFi K) := by
  refine F.ok sc__law_first (fun vs H Q E h => ?_) (fun cdv A outer s H vs Q E hr h => ?_)
  · obtain ⟨t, R, g, sp, l, tops, st, rs, Ls, n, b, xs, k', rfl, _⟩ := h
    rfl
  · obtain ⟨t, R, g, sp, l, tops, st, rs, Ls, n, b, xs, k', rfl, et, hR, eg, hL, okS, rok, pl, l12, hst, lS, esp, el, okx, lk, l500, hh, q⟩ := h
    refine ⟨_, (pss_cons (ps_par (i := 5) (j := 6) (by rfl) sc__law_first.nd rfl rfl (by decide) rfl rfl (pa_cons pe_int (pa_cons (pe_op op_sub (pe_callB call_len_seq (by rfl) m_len (by decide +kernel) (pa_cons (pv 4) pa_nil)) pe_int) pa_nil)) (by rfl))
      (pss_cons (ps_while PassesOwn.never (pt_cmpR op_lt (pv 5) (pv 6) (nomark _))
        (pss_cons (ps_set (i := 7) sc__law_first.nd rfl (.inl rfl) (pe_op op_fdiv (pe_op op_add (pv 5) (pv 6)) pe_int))
      (pss_one (ps_if (pt_val (pe_kn KLc hr (by omega) (pa_cons (pv 0) (pa_cons (pv 1) (pa_cons (pe_op (r := rCatA K) op_catA (pv 2) (pe_tup (pa_cons (pe_op (r := rCatA K) op_catA (pv 3) (pe_tup (pa_cons (pe_ix ix_list (pv 4) (pv 7) (fun _ _ => rfl)) pa_nil))) pa_nil))) pa_nil))))) (pss_one (ps_set (i := 6) sc__law_first.nd rfl (.inl rfl) (pv 7))) (pss_one (ps_set (i := 5) sc__law_first.nd rfl (.inl rfl) (pe_op op_add (pv 7) pe_int)))))))
      (pss_one (ps_ret (pe_ix ix_list (pv 4) (pv 5) (fun _ _ => rfl)))))), ?_⟩
    have w1 : (1 : Nat) ≤ sizeLine := by decide
    refine ⟨.ref l, rfl, l, _, rfl, .inl (.inl (.inl el)), _, _, rfl, rfl, _, _, rfl, ?_⟩
    refine ⟨fun m σ H' => ∃ (a c : Nat) (u7 : Option V), σ = [some (.ref t), some (.ref R), some (.ref g), some (.ref sp), some (.ref l), some (.int a), some (.int c), u7] ∧ m = c - a ∧ a ≤ k' ∧ k' ≤ c ∧ c < xs.length ∧ Same H H', ⟨_, 0, xs.length - 1, none, ?_, rfl, Nat.zero_le _, by omega, by omega, Same.refl _⟩, fun m σ H1 W => ?_⟩
    · rw [List.length_map, show ((xs.length - 1 : Nat) : Int) = (xs.length : Int) - 1 by omega]
      rfl
    obtain ⟨a, c, u7, rfl, em, ak, kc, cl, s1⟩ := W
    refine ⟨_, rfl, _, rfl, _, _, rfl, rfl, _, rfl, ite2 (fun z => ?_) (fun z => ?_)⟩
    · have z' : (a : Int) < (c : Int) := of_decide_eq_true z
      have lt : a < c := by omega
      have eh : ((a : Int) + (c : Int)) / 2 = (((a + c) / 2 : Nat) : Int) := by omega
      have lh : (a + c) / 2 < xs.length := by omega
      generalize em2 : (a + c) / 2 = h at eh lh
      have ath : atI (xs.map V.int) (((a : Int) + (c : Int)) / 2) = some (.int (plc xs h)) := by
        rw [eh, plc_get lh]
        exact at_int lh
      have okh : SideOk tops (n, b, plc xs h) := by
        rw [plc_get lh]
        exact okx _ (List.getElem_mem lh)
      refine ⟨_, fun _ _ h => h, ?_⟩
      refine ⟨_, rfl, _, rfl, _, _, rfl, rfl, _, _, rfl, rfl, ⟨by decide, by decide⟩, ?_⟩
      refine ⟨.ref t, rfl, .ref R, rfl, .ref g, rfl, .ref sp, rfl, .ref l, rfl, _, rfl, l, _, _, _, rfl, rfl, .inl (.inl (s1 _ _ el)), ath, w1, fun T1 n1 => ?_⟩
      have s2 := same_new (o := HO.tup [.int (plc xs h)]) n1
      refine cat_tups (s2 _ _ (s1 _ _ esp)) upd_same (show 3 ≤ sizeLine by decide) fun T2 H2 s3 e2 => ⟨w1, fun T3 n3 => ?_⟩
      have s4 := same_new (o := HO.tup [.ref T2]) n3
      have s14 := s1.trans (s2.trans (s3.trans s4))
      refine cat_sq (a := g) (b := T3) (xs := sdR Ls) (ys := sdR [(T2, (n, b, plc xs h))]) (sameT s14 eg) (.inl (.inl upd_same)) ?_ fun G H3 s5 eG => ?_
      · show (Ls.map fun z => V.ref z.1).length + 1 ≤ 1000
        rw [List.length_map]
        omega
      have s15 := s14.trans s5
      have eG' : SqT K H3 G (sdR (Ls ++ [(T2, (n, b, plc xs h))])) := by
        rw [show sdR (Ls ++ [(T2, (n, b, plc xs h))]) = sdR Ls ++ sdR [(T2, (n, b, plc xs h))] from List.map_append ..]
        exact eG
      refine ⟨t, R, G, tops, st, rs, Ls ++ [(T2, (n, b, plc xs h))], rfl, s15 _ _ et, hR.keep (.same s15), eG', (hL.keep (.same s15)).snoc (s5 _ _ (s4 _ _ e2)), fun z hz => ?_, rok, pl, l12, hst, fun H4 r s6 hr' => ⟨r, rfl, ite2 (fun c1 => ?_) (fun c1 => ?_)⟩⟩
      · rcases List.mem_append.mp hz with hz | hz
        · exact okS z hz
        · rw [show z = (T2, (n, b, plc xs h)) by simpa using hz]
          exact okh
      · have kh := (hh h lh).mp (had_snoc.mp (hr'.mp c1))
        refine ⟨_, rfl, h - a, by omega, a, h, some (.int (((a : Int) + (c : Int)) / 2)), ?_, rfl, ak, kh, lh, s15.trans s6⟩
        rw [← eh]
        rfl
      · have kh : ¬ k' ≤ h := fun z => c1 (hr'.mpr (had_snoc.mpr ((hh h lh).mpr z)))
        refine ⟨_, rfl, _, _, rfl, rfl, c - (h + 1), by omega, h + 1, c, some (.int (((a : Int) + (c : Int)) / 2)), ?_, rfl, by omega, kc, cl, s15.trans s6⟩
        rw [show ((h + 1 : Nat) : Int) = ((a : Int) + (c : Int)) / 2 + 1 by omega]
        rfl
    · have z' : ¬ (a : Int) < (c : Int) := fun y => z (decide_eq_true y)
      have e : a = k' := by omega
      subst e
      refine ⟨.ref l, rfl, _, rfl, l, _, _, _, rfl, rfl, .inl (.inl (s1 _ _ el)), ?_, q _ s1⟩
      rw [plc_get lk]
      exact at_int lk
end
end K16

set_option Elab.async false
set_option linter.all false
set_option maxRecDepth 100000
namespace K16
open PySem PySem.Spec PyProof.Rows L2 NB

/-! ### the ends of what a want leaves: the law -/
theorem fol_monoH {tops : List Int} {rs : List Rl} {S T : Sd → Prop} (hST : ∀ s, S s → T s) {a b c d : List Int} (F : Fol tops rs S a b) (G : Fol tops rs T c d) {i : Nat} (hi : i < tops.length) : plc d i ≤ plc b i := by
  rcases F.h0 i hi with h | h
  · have := G.hz i hi
    omega
  · exact G.h1 i _ (h.mono hST)
theorem most_any {tops : List Int} {rs : List Rl} (rok : ∀ q ∈ rs, RuleOk tops q) (pl : ∀ i, i < tops.length → 0 ≤ plc tops i) {S : Sd → Prop} (hS : ∀ s, S s → SideOk tops s) (fS : ∀ s, Frc tops rs s → S s) {st : List Int} (hst : st ∈ goods tops rs) (ist : ∀ s, S s → inB st s = true) {lows highs : List Int} (F : Fol tops rs S lows highs) {i : Nat} (li : i < tops.length) :
    ∃ g ∈ goods tops rs, ∀ s, (S s ∨ s = (i, true, plc highs i)) → inB g s = true := by
  have cr := F.cross rok hS hst ist i li
  have z0 := F.lz i li
  have z1 := F.hz i li
  have okw : SideOk tops (i, true, plc highs i) := SideOk.mk' li (by omega) z1
  have lti : ∀ g ∈ goods tops rs, (inB g (i, true, plc highs i) = true ↔ plc highs i ≤ plc g i) := fun g hg => inFr (by rw [goods_len hg]; exact li)
  obtain ⟨a, b, F0⟩ := fol_ex rok pl (S := Frc tops rs) (fun s h => frc_ok rok h)
  obtain ⟨g0, hg0, e0⟩ := most_ex rok pl hst F0 li
  have le0 := fol_monoH fS F0 F li
  have h0 : inB g0 (i, true, plc highs i) = true := (lti g0 hg0).mpr (by omega)
  have one : ∀ s, S s → ∃ g ∈ goods tops rs, inB g s = true ∧ inB g (i, true, plc highs i) = true := fun s hs => by
    refine Classical.byContradiction fun no => ?_
    obtain ⟨z, rz, bz⟩ := led_two rok pl (hS s hs) okw ⟨st, hst, ist s hs⟩ ⟨g0, hg0, h0⟩ fun g hg ig => by
      cases e : inB g (i, true, plc highs i) with
      | false => rfl
      | true => exact absurd ⟨g, hg, ig, e⟩ no
    obtain ⟨q, rfl, lq⟩ := bars_from (rz.ok rok (fun t h => by rw [h]; exact hS s hs)) ⟨by omega, z1⟩ bz
    have := F.h1 i q (rz.mono fun t h => by rw [h]; exact hs)
    omega
  refine had_pairs rok pl hst (S := fun s => S s ∨ s = (i, true, plc highs i)) (fun s h => h.elim (hS s) (fun e => e ▸ okw)) fun s w hs hw => ?_
  rcases hs with hs | rfl <;> rcases hw with hw | rfl
  · exact ⟨st, hst, ist s hs, ist w hw⟩
  · exact one s hs
  · obtain ⟨g, hg, h1, h2⟩ := one w hw
    exact ⟨g, hg, h2, h1⟩
  · exact ⟨g0, hg0, h0, h0⟩
theorem gfst {f : Int → Int} (inj : ∀ a b, f a = f b → a = b) {v : Int} : ∀ {xs : List Int}, xs.Pairwise (fun a b => f a ≤ f b) → v ∈ xs → ∃ k, k < xs.length ∧ plc xs k = v ∧ ∀ j, j < xs.length → (f v ≤ f (plc xs j) ↔ k ≤ j)
  | [], _, h => absurd h List.not_mem_nil
  | a :: l, pw, h => by
    obtain ⟨pa, pl⟩ := List.pairwise_cons.mp pw
    by_cases c : f v ≤ f a
    · have e : a = v := by
        rcases List.mem_cons.mp h with e | m
        · exact e.symm
        · exact inj _ _ (Int.le_antisymm (pa v m) c)
      refine ⟨0, by simp, e, fun j hj => ⟨fun _ => Nat.zero_le _, fun _ => ?_⟩⟩
      cases j with
      | zero => exact c
      | succ j =>
        have lj : j < l.length := by simpa using hj
        have e2 : plc (a :: l) (j + 1) = l[j] := by
          show (a :: l).getD (j + 1) 0 = _
          rw [List.getD_eq_getElem?_getD, List.getElem?_cons_succ, List.getElem?_eq_getElem lj]
          rfl
        rw [e2]
        exact Int.le_trans c (pa _ (List.getElem_mem lj))
    · have m : v ∈ l := by
        rcases List.mem_cons.mp h with e | m
        · rw [e] at c
          exact absurd (Int.le_refl _) c
        · exact m
      obtain ⟨k, lk, ek, hk⟩ := gfst inj pl m
      refine ⟨k + 1, by simpa using lk, ek, fun j hj => ?_⟩
      cases j with
      | zero => exact ⟨fun h => absurd h c, fun h => absurd h (by omega)⟩
      | succ j => exact (hk j (by simpa using hj)).trans ⟨fun h => by omega, fun h => by omega⟩
/-- the want and what is forced -/
def WF (tops : List Int) (rs : List Rl) (Ls : List (Addr × Sd)) (s : Sd) : Prop := s ∈ Ls.map (·.2) ∨ Frc tops rs s
theorem wf_ok {tops : List Int} {rs : List Rl} (rok : ∀ q ∈ rs, RuleOk tops q) {Ls : List (Addr × Sd)} (okS : ∀ z ∈ Ls, SideOk tops z.2) : ∀ s, WF tops rs Ls s → SideOk tops s := fun s h => by
  rcases h with h | h
  · obtain ⟨z, hz, rfl⟩ := List.mem_map.mp h
    exact okS z hz
  · exact frc_ok rok h
theorem wf_in {tops : List Int} {rs : List Rl} (rok : ∀ q ∈ rs, RuleOk tops q) {Ls : List (Addr × Sd)} {g : List Int} (hg : g ∈ goods tops rs) (h : ∀ y, y ∈ Ls.map (·.2) → inB g y = true) : ∀ s, WF tops rs Ls s → inB g s = true := fun s w => by
  rcases w with w | w
  · exact h s w
  · exact w.2.in' rok hg (frc_ok rok w)
theorem wf_to {tops : List Int} {rs : List Rl} (rok : ∀ q ∈ rs, RuleOk tops q) (pl : ∀ i, i < tops.length → 0 ≤ plc tops i) {Ls : List (Addr × Sd)} (okS : ∀ z ∈ Ls, SideOk tops z.2) (had : Had tops rs Ls) {lows highs : List Int} (F : Fol tops rs (WF tops rs Ls) lows highs) {n : Nat} (ln : n < tops.length) (p : Int) : HadS tops rs Ls (n, false, p) ↔ plc lows n ≤ p := by
  constructor
  · rintro ⟨g, hg, h, hp⟩
    have := F.sound rok (wf_ok rok okS) hg (wf_in rok hg h) ln
    have hl := goods_len hg
    have := (inTo (by omega)).mp hp
    omega
  · intro le
    obtain ⟨st, hst, h⟩ := had
    obtain ⟨g, hg, hh⟩ := least_any rok pl (wf_ok rok okS) (fun s h => .inr h) hst (wf_in rok hst h) F ln
    have hl := goods_len hg
    refine ⟨g, hg, fun y hy => hh y (.inl (.inl hy)), (inTo (by omega)).mpr ?_⟩
    have := (inTo (i := n) (p := plc lows n) (by omega)).mp (hh _ (.inr rfl))
    omega
theorem wf_from {tops : List Int} {rs : List Rl} (rok : ∀ q ∈ rs, RuleOk tops q) (pl : ∀ i, i < tops.length → 0 ≤ plc tops i) {Ls : List (Addr × Sd)} (okS : ∀ z ∈ Ls, SideOk tops z.2) (had : Had tops rs Ls) {lows highs : List Int} (F : Fol tops rs (WF tops rs Ls) lows highs) {n : Nat} (ln : n < tops.length) (p : Int) : HadS tops rs Ls (n, true, p) ↔ p ≤ plc highs n := by
  constructor
  · rintro ⟨g, hg, h, hp⟩
    have := F.sound rok (wf_ok rok okS) hg (wf_in rok hg h) ln
    have hl := goods_len hg
    have := (inFr (by omega)).mp hp
    omega
  · intro le
    obtain ⟨st, hst, h⟩ := had
    obtain ⟨g, hg, hh⟩ := most_any rok pl (wf_ok rok okS) (fun s h => .inr h) hst (wf_in rok hst h) F ln
    have hl := goods_len hg
    refine ⟨g, hg, fun y hy => hh y (.inl (.inl hy)), (inFr (by omega)).mpr ?_⟩
    have := (inFr (i := n) (p := plc highs n) (by omega)).mp (hh _ (.inr rfl))
    omega
theorem wf_rule {tops : List Int} {rs : List Rl} {Ls : List (Addr × Sd)} {s : Sd} (h : Rea tops rs (WF tops rs Ls) s) : s ∈ Ls.map (·.2) ∨ RuleSd rs s := by
  cases h with
  | base h => exact h.imp_right (·.1)
  | step _ hb =>
    obtain ⟨q, hq, ⟨_, rfl⟩ | ⟨_, rfl⟩⟩ := led_iff.mp hb
    · exact .inr ⟨q, hq, .inr rfl⟩
    · exact .inr ⟨q, hq, .inl rfl⟩
section
variable {P : Program} {w : World} {K : PySem.W.Frag} {mg : Str → Option Value} {base : Heap}
theorem eqv_sw (a c : Int) (x y : Str) : (PyData.tuple [.int a, .str x]).eqv (.tuple [.int c, .str y]) = (decide (a = c) && decide (x = y)) := by
  simp only [PyData.eqv, PyData.eqvAll, Bool.and_true]
  congr 1
theorem shaped_sw (a : Int) (b : Bool) : SeqAt.shaped (.tuple [.int a, .str (word b)]) = true := by
  unfold SeqAt.shaped
  rw [Bool.and_eq_true, decide_eq_true_eq]
  refine ⟨?_, by simp [PyData.depth, PyData.depthAll]⟩
  have h : PyData.strOk (word b) = true := by
    cases b <;> decide +kernel
  simp [PyData.canLay0, PyData.canLayAll0, h]
def spEnds (K : PySem.W.Frag) : Sp := fun vs H Q _ => ∃ (t R g : Addr) (tops : List Int) (rs : List Rl) (Ls : List (Addr × Sd)) (n : Nat) (lows highs : List Int), vs = [.ref t, .ref R, .ref g, .int (n : Int)] ∧ H t = some (.tup (tops.map V.int)) ∧ RulesAt H R rs ∧ SqT K H g (sdR Ls) ∧ SdsAt H Ls ∧ (∀ z ∈ Ls, SideOk tops z.2) ∧ (∀ q ∈ rs, RuleOk tops q) ∧ (∀ i, i < tops.length → 0 ≤ plc tops i) ∧ tops.length ≤ 12 ∧ Ls.length ≤ 24 ∧ rs.length ≤ 40 ∧ n < tops.length ∧ Had tops rs Ls ∧ Fol tops rs (WF tops rs Ls) lows highs ∧
  ∀ H' e, Same H H' → H' e = some (.tup [.int (plc lows n), .int (plc highs n)]) → Q (.ref e) H'
abbrev a__law_ends : Stmt := topS 84
abbrev n__law_ends : List Str := ["_law_tops", "_law_rules_here", "_law_want", "_law_thing", "_law_lows", "_law_highs", "_law_side", "_law_low", "_law_one", "_law_two"]
theorem sc__law_ends : FnScope n__law_ends ["_law_tops", "_law_rules_here", "_law_want", "_law_thing"] (defScope a__law_ends) := ⟨rfl, rfl, rfl, by decide +kernel, rfl, by decide +kernel, by decide +kernel⟩
set_option maxHeartbeats 8000000 in
theorem ok__law_ends {f fKLf : Addr} {fd fdKLf : FuncData} {k : Nat}  (F : Fun K "_law_ends" "_law_ends" a__law_ends f fd) (KLf : Kn P w K mg base 5 "_law_first" ["_law_tops", "_law_rules_here", "_law_want", "_law_side", "_law_places"] (spFi K) fKLf fdKLf)  (m_list : mg "list" = none) (m_sorted : mg "sorted" = none) : FnOk P w K mg base CX0 (k + 6) f fd ["_law_tops", "_law_rules_here", "_law_want", "_law_thing"] (spEnds K) := by
  refine F.ok sc__law_ends (fun vs H Q E h => ?_) (fun cdv A outer s H vs Q E hr h => ?_)
  · obtain ⟨t, R, g, tops, rs, Ls, n, lows, highs, rfl, _⟩ := h
    rfl
  · obtain ⟨t, R, g, tops, rs, Ls, n, lows, highs, rfl, et, hR, eg, hL, okS, rok, pl, l12, lS, l40, ln, had, F0, q⟩ := h
    refine ⟨_, (pss_cons (ps_par (i := 4) (j := 5) (by rfl) sc__law_ends.nd rfl rfl (by decide) rfl rfl (pa_cons (pe_lst (pa_cons pe_int pa_nil)) (pa_cons (pe_lst (pa_cons (pe_ix ix_tup (pv 0) (pv 3) (fun _ _ => rfl)) pa_nil)) pa_nil)) (by rfl))
      (pss_cons (ps_for PassesOwn.never rfl (pi_list (pe_op op_cat (pe_op op_cat (pe_callTy call_list_of (by rfl) m_list (by decide +kernel) (pa_cons (pv 2) pa_nil)) (
        pe_lc (own := [("_law_one", 8), ("_law_two", 9)]) (g := (gTup K 2 (gCons (gName 8) (gCons (gName 9) gNil)))) (tt := tYes) (te := (tVar 8)) rfl sc__law_ends.nd (pi_tup (pv 1)) (blkOk_by (N := n__law_ends) (sc := defScope a__law_ends) (by decide +kernel))
          (fun _ _ _ _ _ => (pg_tup rfl (pgs_cons (pg_name (i := 8) sc__law_ends.nd rfl (.inl rfl) (hf := .inr rfl)) (pgs_cons (pg_name (i := 9) sc__law_ends.nd rfl (.inl rfl) (hf := .inr rfl)) pgs_nil)))) (fun _ _ _ _ _ => pts_nil) (fun _ _ _ _ _ => (pv 8)))) (
        pe_lc (own := [("_law_one", 8), ("_law_two", 9)]) (g := (gTup K 2 (gCons (gName 8) (gCons (gName 9) gNil)))) (tt := tYes) (te := (tVar 9)) rfl sc__law_ends.nd (pi_tup (pv 1)) (blkOk_by (N := n__law_ends) (sc := defScope a__law_ends) (by decide +kernel))
          (fun _ _ _ _ _ => (pg_tup rfl (pgs_cons (pg_name (i := 8) sc__law_ends.nd rfl (.inl rfl) (hf := .inr rfl)) (pgs_cons (pg_name (i := 9) sc__law_ends.nd rfl (.inl rfl) (hf := .inr rfl)) pgs_nil)))) (fun _ _ _ _ _ => pts_nil) (fun _ _ _ _ _ => (pv 9))))) (pg_name (i := 6) sc__law_ends.nd rfl (.inl rfl))
        (pss_one (ps_if (pt_cmpR (op_eqD hr.units) (pe_slice (r := rSlA K) sl_tupA (pv 6) po_none (po_some pe_int)) (pe_tup (pa_cons (pv 3) (pa_cons pe_str pa_nil))) (nomark _)) (pss_one (ps_expr (pe_bm PySem.F.plainAttrs_list PySem.F.slot_list_append PySem.F.type_list_append mt_append (pv 4) (pa_cons (pe_ix ix_tup (pv 6) pe_int (fun _ _ => rfl)) pa_nil)))) (pss_one (ps_if (pt_cmpR op_eq (pe_ix ix_tup (pv 6) pe_int (fun _ _ => rfl)) (pv 3) (nomark _)) (pss_one (ps_expr (pe_bm PySem.F.plainAttrs_list PySem.F.slot_list_append PySem.F.type_list_append mt_append (pv 5) (pa_cons (pe_ix ix_tup (pv 6) pe_int (fun _ _ => rfl)) pa_nil)))) pss_nil)))))
      (pss_cons (ps_set (i := 7) sc__law_ends.nd rfl (.inl rfl) (pe_kn KLf hr (by omega) (pa_cons (pv 0) (pa_cons (pv 1) (pa_cons (pv 2) (pa_cons (pe_tup (pa_cons (pv 3) (pa_cons pe_str pa_nil))) (pa_cons (pe_callB cr_sortedI (by rfl) m_sorted (by decide +kernel) (pa_cons (pv 4) pa_nil)) pa_nil)))))))
      (pss_one (ps_ret (pe_tup (pa_cons (pv 7) (pa_cons (pe_kn KLf hr (by omega) (pa_cons (pv 0) (pa_cons (pv 1) (pa_cons (pv 2) (pa_cons (pe_tup (pa_cons (pv 3) (pa_cons pe_str pa_nil))) (pa_cons (pe_revL (pe_callB cr_sortedI (by rfl) m_sorted (by decide +kernel) (pa_cons (pv 5) pa_nil))) pa_nil)))))) pa_nil)))))))), ?_⟩
    have w1 : (1 : Nat) ≤ sizeLine := by decide
    have w2 : (2 : Nat) ≤ sizeLine := by decide
    have atn : atI (tops.map V.int) (n : Int) = some (.int (plc tops n)) := by
      rw [plc_get ln]
      exact at_int ln
    refine ⟨w1, fun A0 nA => ?_⟩
    have s0 := same_new (o := HO.lst [.int 0]) nA
    refine ⟨.ref t, rfl, _, rfl, t, _, n, _, rfl, rfl, .inl (.inl (s0 _ _ et)), atn, w1, fun B0 nB => ⟨_, _, rfl, ?_⟩⟩
    have s1 := s0.trans (same_new (o := HO.lst [.int (plc tops n)]) nB)
    have eA : (upd (upd H A0 (.lst [.int 0])) B0 (.lst [.int (plc tops n)])) A0 = some (.lst ([0].map V.int)) := same_new nB _ _ upd_same
    have eB : (upd (upd H A0 (.lst [.int 0])) B0 (.lst [.int (plc tops n)])) B0 = some (.lst ([plc tops n].map V.int)) := upd_same
    have nB' : H B0 = none := s0.free nB
    have nAB : A0 ≠ B0 := fun z => by
      rw [← z, upd_same] at nB
      cases nB
    generalize (upd (upd H A0 (.lst [.int 0])) B0 (.lst [.int (plc tops n)])) = H1 at s1 eA eB ⊢
    obtain ⟨as, eas, la, ha⟩ := id hR
    refine ⟨.ref g, rfl, g, _, rfl, .inr (sameT s1 eg), fun l1 nl1 => ?_⟩
    have s2 := s1.trans (same_new (o := HO.lst (sdR Ls)) nl1)
    have el1 : (upd H1 l1 (.lst (sdR Ls))) l1 = some (.lst (sdR Ls)) := upd_same
    have k12 := same_new (o := HO.lst (sdR Ls)) nl1
    generalize (upd H1 l1 (.lst (sdR Ls))) = H2 at s2 el1 k12 ⊢
    refine ⟨.ref R, rfl, R, rfl, ⟨_, .inl (.inl (s2 _ _ eas))⟩, fun D1 nD1 => lc_it (walk_tup (xs := as.map V.ref)) (fun i H' => Same H2 H' ∧ ∃ L1 : List (Addr × Sd), H' D1 = some (.lst (sdR L1)) ∧ SdsAt H L1 ∧ L1.map (·.2) = (rs.take i).map (·.1)) ⟨same_new nD1, [], upd_same, (fun _ h => absurd h List.not_mem_nil), rfl⟩ (fun i H' _ u => .inl (.inl (u.1 _ _ (s2 _ _ eas)))) (fun i v H3 H4 hi u z => ?_) (fun H3 u => ?_)⟩
    · obtain ⟨s3, L1, eD, hL1, eL1⟩ := u
      obtain ⟨rfl, gv⟩ := z
      obtain ⟨r, er, rfl⟩ := mapGet gv
      have hi' : i < rs.length := by rw [List.length_map, la] at hi; exact hi
      have eq : rs[i]? = some rs[i] := List.getElem?_eq_getElem hi'
      obtain ⟨q1, q2, eR0, h10, h20⟩ := ha i r _ er eq
      have ll : L1.length ≤ i := by
        have := congrArg List.length eL1
        rw [List.length_map, List.length_map, List.length_take] at this
        omega
      refine ⟨r, _, rfl, .inl (.inl (s3 _ _ (s2 _ _ eR0))), rfl, _, _, rfl, _, _, rfl, rfl, wipe_two, _, rfl, sdR L1, eD, by rw [List.length_map]; exact small1000 (by omega), same_over s3 nD1, L1 ++ [(q1, rs[i].1)], by rw [upd_same]; exact congrArg (fun x => some (HO.lst x)) (List.map_append (l₂ := [(q1, rs[i].1)])).symm, hL1.snoc h10, ?_⟩
      rw [List.map_append, eL1, List.take_add_one, eq, List.map_append]
      rfl
    obtain ⟨s3, L1, eD1, hL1, eL1⟩ := u
    rw [List.length_map, la, List.take_length] at eL1
    have lL1 : L1.length = rs.length := by
      have := congrArg List.length eL1
      rwa [List.length_map, List.length_map] at this
    refine ⟨l1, D1, _, _, rfl, rfl, s3 _ _ el1, eD1, by rw [List.length_map, List.length_map]; exact Nat.le_of_lt (small1000 (by omega)), fun l3 nl3 => ?_⟩
    have s4 := s2.trans (s3.trans (same_new (o := HO.lst (sdR Ls ++ sdR L1)) nl3))
    have k14 := k12.trans (s3.trans (same_new (o := HO.lst (sdR Ls ++ sdR L1)) nl3))
    have el3 : (upd H3 l3 (.lst (sdR Ls ++ sdR L1))) l3 = some (.lst (sdR Ls ++ sdR L1)) := upd_same
    generalize (upd H3 l3 (.lst (sdR Ls ++ sdR L1))) = H4 at s4 el3 k14 ⊢
    refine ⟨.ref R, rfl, R, rfl, ⟨_, .inl (.inl (s4 _ _ eas))⟩, fun D2 nD2 => lc_it (walk_tup (xs := as.map V.ref)) (fun i H' => Same H4 H' ∧ ∃ L1 : List (Addr × Sd), H' D2 = some (.lst (sdR L1)) ∧ SdsAt H L1 ∧ L1.map (·.2) = (rs.take i).map (·.2)) ⟨same_new nD2, [], upd_same, (fun _ h => absurd h List.not_mem_nil), rfl⟩ (fun i H' _ u => .inl (.inl (u.1 _ _ (s4 _ _ eas)))) (fun i v H5 H6 hi u z => ?_) (fun H5 u => ?_)⟩
    · obtain ⟨s5, L2, eD, hL2, eL2⟩ := u
      obtain ⟨rfl, gv⟩ := z
      obtain ⟨r, er, rfl⟩ := mapGet gv
      have hi' : i < rs.length := by rw [List.length_map, la] at hi; exact hi
      have eq : rs[i]? = some rs[i] := List.getElem?_eq_getElem hi'
      obtain ⟨q1, q2, eR0, h10, h20⟩ := ha i r _ er eq
      have ll : L2.length ≤ i := by
        have := congrArg List.length eL2
        rw [List.length_map, List.length_map, List.length_take] at this
        omega
      refine ⟨r, _, rfl, .inl (.inl (s5 _ _ (s4 _ _ eR0))), rfl, _, _, rfl, _, _, rfl, rfl, wipe_two, _, rfl, sdR L2, eD, by rw [List.length_map]; exact small1000 (by omega), same_over s5 nD2, L2 ++ [(q2, rs[i].2)], by rw [upd_same]; exact congrArg (fun x => some (HO.lst x)) (List.map_append (l₂ := [(q2, rs[i].2)])).symm, hL2.snoc h20, ?_⟩
      rw [List.map_append, eL2, List.take_add_one, eq, List.map_append]
      rfl
    obtain ⟨s5, L2, eD2, hL2, eL2⟩ := u
    rw [List.length_map, la, List.take_length] at eL2
    have lL2 : L2.length = rs.length := by
      have := congrArg List.length eL2
      rwa [List.length_map, List.length_map] at this
    refine ⟨l3, D2, _, _, rfl, rfl, s5 _ _ el3, eD2, by rw [List.length_append, List.length_map, List.length_map, List.length_map]; exact Nat.le_of_lt (small1000 (by omega)), fun l4 nl4 => ?_⟩
    have nA4 : A0 ≠ l4 := ne_of_none ((k14.trans s5) _ _ eA) nl4
    have nB4 : B0 ≠ l4 := ne_of_none ((k14.trans s5) _ _ eB) nl4
    have s6 := s4.trans (s5.trans (same_new (o := HO.lst ((sdR Ls ++ sdR L1) ++ sdR L2)) nl4))
    have k16 := k14.trans (s5.trans (same_new (o := HO.lst ((sdR Ls ++ sdR L1) ++ sdR L2)) nl4))
    have el4 : (upd H5 l4 (.lst ((sdR Ls ++ sdR L1) ++ sdR L2))) l4 = some (.lst (sdR (Ls ++ L1 ++ L2))) := by
      rw [upd_same]
      show _ = some (HO.lst (List.map _ (Ls ++ L1 ++ L2)))
      rw [List.map_append, List.map_append]
    generalize (upd H5 l4 (.lst ((sdR Ls ++ sdR L1) ++ sdR L2))) = H6 at s6 k16 el4 ⊢
    have hZ : SdsAt H (Ls ++ L1 ++ L2) := fun z hz => by
      rcases List.mem_append.mp hz with hz | hz
      · rcases List.mem_append.mp hz with hz | hz
        · exact hL z hz
        · exact hL1 z hz
      · exact hL2 z hz
    have mZ : ∀ s, (s ∈ Ls.map (·.2) ∨ RuleSd rs s) ↔ s ∈ (Ls ++ L1 ++ L2).map (·.2) := fun s => by
      rw [List.map_append, List.map_append, eL1, eL2, List.mem_append, List.mem_append]
      unfold RuleSd
      constructor
      · rintro (h | ⟨q, hq, rfl | rfl⟩)
        · exact .inl (.inl h)
        · exact .inl (.inr (List.mem_map_of_mem hq))
        · exact .inr (List.mem_map_of_mem hq)
      · rintro ((h | h) | h)
        · exact .inl h
        · obtain ⟨q, hq, rfl⟩ := List.mem_map.mp h
          exact .inr ⟨q, hq, .inl rfl⟩
        · obtain ⟨q, hq, rfl⟩ := List.mem_map.mp h
          exact .inr ⟨q, hq, .inr rfl⟩
    have okZ : ∀ z ∈ Ls ++ L1 ++ L2, SideOk tops z.2 := fun z hz => by
      rcases (mZ z.2).mpr (List.mem_map_of_mem hz) with h | ⟨q, hq, e⟩
      · obtain ⟨y, hy, e⟩ := List.mem_map.mp h
        rw [← e]
        exact okS y hy
      · rcases e with e | e
        · rw [e]; exact (rok q hq).1
        · rw [e]; exact (rok q hq).2
    have lZ : (Ls ++ L1 ++ L2).length ≤ 104 := by
      rw [List.length_append, List.length_append]
      omega
    generalize Ls ++ L1 ++ L2 = Z at el4 hZ mZ okZ lZ ⊢
    have topn := pl n ln
    refine ⟨l4, rfl, ⟨_, .inl (.inl el4)⟩, for_it (walk_list (xs := sdR Z)) (fun j σ H' => ∃ (u6 : Option V) (ys zs : List Int), σ = [some (.ref t), some (.ref R), some (.ref g), some (.int n), some (.ref A0), some (.ref B0), u6, none, none, none] ∧ Same H H' ∧ H' A0 = some (.lst (ys.map V.int)) ∧ H' B0 = some (.lst (zs.map V.int)) ∧ H' l4 = some (.lst (sdR Z)) ∧ ((0 : Int) ∈ ys ∧ plc tops n ∈ zs) ∧ ((∀ x ∈ ys, 0 ≤ x ∧ x ≤ plc tops n) ∧ ∀ x ∈ zs, 0 ≤ x ∧ x ≤ plc tops n) ∧ (ys.length ≤ 1 + j ∧ zs.length ≤ 1 + j) ∧ ((∀ s, s ∈ (Z.take j).map (·.2) → s.1 = n → s.2.1 = true → s.2.2 ∈ ys) ∧ ∀ s, s ∈ (Z.take j).map (·.2) → s.1 = n → s.2.1 = false → s.2.2 ∈ zs)) ⟨_, _, _, rfl, s6, k16 _ _ eA, k16 _ _ eB, el4, ⟨by simp, by simp⟩, ⟨fun x hx => by rw [List.mem_singleton.mp hx]; exact ⟨Int.le_refl _, topn⟩, fun x hx => by rw [List.mem_singleton.mp hx]; exact ⟨topn, Int.le_refl _⟩⟩, ⟨by simp, by simp⟩, ⟨fun s h => by simp at h, fun s h => by simp at h⟩⟩ (fun j σ H' _ y => by obtain ⟨_, _, _, _, _, _, _, e, _⟩ := y; exact .inl (.inl e)) (fun j v σ H7 H8 hj y z => ?_) (fun σ H7 y => ?_)⟩
    · obtain ⟨u6, ys, zs, rfl, s7, eA7, eB7, el7, ⟨zy, tz⟩, ⟨by1, bz1⟩, ⟨ly, lz⟩, iy, iz⟩ := y
      obtain ⟨rfl, gv⟩ := z
      obtain ⟨zz, ez, rfl⟩ := mapGet gv
      obtain ⟨zp, m, b, x⟩ := zz
      have mz := List.mem_of_getElem? ez
      have okz : SideOk tops (m, b, x) := okZ _ mz
      have jz : j < Z.length := (List.getElem?_eq_some_iff.mp ez).1
      have hp8 : H8 zp = some (.tup [.int (m : Int), .str (word b), .int x]) := s7 _ _ (hZ _ mz)
      have tk : ∀ s, s ∈ (Z.take (j + 1)).map (·.2) → s ∈ (Z.take j).map (·.2) ∨ s = (m, b, x) := fun s hs => by
        rw [List.take_add_one, ez, List.map_append] at hs
        rcases List.mem_append.mp hs with h | h
        · exact .inl h
        · exact .inr (by simpa using h)
      refine ⟨.ref zp, rfl, _, rfl, cut_to (c := 2) hp8 (by simp) fun G1 H9 s9 e9 => ⟨_, rfl, w2, fun G2 n2 => ⟨_, _, .tup (.inl (.inl (same_new n2 _ _ e9))) (.cons (.int _) (.cons (.str _) .nil)), .tup (.inl (.inl upd_same)) (.cons (.int _) (.cons (.str _) .nil)), shaped_sw _ b, shaped_sw _ true, _, rfl, ite2 (fun c => ?_) (fun c => ?_)⟩⟩⟩
      · rw [eqv_sw, Bool.and_eq_true, decide_eq_true_eq, decide_eq_true_eq] at c
        have emn : m = n := by
          have := c.1
          omega
        have eb : b = true := by
          cases b with
          | true => rfl
          | false => exact absurd c.2 (by decide +kernel)
        subst emn eb
        have s10 := s9.trans (same_new (o := HO.tup [.int (m : Int), .str (Str.ofString "from")]) n2)
        have bd := okz.bd
        refine ⟨.ref A0, rfl, .inl ⟨rfl, _, .inl (.inl (s10 _ _ eA7))⟩, .ref zp, rfl, zp, _, 2, _, rfl, rfl, .inl (.inl (s10 _ _ hp8)), atI_nat (j := 2) rfl, A0, _, _, rfl, rfl, s10 _ _ eA7, by rw [List.length_map]; exact small1000 (by omega), _, ys ++ [x], zs, rfl, same_over (s7.trans s10) nA, ?_, ?_, ?_, ⟨List.mem_append_left _ zy, tz⟩, ⟨fun y hy => ?_, bz1⟩, ⟨by rw [List.length_append]; show ys.length + 1 ≤ _; omega, by omega⟩, ⟨fun s hs h1 h2 => ?_, fun s hs h1 h2 => ?_⟩⟩
        · rw [upd_same, List.map_append]
          rfl
        · rw [upd_ne nAB.symm]
          exact s10 _ _ eB7
        · rw [upd_ne nA4.symm]
          exact s10 _ _ el7
        · rcases List.mem_append.mp hy with hy | hy
          · exact by1 y hy
          · rw [List.mem_singleton.mp hy]
            exact bd
        · rcases tk s hs with h | h
          · exact List.mem_append_left _ (iy s h h1 h2)
          · rw [h]
            exact List.mem_append_right _ (by simp)
        · rcases tk s hs with h | h
          · exact iz s h h1 h2
          · rw [h] at h2
            cases h2
      · rw [eqv_sw] at c
        have s10 := s9.trans (same_new (o := HO.tup [.int (n : Int), .str (Str.ofString "from")]) n2)
        have bd := okz.bd
        refine ⟨.ref zp, rfl, zp, _, 0, _, rfl, rfl, .inl (.inl (s10 _ _ hp8)), atI_nat (j := 0) rfl, _, rfl, rfl, _, rfl, ite2 (fun d => ?_) (fun d => ?_)⟩
        · have emn : m = n := by
            have := of_decide_eq_true d
            injection this with this
            omega
          have eb : b = false := by
            cases b with
            | false => rfl
            | true => exact absurd (by rw [emn, decide_eq_true rfl, decide_eq_true (by decide +kernel)]; rfl) c
          subst emn eb
          refine ⟨.ref B0, rfl, .inl ⟨rfl, _, .inl (.inl (s10 _ _ eB7))⟩, .ref zp, rfl, zp, _, 2, _, rfl, rfl, .inl (.inl (s10 _ _ hp8)), atI_nat (j := 2) rfl, B0, _, _, rfl, rfl, s10 _ _ eB7, by rw [List.length_map]; exact small1000 (by omega), _, ys, zs ++ [x], rfl, same_over (s7.trans s10) nB', ?_, ?_, ?_, ⟨zy, List.mem_append_left _ tz⟩, ⟨by1, fun y hy => ?_⟩, ⟨by omega, by rw [List.length_append]; show zs.length + 1 ≤ _; omega⟩, ⟨fun s hs h1 h2 => ?_, fun s hs h1 h2 => ?_⟩⟩
          · rw [upd_ne nAB]
            exact s10 _ _ eA7
          · rw [upd_same, List.map_append]
            rfl
          · rw [upd_ne nB4.symm]
            exact s10 _ _ el7
          · rcases List.mem_append.mp hy with hy | hy
            · exact bz1 y hy
            · rw [List.mem_singleton.mp hy]
              exact bd
          · rcases tk s hs with h | h
            · exact iy s h h1 h2
            · rw [h] at h2
              cases h2
          · rcases tk s hs with h | h
            · exact List.mem_append_left _ (iz s h h1 h2)
            · rw [h]
              exact List.mem_append_right _ (by simp)
        · have nmn : m ≠ n := fun e => d (by rw [e]; exact decide_eq_true rfl)
          exact ⟨_, ys, zs, rfl, s7.trans s10, s10 _ _ eA7, s10 _ _ eB7, s10 _ _ el7, ⟨zy, tz⟩, ⟨by1, bz1⟩, ⟨by omega, by omega⟩, ⟨fun s hs h1 h2 => by
            rcases tk s hs with h | h
            · exact iy s h h1 h2
            · rw [h] at h1
              exact absurd h1 nmn, fun s hs h1 h2 => by
            rcases tk s hs with h | h
            · exact iz s h h1 h2
            · rw [h] at h1
              exact absurd h1 nmn⟩⟩
    · obtain ⟨u6, ys, zs, rfl, s7, eA7, eB7, el7, ⟨zy, tz⟩, ⟨by1, bz1⟩, ⟨ly, lz⟩, iy, iz⟩ := y
      have lZ' : (sdR Z).length = Z.length := List.length_map ..
      rw [lZ', List.take_length] at iy iz
      rw [lZ'] at ly lz
      have inY : plc lows n ∈ ys := by
        rcases F0.l0 n ln with e | r
        · rw [e]
          exact zy
        · exact iy _ ((mZ _).mp (wf_rule r)) rfl rfl
      have inZ : plc highs n ∈ zs := by
        rcases F0.h0 n ln with e | r
        · rw [e]
          exact tz
        · exact iz _ ((mZ _).mp (wf_rule r)) rfl rfl
      obtain ⟨st, hst, hst2⟩ := had
      have had : Had tops rs Ls := ⟨st, hst, hst2⟩
      refine ⟨.ref t, rfl, .ref R, rfl, .ref g, rfl, _, rfl, w2, fun S1 nS1 => ?_⟩
      have s8 := same_new (o := HO.tup [.int (n : Int), .str (Str.ofString "to")]) nS1
      refine ⟨.ref A0, rfl, A0, ys, rfl, .inl (.inl (s8 _ _ eA7)), fun ns l5 pm pw nl5 => ?_⟩
      have s9 := s8.trans (same_new (o := HO.lst (ns.map V.int)) nl5)
      have s79 := s7.trans s9
      obtain ⟨k1, lk1, ek1, hk1⟩ := gfst (f := id) (fun _ _ h => h) (v := plc lows n) pw (pm.mem_iff.mpr inY)
      refine ⟨t, R, g, S1, l5, tops, st, rs, Ls, n, false, ns, k1, rfl, s79 _ _ et, hR.keep (.same s79), sameT s79 eg, hL.keep (.same s79), okS, rok, pl, l12, hst, by omega, same_new nl5 _ _ upd_same, upd_same, fun x hx => ?_, lk1, ?_, fun j hj => (wf_to rok pl okS had F0 ln _).trans (hk1 j hj), fun H10 s10 => ?_⟩
      · have := by1 x (pm.mem_iff.mp hx)
        exact SideOk.mk' ln this.1 this.2
      · rw [pm.length_eq]
        omega
      rw [ek1]
      have s7a := s79.trans s10
      refine ⟨_, rfl, .ref t, rfl, .ref R, rfl, .ref g, rfl, _, rfl, w2, fun S2 nS2 => ?_⟩
      have s11 := same_new (o := HO.tup [.int (n : Int), .str (Str.ofString "from")]) nS2
      refine ⟨.ref B0, rfl, B0, zs, rfl, .inl (.inl (s11 _ _ (s10 _ _ (s9 _ _ eB7)))), fun ms l6 pm2 pw2 nl6 => ⟨l6, _, rfl, .inl (.inl upd_same), fun l7 nl7 => ?_⟩⟩
      have s12 := s11.trans ((same_new (o := HO.lst (ms.map V.int)) nl6).trans (same_new (o := HO.lst (ms.map V.int).reverse) nl7))
      have s7b := s7a.trans s12
      rw [← List.map_reverse] at s12 s7b ⊢
      obtain ⟨k2, lk2, ek2, hk2⟩ := gfst (f := fun x => -x) (fun a b h => by have h' : -a = -b := h; omega) (v := plc highs n) (xs := ms.reverse) (List.pairwise_reverse.mpr (pw2.imp fun {a b} h => by show -b ≤ -a; omega)) (List.mem_reverse.mpr (pm2.mem_iff.mpr inZ))
      refine ⟨t, R, g, S2, l7, tops, st, rs, Ls, n, true, ms.reverse, k2, rfl, s7b _ _ et, hR.keep (.same s7b), sameT s7b eg, hL.keep (.same s7b), okS, rok, pl, l12, hst, by omega, same_new nl7 _ _ (same_new nl6 _ _ upd_same), by rw [upd_same, List.map_reverse], fun x hx => ?_, lk2, ?_, fun j hj => (wf_from rok pl okS had F0 ln _).trans ((show plc ms.reverse j ≤ plc highs n ↔ -plc highs n ≤ -plc ms.reverse j by omega).trans (hk2 j hj)), fun H11 s13 => ?_⟩
      · have := bz1 x (pm2.mem_iff.mp (List.mem_reverse.mp hx))
        exact SideOk.mk' ln this.1 this.2
      · rw [List.length_reverse, pm2.length_eq]
        omega
      rw [ek2]
      refine ⟨w2, fun e ne => ?_⟩
      exact q _ e (s7b.trans (s13.trans (same_new ne))) upd_same
end
end K16

set_option Elab.async false
set_option linter.all false
set_option maxRecDepth 100000
namespace K16
open PySem PySem.Spec PyProof.Rows L2 NB

/-! ### papers of a want that none has: the law -/
theorem BarAt.kt {H H' : Hp} {h : Addr} {tops : List Int} {rs : List Rl} {Ls : List (Addr × Sd)} (b : BarAt H h tops rs Ls) (k : KT H H') : BarAt H' h tops rs Ls := by
  obtain ⟨c, L, R, s', w, e1, e2, e3, e4⟩ := b.ex
  exact ⟨c, L, R, s', w, k _ _ e1, k _ _ e2, e3.kt k, e4⟩
theorem RgP.kt {H H' : Hp} {h : Addr} {tops : List Int} {rs : List Rl} (b : RgP H h tops rs) (k : KT H H') : RgP H' h tops rs := by
  obtain ⟨c1, c2, L1, L2, s', o, e1, e2, e3, e4, e5, e6⟩ := b.ex
  exact ⟨c1, c2, L1, L2, s', o, k _ _ e1, k _ _ e2, k _ _ e3, e4.kt k, e5.kt k, e6⟩
section
variable {P : Program} {w : World} {K : PySem.W.Frag} {mg : Str → Option Value} {base : Heap}
def spPa (K : PySem.W.Frag) (C : Addr) : Sp := fun vs H Q _ => ∃ (x a g : Addr) (tops st : List Int) (rs : List Rl) (Ls : List (Addr × Sd)), vs = [.ref x, .ref a, .ref g] ∧ Wnt K C H x g tops rs Ls ∧ Ls.length ≤ 100 ∧ H a = some (.tup (st.map V.int)) ∧ st ∈ goods tops rs ∧ ¬ Had tops rs Ls ∧
  ∀ H' l h1 h2, Same H H' → H l = none → H' l = some (.lst [.ref h1, .ref h2]) → (BarAt H' h1 tops rs Ls ∨ RgP H' h1 tops rs) → (BarAt H' h2 tops rs Ls ∨ RgP H' h2 tops rs) → Q (.ref l) H'
abbrev a__law_papers : Stmt := topS 85
abbrev n__law_papers : List Str := ["_law_plan_here", "_law_standing_here", "_law_want", "_law_found", "e"]
theorem sc__law_papers : FnScope n__law_papers ["_law_plan_here", "_law_standing_here", "_law_want"] (defScope a__law_papers) := ⟨rfl, rfl, rfl, by decide +kernel, rfl, by decide +kernel, by decide +kernel⟩
set_option maxHeartbeats 8000000 in
theorem ok__law_papers {f fNx fAg : Addr} {fd fdNx fdAg : FuncData} {k : Nat} {C CN fN : Addr} {fdN : FuncData} (F : Fun K "_law_papers" "_law_papers" a__law_papers f fd) (Nx : KnX P w K mg base 9 "nearest" ["plan", "standing", "want"] (spNearX K C CN) fNx fdNx) (Ag : KnX P w K mg base 9 "a_good" ["plan", "want"] (spAgX K C CN) fAg fdAg) (TN : ExT K mg "NoGood" "paper" CN fN fdN)  : FnOk P w K mg base CX0 (k + 10) f fd ["_law_plan_here", "_law_standing_here", "_law_want"] (spPa K C) := by
  refine F.ok sc__law_papers (fun vs H Q E h => ?_) (fun cdv A outer s H vs Q E hr h => ?_)
  · obtain ⟨x, a, g, tops, st, rs, Ls, rfl, _⟩ := h
    rfl
  · obtain ⟨x, a, g, tops, st, rs, Ls, rfl, W, l100, ea, hst, nh, q⟩ := h
    refine ⟨_, (pss_cons (ps_set (i := 3) sc__law_papers.nd rfl (.inl rfl) (pe_lst pa_nil))
      (pss_cons (ps_try_as (i := 4) (tb := fun W => tDrop (tCallS (spNearX K C CN) (WE W) (tCons (tVar 0) (tCons (tVar 1) (tCons (tVar 2) tNil))))) (ts := fun a cls d => tDrop (tBM K "list" rAppend (tVar 3) (tCons (tXf a cls d CN "paper" (tVar 4)) tNil))) (Wout := fun _ _ _ _ => False) rfl rfl sc__law_papers.nd rfl rfl ⟨rfl, by decide, Or.inl TN.gC⟩ takes0 (fun W pn xe tk _ => pss_one (ps_expr (by exact (pe_knS Nx hr (by omega) tk (by exact (pa_cons (pv 0) (pa_cons (pv 1) (pa_cons (pv 2) pa_nil)))))))) (fun a oe cls d pn hz hf => pss_one (ps_expr (by exact (pe_bm PySem.F.plainAttrs_list PySem.F.slot_list_append PySem.F.type_list_append mt_append (pv 3) (pa_cons (pe_xf TN.xf TN.noN hz hf (pv 4)) pa_nil))))))
      (pss_cons (ps_try_as (i := 4) (tb := fun W => tDrop (tCallS (spAgX K C CN) (WE W) (tCons (tVar 0) (tCons (tVar 2) tNil)))) (ts := fun a cls d => tDrop (tBM K "list" rAppend (tVar 3) (tCons (tXf a cls d CN "paper" (tVar 4)) tNil))) (Wout := fun _ _ _ _ => False) rfl rfl sc__law_papers.nd rfl rfl ⟨rfl, by decide, Or.inl TN.gC⟩ takes0 (fun W pn xe tk _ => pss_one (ps_expr (by exact (pe_knS Ag hr (by omega) tk (by exact (pa_cons (pv 0) (pa_cons (pv 2) pa_nil))))))) (fun a oe cls d pn hz hf => pss_one (ps_expr (by exact (pe_bm PySem.F.plainAttrs_list PySem.F.slot_list_append PySem.F.type_list_append mt_append (pv 3) (pa_cons (pe_xf TN.xf TN.noN hz hf (pv 4)) pa_nil))))))
      (pss_one (ps_ret (pv 3)))))), ?_⟩
    refine ⟨Nat.zero_le _, fun l nl => ?_⟩
    have s0 := same_new (o := HO.lst []) nl
    have el : (upd H l (.lst [])) l = some (.lst []) := upd_same
    generalize (upd H l (.lst [])) = H0 at s0 el ⊢
    refine ⟨.ref x, rfl, .ref a, rfl, .ref g, rfl, x, a, g, tops, st, rs, Ls, rfl, W.same s0, s0 _ _ ea, hst, fun _ _ _ _ had _ _ => absurd had nh, fun H1 d h s1 nd _ ed b => ?_⟩
    refine ⟨true, TN.te, fun _ a0 _ => ?_, fun q => Bool.noConfusion q⟩
    refine ⟨.ref l, rfl, .inl ⟨rfl, _, .inl (.inl (s1 _ _ el))⟩, _, rfl, rfl, rfl, d, _, _, rfl, ed, by simp [List.lookup]; rfl, l, _, _, rfl, rfl, s1 _ _ el, (show 0 < sizeLine by decide), ?_⟩
    have sA := same_over (o := HO.lst ([] ++ [V.ref h])) (s0.trans s1) nl
    have kA : KT H1 (upd H1 l (.lst ([] ++ [V.ref h]))) := KT.upd (s1 _ _ el) (fun xs e => nomatch e)
    have elA : (upd H1 l (.lst ([] ++ [V.ref h]))) l = some (.lst [.ref h]) := upd_same
    have bA := b.imp (fun z => z.kt kA) (fun z => z.kt kA)
    generalize (upd H1 l (.lst ([] ++ [V.ref h]))) = H2 at sA elA bA ⊢
    refine ⟨.ref x, rfl, .ref g, rfl, x, g, tops, rs, Ls, rfl, W.same sA, l100, fun _ _ _ _ had _ _ _ => absurd had nh, fun H3 d2 h2 s3 nd2 _ ed2 b2 => ?_⟩
    refine ⟨true, TN.te, fun _ a0 _ => ?_, fun q => Bool.noConfusion q⟩
    refine ⟨.ref l, rfl, .inl ⟨rfl, _, .inl (.inl (s3 _ _ elA))⟩, _, rfl, rfl, rfl, d2, _, _, rfl, ed2, by simp [List.lookup]; rfl, l, _, _, rfl, rfl, s3 _ _ elA, (show 1 < sizeLine by decide), ?_⟩
    have sB := same_over (o := HO.lst ([.ref h] ++ [V.ref h2])) (sA.trans s3) nl
    have kB : KT H3 (upd H3 l (.lst ([.ref h] ++ [V.ref h2]))) := KT.upd (s3 _ _ elA) (fun xs e => nomatch e)
    have elB : (upd H3 l (.lst ([.ref h] ++ [V.ref h2]))) l = some (.lst [.ref h, .ref h2]) := upd_same
    have bB := b2.imp (fun z => z.kt kB) (fun z => z.kt kB)
    have bA' := (bA.imp (fun z => z.same s3) (fun z => z.same s3)).imp (fun z => z.kt kB) (fun z => z.kt kB)
    exact ⟨_, rfl, q _ l h h2 sB nl elB bA' bB⟩
end
end K16

set_option Elab.async false
set_option linter.all false
set_option maxRecDepth 100000
namespace K16
open PySem PySem.Spec PyProof.Rows L2 NB

/-! ### right papers are shown -/
theorem ok_of_map {tops : List Int} {L : List (Addr × Sd)} (h : ∀ s ∈ L.map (·.2), SideOk tops s) : ∀ z ∈ L, SideOk tops z.2 := fun z hz => h z.2 (List.mem_map.mpr ⟨z, hz, rfl⟩)
theorem wt_tuple (ds : List PyData) : PyData.weight (.tuple ds) = PyData.weightAll ds := by simp only [PyData.weight]
theorem CTo.found {tops : List Int} {rs : List Rl} {S : List Sd} {s : Sd} {cs : List Sd} (h : CTo tops rs S s cs) (ne : cs ≠ []) : ∃ z, Rea tops rs (· ∈ S) z ∧ withinB tops z s = true := by
  rcases h with ⟨e, _⟩ | ⟨R, z, _, _, wi, rz, _⟩
  · exact absurd e ne
  · exact ⟨z, rz, wi⟩
theorem hdS_sds (L : List (Addr × Sd)) {w : Sd} (h : (L.map (·.2)).head? = some w) : hdS (.tuple (sdsD L)) = w := by
  show ((sdsD L).map sdOf).headD (0, true, 0) = w
  rw [sdOf_sds, List.headD_eq_head?_getD, h]
  rfl
theorem laS_sds (L : List (Addr × Sd)) {w : Sd} (h : (L.map (·.2)).getLast? = some w) : laS (.tuple (sdsD L)) = w := by
  show ((sdsD L).map sdOf).getLastD (0, true, 0) = w
  rw [sdOf_sds, List.getLastD_eq_getLast?, h]
  rfl
theorem dlen_sds (L : List (Addr × Sd)) : dLen (.tuple (sdsD L)) = L.length := by
  show (sdsD L).length = _
  exact List.length_map ..
theorem paper_none {H : Hp} {h : Addr} {tops : List Int} {rs : List Rl} {Ls : List (Addr × Sd)} (rok : ∀ q ∈ rs, RuleOk tops q) (okS : ∀ z ∈ Ls, SideOk tops z.2) (p : BarAt H h tops rs Ls ∨ RgP H h tops rs) : ∃ ds, (∀ n, Da n H (.ref h) (.tuple ds)) ∧ (∀ y ∈ ds, dLen y ≤ 200000) ∧ noneW tops rs (Ls.map (·.2)) (.tuple ds) = true := by
  have hS : ∀ s ∈ Ls.map (·.2), SideOk tops s := fun s hs => by
    obtain ⟨z, hz, rfl⟩ := List.mem_map.mp hs
    exact okS z hz
  have das : ∀ {n : Addr} {c : Addr} {L : List (Addr × Sd)}, H c = some (.tup (sdR L)) → SdsAt H L → Da n H (.ref c) (.tuple (sdsD L)) := fun {n c L} e hL => (Db.da (E := only n) (.tup e (db_sides hL)) rfl)
  rcases p with b | r
  · obtain ⟨c, L, R, s, w, e1, e2, hL, eL, rc, hd, lR, _, hw, bw⟩ := b.ex
    have okL : ∀ z ∈ L, SideOk tops z.2 := ok_of_map fun s hs => by
      rw [eL] at hs
      exact rc.ok rok hS s (List.mem_reverse.mp hs)
    have lL : L.length ≤ 280 := by
      have := congrArg List.length eL
      rw [List.length_map, List.length_reverse] at this
      omega
    obtain ⟨c1, ⟨u, hu, hh⟩, c3⟩ := rc.chain
    rw [← eL] at c1 hh
    have neL : L ≠ [] := fun z => by
      rw [z] at hh
      cases hh
    have ll : (L.map (·.2)).getLast? = some s := by rw [eL, List.getLast?_reverse, hd]
    refine ⟨[.str "barred", .tuple (sdsD L)], fun n => .tup e1 (.cons (.str _) (.cons (das e2 hL) .nil)), fun y hy => ?_, ?_⟩
    · rcases List.mem_cons.mp hy with rfl | hy
      · decide +kernel
      · rw [List.mem_singleton.mp hy, dlen_sds]
        omega
    · show (strIs "barred" (.str "barred") && (chainD tops rs (.tuple (sdsD L)) && (decide (hdS (.tuple (sdsD L)) ∈ Ls.map (·.2)) && (Ls.map (·.2)).any fun s => barsB tops (laS (.tuple (sdsD L))) s))) = true
      rw [chainD_sds okL neL c1, hdS_sds L hh, laS_sds L ll, decide_eq_true hu, show ((Ls.map (·.2)).any fun z => barsB tops s z) = true from List.any_eq_true.mpr ⟨w, hw, bw⟩]
      rfl
  · obtain ⟨c1, c2, L1, L2, s, o, e0, e1, e2, hL1, hL2, ok, eo, ct1, ct2, n1, n2, l1, l2⟩ := r.ex
    have oko := oth_ok ok eo
    have ok1 : ∀ z ∈ L1, SideOk tops z.2 := ok_of_map (ct1.ok rok (fun z hz => by rw [List.mem_singleton.mp hz]; exact ok) oko)
    have ok2 : ∀ z ∈ L2, SideOk tops z.2 := ok_of_map (ct2.ok rok (fun z hz => by rw [List.mem_singleton.mp hz]; exact oko) ok)
    have nm : ∀ {L : List (Addr × Sd)}, L ≠ [] → L.map (·.2) ≠ [] := fun h z => h (List.map_eq_nil_iff.mp z)
    obtain ⟨a1, ⟨u1, hu1, h1⟩, t1⟩ := ct1.chain (ct1.found (nm n1))
    obtain ⟨a2, ⟨u2, hu2, h2⟩, t2⟩ := ct2.chain (ct2.found (nm n2))
    obtain rfl := List.mem_singleton.mp hu1
    obtain rfl := List.mem_singleton.mp hu2
    refine ⟨[.str "ring", .tuple (sdsD L1), .tuple (sdsD L2)], fun n => .tup e0 (.cons (.str _) (.cons (das e1 hL1) (.cons (das e2 hL2) .nil))), fun y hy => ?_, ?_⟩
    · rcases List.mem_cons.mp hy with rfl | hy
      · decide +kernel
      · rcases List.mem_cons.mp hy with rfl | hy
        · rw [dlen_sds]
          omega
        · rw [List.mem_singleton.mp hy, dlen_sds]
          omega
    · show (strIs "ring" (.str "ring") && (chainD tops rs (.tuple (sdsD L1)) && (chainD tops rs (.tuple (sdsD L2)) && (decide (othS tops (hdS (.tuple (sdsD L1))) = some (laS (.tuple (sdsD L1)))) && (decide (hdS (.tuple (sdsD L2)) = laS (.tuple (sdsD L1))) && decide (laS (.tuple (sdsD L2)) = hdS (.tuple (sdsD L1)))))))) = true
      rw [chainD_sds ok1 n1 a1, chainD_sds ok2 n2 a2, hdS_sds L1 h1, laS_sds L1 t1, hdS_sds L2 h2, laS_sds L2 t2, decide_eq_true eo, decide_eq_true rfl, decide_eq_true rfl]
      rfl
structure Tsd (tops : List Int) (H : Hp) (g : Addr) (W : List (Addr × Sd)) : Prop where
  eg : H g = some (.tup (sdR W))
  hW : SdsAt H W
  ok : ∀ z ∈ W, SideOk tops z.2
theorem Tsd.keep {tops : List Int} {H H' : Hp} {g : Addr} {W : List (Addr × Sd)} (h : Tsd tops H g W) (k : Keep H H') : Tsd tops H' g W := ⟨k.tup h.eg, h.hW.keep k, h.ok⟩
theorem ext_plc {xs ys : List Int} (l : xs.length = ys.length) (h : ∀ i, i < xs.length → plc xs i = plc ys i) : xs = ys :=
  List.ext_getElem l fun i h1 h2 => by
    have := h i h1
    rwa [plc_get h1, plc_get h2] at this
theorem Fol.same {tops : List Int} {rs : List Rl} {S : Sd → Prop} {a b c d : List Int} (F : Fol tops rs S a b) (G : Fol tops rs S c d) : a = c ∧ b = d := by
  refine ⟨ext_plc (F.ll.trans G.ll.symm) fun i hi => ?_, ext_plc (F.lh.trans G.lh.symm) fun i hi => ?_⟩
  · rw [F.ll] at hi
    have h1 : plc a i ≤ plc c i := by
      rcases F.l0 i hi with e | r
      · rw [e]
        exact G.lz i hi
      · exact G.l1 i _ r
    have h2 : plc c i ≤ plc a i := by
      rcases G.l0 i hi with e | r
      · rw [e]
        exact F.lz i hi
      · exact F.l1 i _ r
    omega
  · rw [F.lh] at hi
    have h1 : plc c i ≥ plc c i := Int.le_refl _
    have h2 : plc d i ≤ plc b i := by
      rcases F.h0 i hi with e | r
      · rw [e]
        exact G.hz i hi
      · exact G.h1 i _ r
    have h3 : plc b i ≤ plc d i := by
      rcases G.h0 i hi with e | r
      · rw [e]
        exact F.hz i hi
      · exact F.h1 i _ r
    omega
theorem bdB_dp {K : PySem.W.Frag} {H : Hp} {ls ms : List Int} : ∀ (Us : List Addr) (j : Nat), (∀ (i : Nat) (T : Addr), Us[i]? = some T → H T = some (.tup [.int (plc ls (j + i)), .int (plc ms (j + i))])) → DpAll K H (Us.map V.ref) (bdD ls ms Us.length j)
  | [], _, _ => .nil
  | U :: Us, j, h => by
    have ih := bdB_dp (K := K) (H := H) (ls := ls) (ms := ms) Us (j + 1) fun i T e => by
      have := h (i + 1) T (by rw [List.getElem?_cons_succ]; exact e)
      rw [show j + 1 + i = j + (i + 1) by omega]
      exact this
    exact .cons (.tup (.inl (.inl (h 0 U rfl))) (.cons (.int _) (.cons (.int _) .nil))) ih
theorem bnd_dpB {K : PySem.W.Frag} {H : Hp} {p : Addr} {ls ms : List Int} (h : BndAt H p ls ms) : Dp K H (.ref p) (.tuple (bdD ls ms ls.length 0)) := by
  obtain ⟨Us, ep, lU, aU⟩ := h
  rw [← lU]
  exact .tup (.inl (.inl ep)) (bdB_dp Us 0 fun i T e => by rw [Nat.zero_add]; exact aU i T e)
theorem small_bdB {ls ms : List Int} : ∀ (n j : Nat), (∀ i, i < j + n → (plc ls i).natAbs < 10 ^ 90 ∧ (plc ms i).natAbs < 10 ^ 90) → SmallAll (bdD ls ms n j) (700 * n) 1
  | 0, _, _ => ⟨rfl, rfl, Nat.zero_le _, rfl, Nat.le_refl _⟩
  | n + 1, j, h => by
    have a := h j (by omega)
    have c := SmallAll.cons (Small.tuple (SmallAll.ints (xs := [plc ls j, plc ms j]) fun x hx => by
      rcases List.mem_cons.mp hx with rfl | hx
      · exact a.1
      · rw [List.mem_singleton.mp hx]
        exact a.2)) (small_bdB n (j + 1) fun i hi => h i (by omega))
    refine ⟨c.sh, c.nd, Nat.le_trans c.dp (by decide), c.lv, Nat.le_trans c.wt ?_⟩
    simp only [List.length_cons, List.length_nil]
    omega
theorem Fol.small {tops : List Int} {rs : List Rl} {S : Sd → Prop} {a b : List Int} (rok : ∀ q ∈ rs, RuleOk tops q) (hS : ∀ s, S s → SideOk tops s) (pl : Pl tops) (F : Fol tops rs S a b) : ∀ i, i < tops.length → (plc a i).natAbs < 10 ^ 90 ∧ (plc b i).natAbs < 10 ^ 90 := fun i hi => by
  have bt := pl _ (List.getElem_mem hi)
  rw [← plc_get hi] at bt
  have := F.lz i hi
  have := F.hz i hi
  have h1 : plc a i ≤ plc tops i := by
    rcases F.l0 i hi with e | r
    · omega
    · exact (r.ok rok hS).bd.2
  have h2 : 0 ≤ plc b i := by
    rcases F.h0 i hi with e | r
    · omega
    · exact (r.ok rok hS).bd.1
  have big : (10 : Int) ^ 30 < 10 ^ 90 := by decide
  have c : ((10 : Nat) ^ 90 : Int) = ((10 : Int) ^ 90) := by decide
  omega
theorem show_bdB {tops : List Int} {rs : List Rl} {S : Sd → Prop} {a b : List Int} (rok : ∀ q ∈ rs, RuleOk tops q) (hS : ∀ s, S s → SideOk tops s) (pl : Pl tops) (F : Fol tops rs S a b) (l12 : tops.length ≤ 12) : Showable (.tuple (bdD a b a.length 0)) :=
  (Small.tuple (small_bdB a.length 0 fun i hi => F.small rok hS pl i (by have := F.ll; omega))).ok (by rw [F.ll]; omega) (by decide)
end K16

set_option Elab.async false
set_option linter.all false
set_option maxRecDepth 100000
namespace K16
open PySem PySem.Spec PyProof.Rows L2 NB

/-! ### a want looked at from all sides: the law -/
theorem daI {n : Addr} {H : Hp} : ∀ xs : List Int, DaAll n H (xs.map V.int) (xs.map PyData.int)
  | [] => .nil
  | x :: xs => .cons (.int x) (daI xs)
section
variable {P : Program} {w : World} {K : PySem.W.Frag} {mg : Str → Option Value} {base : Heap}
def spHasL : Sp := fun vs H Q _ => ∃ (g t : Addr) (tops st : List Int) (W : List (Addr × Sd)), vs = [.ref g, .ref t] ∧ Tsd tops H g W ∧ H t = some (.tup (st.map V.int)) ∧ st.length = tops.length ∧ W.length ≤ 400 ∧ ∀ H', Same H H' → Q (.bl ((W.map (·.2)).all (inB st))) H'
abbrev a__law_has : Stmt := topS 76
abbrev n__law_has : List Str := ["_law_want", "_law_standing_here", "_law_side"]
theorem sc__law_has : FnScope n__law_has ["_law_want", "_law_standing_here"] (defScope a__law_has) := ⟨rfl, rfl, rfl, by decide +kernel, rfl, by decide +kernel, by decide +kernel⟩
set_option maxHeartbeats 8000000 in
theorem ok__law_has {f fLi : Addr} {fd fdLi : FuncData} {k : Nat}  (F : Fun K "_law_has" "_law_has" a__law_has f fd) (Li : Kn P w K mg base 1 "_law_is_in" ["_law_side", "_law_standing_here"] spIn fLi fdLi)  (m_all : mg "all" = none) : FnOk P w K mg base CX0 (k + 2) f fd ["_law_want", "_law_standing_here"] spHasL := by
  refine F.ok sc__law_has (fun vs H Q E h => ?_) (fun cdv A outer s H vs Q E hr h => ?_)
  · obtain ⟨g, t, tops, st, W, rfl, _⟩ := h
    rfl
  · obtain ⟨g, t, tops, st, W, rfl, hT, et, ls, lW, q⟩ := h
    refine ⟨_, (pss_one (ps_ret (pe_callB (cr_all rfl) (by rfl) m_all (by decide +kernel) (pa_cons (
        pe_lc (own := [("_law_side", 2)]) (g := (gName 2)) (tt := tYes) (te := (tCall spIn [] E0 (tCons (tVar 2) (tCons (tVar 1) tNil)))) rfl sc__law_has.nd (pi_tup (pv 0)) (blkOk_by (N := n__law_has) (sc := defScope a__law_has) (by decide +kernel))
          (fun _ _ _ _ _ => (pg_name (i := 2) sc__law_has.nd rfl (.inl rfl) (hf := .inr rfl))) (fun _ _ _ _ _ => pts_nil) (fun _ _ _ _ _ => (pe_kn Li hr (by omega) (pa_cons (pv 2) (pa_cons (pv 1) pa_nil))))) pa_nil)))), ?_⟩
    refine ⟨_, rfl, g, rfl, ⟨_, .inl (.inl hT.eg)⟩, fun D nD => lc_it (walk_tup (xs := sdR W)) (fun i H' => Same H H' ∧ H' D = some (.lst ((((W.map (·.2)).take i).map (inB st)).map V.bl))) ⟨same_new nD, upd_same⟩ (fun i H' _ u => .inl (.inl (u.1 _ _ hT.eg))) (fun i v' H2x H2 hi u z => ?_) (fun H2 u => ?_)⟩
    · obtain ⟨sm, eD⟩ := u
      obtain ⟨rfl, gv⟩ := z
      obtain ⟨z, ez, rfl⟩ := mapGet gv
      have mz := List.mem_of_getElem? ez
      have ez' : (W.map (·.2))[i]? = some z.2 := by rw [List.getElem?_map, ez]; rfl
      refine ⟨wipe_one, _, rfl, _, rfl, z.1, t, z.2, st, rfl, (hT.hW z mz).keep (.same sm), sm _ _ et, by rw [ls]; exact (hT.ok z mz).lt, ⟨_, eD, ?_, same_over sm nD, ?_⟩⟩
      · rw [List.length_map, List.length_map, List.length_take, List.length_map]
        exact small1000 (by omega)
      · rw [upd_same, all_take _ _ i z.2 ez']
    · obtain ⟨sm, eD⟩ := u
      have lw : (sdR W).length = (W.map (·.2)).length := by
        show (W.map fun z => V.ref z.1).length = _
        rw [List.length_map, List.length_map]
      rw [lw, List.take_length] at eD
      refine ⟨D, _, rfl, .inl (.inl eD), ?_⟩
      rw [all_id]
      exact q _ sm
def spWr16 (C : Addr) : Sp := fun vs H Q _ => ∃ (p x a g : Addr) (tops st : List Int) (rs : List Rl) (W : List (Addr × Sd)) (c : Nat), vs = [.ref p, .ref x, .ref a, .ref g] ∧ PotAt H p c ∧ c < 800000 ∧ PlanAt C H x tops rs ∧ H a = some (.tup (st.map V.int)) ∧ st ∈ goods tops rs ∧ Tsd tops H g W ∧ W.length ≤ 24 ∧ Pl tops ∧ 1 ≤ tops.length ∧ tops.length ≤ 12 ∧ rs.length ≤ 40 ∧ (∀ q ∈ rs, RuleOk tops q) ∧
  ∀ H', But p H H' → PotAt H' p (c + 3) → Q (.bl true) H'
abbrev a__law_want_right : Stmt := topS 86
abbrev n__law_want_right : List Str := ["_law_pot_here", "_law_plan_here", "_law_standing_here", "_law_want", "_law_tops", "_law_rules_here", "_law_rows", "_law_told", "_law_papers_here", "_law_shown", "_law_due", "_law_turn", "_law_thing", "_law_good", "_law_paper", "_law_place", "_law_low", "_law_high"]
theorem sc__law_want_right : FnScope n__law_want_right ["_law_pot_here", "_law_plan_here", "_law_standing_here", "_law_want"] (defScope a__law_want_right) := ⟨rfl, rfl, rfl, by decide +kernel, rfl, by decide +kernel, by decide +kernel⟩
set_option maxHeartbeats 8000000 in
theorem ok__law_want_right {f fKLd fFo fBo fPa fSn fNx fEn fT fAg fBr fHa fSh fNp : Addr} {fd fdKLd fdFo fdBo fdPa fdSn fdNx fdEn fdT fdAg fdBr fdHa fdSh fdNp : FuncData}  {C CN : Addr} (F : Fun K "_law_want_right" "_law_want_right" a__law_want_right f fd) (KLd : Kn P w K mg base 3 "_law_pressed" ["_law_tops", "_law_rules_here", "_law_want"] (spPd K) fKLd fdKLd) (Fo : Kn P w K mg base 5 "follows" ["plan", "want"] (spFol K C) fFo fdFo) (Bo : Kn P w K mg base 9 "bounds" ["plan", "want"] (spBoA K C) fBo fdBo) (Pa : Kn P w K mg base 10 "_law_papers" ["_law_plan_here", "_law_standing_here", "_law_want"] (spPa K C) fPa fdPa) (Sn : Kn P w K mg base 7 "shows_none" ["plan", "want", "thing"] (spShN C) fSn fdSn) (Nx : KnX P w K mg base 9 "nearest" ["plan", "standing", "want"] (spNearX K C CN) fNx fdNx) (En : Kn P w K mg base 6 "_law_ends" ["_law_tops", "_law_rules_here", "_law_want", "_law_thing"] (spEnds K) fEn fdEn) (T : Kn P w K mg base 1 "_law_take" ["_law_pot_here", "_law_many"] spTake fT fdT) (Ag : KnX P w K mg base 9 "a_good" ["plan", "want"] (spAgX K C CN) fAg fdAg) (Br : Kn P w K mg base 2 "_law_broken" ["_law_rules_here", "_law_standing_here"] spBrk fBr fdBr) (Ha : Kn P w K mg base 2 "_law_has" ["_law_want", "_law_standing_here"] spHasL fHa fdHa) (Sh : Kn P w K mg base 8 "shows_nearest" ["plan", "standing", "want", "new", "thing"] (spShwN K C) fSh fdSh) (Np : KnX P w K mg base 10 "nearest_paper" ["plan", "standing", "want"] (spNpX K C CN) fNp fdNp) (TP : PlanTxt K mg C) (m_zip : mg "zip" = none) (m_all : mg "all" = none) (m_len : mg "len" = none) (m_max : mg "max" = none) (m_min : mg "min" = none) (m_range : mg "range" = none) (m_repr : mg "repr" = none) (m_tuple : mg "tuple" = none) (m_zip : mg "zip" = none) : FnG P w K mg base 12 f fd ["_law_pot_here", "_law_plan_here", "_law_standing_here", "_law_want"] (spWr16 C) := by
  refine fnG F sc__law_want_right (fun vs H Q E h => ?_) (fun cdv A outer s H vs Q E hG hr h => ?_)
  · obtain ⟨p, x, a, g, tops, st, rs, W, c, rfl, _⟩ := h
    rfl
  · obtain ⟨p, x, a, g, tops, st, rs, W, c, rfl, pp, hc, hp, ea, hst, hT, lW, pl, l1, l12, l40, rok, q⟩ := h
    refine ⟨_, (pss_cons (ps_par (i := 4) (j := 5) (by rfl) sc__law_want_right.nd rfl rfl (by decide) rfl rfl (pa_cons (pe_fld (pv 1) rfl) (pa_cons (pe_fld (pv 1) rfl) pa_nil)) (by rfl))
      (pss_cons (ps_set (i := 6) sc__law_want_right.nd rfl (.inl rfl) (pe_kn KLd hr (by omega) (pa_cons (pv 4) (pa_cons (pv 5) (pa_cons (pv 3) pa_nil)))))
      (pss_cons (ps_if (pt_cmpR op_ne (pe_callB (call_reprD hG hr.units) (by rfl) m_repr (by decide +kernel) (pa_cons (pe_kn Fo hr (by omega) (pa_cons (pv 1) (pa_cons (pv 3) pa_nil))) pa_nil)) (pe_callB (call_reprD hG hr.units) (by rfl) m_repr (by decide +kernel) (pa_cons (pv 6) pa_nil)) (nomark _)) (pss_one (ps_ret pe_bl)) pss_nil)
      (pss_cons (ps_set (i := 7) sc__law_want_right.nd rfl (.inl rfl) (pe_kn Bo hr (by omega) (pa_cons (pv 1) (pa_cons (pv 3) pa_nil))))
      (pss_cons (ps_if (pt_not (pt_val (pe_callB (cr_all rfl) (by rfl) m_all (by decide +kernel) (pa_cons (
        pe_lc (own := [("_law_low", 16), ("_law_high", 17)]) (g := (gTup K 2 (gCons (gName 16) (gCons (gName 17) gNil)))) (tt := tYes) (te := (tOp (rI0 fun i j => .bl (decide (i ≤ j))) (tVar 16) (tVar 17))) rfl sc__law_want_right.nd (pi_tup (pv 6)) (blkOk_by (N := n__law_want_right) (sc := defScope a__law_want_right) (by decide +kernel))
          (fun _ _ _ _ _ => (pg_tup rfl (pgs_cons (pg_name (i := 16) sc__law_want_right.nd rfl (.inl rfl) (hf := .inr rfl)) (pgs_cons (pg_name (i := 17) sc__law_want_right.nd rfl (.inl rfl) (hf := .inr rfl)) pgs_nil)))) (fun _ _ _ _ _ => pts_nil) (fun _ _ _ _ _ => (pe_cmpR op_le (pv 16) (pv 17) (nomark _)))) pa_nil)))) (pss_cons (ps_set (i := 8) sc__law_want_right.nd rfl (.inl rfl) (pe_op op_cat (pe_kn Pa hr (by omega) (pa_cons (pv 1) (pa_cons (pv 2) (pa_cons (pv 3) pa_nil)))) (pe_lst (pa_cons (pe_ix ix_tup (pv 7) pe_int (fun _ _ => rfl)) pa_nil))))
      (pss_cons (ps_setLc (i := 9) (own := [("_law_paper", 14)]) (g := (gName 14)) (tt := tYes) (te := (tCall (spShN C) [] E0 (tCons (tVar 1) (tCons (tVar 3) (tCons (tVar 14) tNil))))) rfl sc__law_want_right.nd rfl rfl (sw_true rfl rfl rfl (by decide +kernel)) (pi_list (pv 8)) (blkOk_by (N := n__law_want_right) (sc := defScope a__law_want_right) (by decide +kernel))
          (fun _ _ _ _ _ => (pg_name (i := 14) sc__law_want_right.nd rfl (.inl rfl) (hf := .inr rfl))) (fun _ _ _ _ _ => pts_nil) (fun _ _ _ _ _ => (pe_kn Sn hr (by omega) (pa_cons (pv 1) (pa_cons (pv 3) (pa_cons (pv 14) pa_nil))))))
      (pss_one (ps_ret (pe_and (pe_cmpR op_eq (pe_ix ix_tup (pv 7) pe_int (fun _ _ => rfl)) pe_str (nomark _)) (pe_one (pe_cmpR op_eq (pe_callB (call_reprD hG hr.units) (by rfl) m_repr (by decide +kernel) (pa_cons (pv 9) pa_nil)) (pe_callB (call_reprD hG hr.units) (by rfl) m_repr (by decide +kernel) (pa_cons (pe_lst (pa_cons pe_bl (pa_cons pe_bl (pa_cons pe_bl pa_nil)))) pa_nil)) (nomark _)))))))) pss_nil)
      (pss_cons (ps_set (i := 10) sc__law_want_right.nd rfl (.inl rfl) (pe_callTy call_tuple_of (by rfl) m_tuple (by decide +kernel) (pa_cons (
        pe_lc (own := [("_law_place", 15), ("_law_low", 16), ("_law_high", 17)]) (g := (gTup K 2 (gCons (gName 15) (gCons (gTup K 2 (gCons (gName 16) (gCons (gName 17) gNil))) gNil)))) (tt := tYes) (te := tCB (fun xs H Q => ∃ i j, xs = [.int i, .int j] ∧ Q (.int (if j > i then j else i)) H) (tCons (tVar 16) (tCons (tCB (fun xs H Q => ∃ i j, xs = [.int i, .int j] ∧ Q (.int (if j < i then j else i)) H) (tCons (tVar 15) (tCons (tVar 17) tNil))) tNil))) rfl sc__law_want_right.nd (RZ.pi_zipA (by rfl) m_zip (pa_cons (pv 2) (pa_cons (pv 6) pa_nil))) (blkOk_by (N := n__law_want_right) (sc := defScope a__law_want_right) (by decide +kernel))
          (fun _ _ _ _ _ => (pg_tup rfl (pgs_cons (pg_name (i := 15) sc__law_want_right.nd rfl (.inl rfl) (hf := .inr rfl)) (pgs_cons (pg_tup rfl (pgs_cons (pg_name (i := 16) sc__law_want_right.nd rfl (.inl rfl) (hf := .inr rfl)) (pgs_cons (pg_name (i := 17) sc__law_want_right.nd rfl (.inl rfl) (hf := .inr rfl)) pgs_nil))) pgs_nil)))) (fun _ _ _ _ _ => pts_nil) (fun _ _ _ _ _ => (pe_callB (call_max2 rfl) (by rfl) m_max (by decide +kernel) (pa_cons (pv 16) (pa_cons (pe_callB (call_min2 rfl) (by rfl) m_min (by decide +kernel) (pa_cons (pv 15) (pa_cons (pv 17) pa_nil))) pa_nil))))) pa_nil)))
      (pss_cons (ps_if (PW.pt (pw_or (pt_cmpR op_ne (pe_callB (call_reprD hG hr.units) (by rfl) m_repr (by decide +kernel) (pa_cons (pe_knX Nx hr (by omega) (pa_cons (pv 1) (pa_cons (pv 2) (pa_cons (pv 3) pa_nil)))) pa_nil)) (pe_callB (call_reprD hG hr.units) (by rfl) m_repr (by decide +kernel) (pa_cons (pv 10) pa_nil)) (nomark _)) (pw_or (pt_cmpR op_ne (pe_ix ix_tup (pv 7) pe_int (fun _ _ => rfl)) pe_str (nomark _)) (pw_or1 (pt_cmpR op_ne (pe_callB call_len_seq (by rfl) m_len (by decide +kernel) (pa_cons (pe_ix ix_tup (pv 7) pe_int (fun _ _ => rfl)) pa_nil)) (pe_callB call_len_seq (by rfl) m_len (by decide +kernel) (pa_cons (pv 4) pa_nil)) (nomark _)))))) (pss_one (ps_ret pe_bl)) pss_nil)
      (pss_cons (ps_for PassesOwn.never rfl (pi_range1 (by rfl) m_range (pa_cons pe_int pa_nil)) (pg_name (i := 11) sc__law_want_right.nd rfl (.inl rfl))
        (pss_cons (ps_set (i := 12) sc__law_want_right.nd rfl (.inl rfl) (pe_kn T hr (by omega) (pa_cons (pv 0) (pa_cons (pe_callB call_len_seq (by rfl) m_len (by decide +kernel) (pa_cons (pv 4) pa_nil)) pa_nil))))
      (pss_one (ps_if (pt_cmpR op_ne (pe_callB (call_reprD hG hr.units) (by rfl) m_repr (by decide +kernel) (pa_cons (pe_ix ix_tup (pe_ix ix_tup (pv 7) pe_int (fun _ _ => rfl)) (pv 12) (fun _ _ => rfl)) pa_nil)) (pe_callB (call_reprD hG hr.units) (by rfl) m_repr (by decide +kernel) (pa_cons (pe_kn En hr (by omega) (pa_cons (pv 4) (pa_cons (pv 5) (pa_cons (pv 3) (pa_cons (pv 12) pa_nil))))) pa_nil)) (nomark _)) (pss_one (ps_ret pe_bl)) pss_nil))))
      (pss_cons (ps_set (i := 13) sc__law_want_right.nd rfl (.inl rfl) (pe_knX Ag hr (by omega) (pa_cons (pv 1) (pa_cons (pv 3) pa_nil))))
      (pss_cons (ps_if (PW.pt (pw_or (pt_cmpR (op_neD hr.units) (pe_kn Br hr (by omega) (pa_cons (pv 5) (pa_cons (pv 13) pa_nil))) (pe_lst pa_nil) (nomark _)) (pw_or1 (pt_not (pt_val (pe_kn Ha hr (by omega) (pa_cons (pv 3) (pa_cons (pv 13) pa_nil)))))))) (pss_one (ps_ret pe_bl)) pss_nil)
      (pss_one (ps_ret (pe_cmpR op_isB (pe_kn Sh hr (by omega) (pa_cons (pv 1) (pa_cons (pv 2) (pa_cons (pv 3) (pa_cons (pv 10) (pa_cons (pe_knX Np hr (by omega) (pa_cons (pv 1) (pa_cons (pv 2) (pa_cons (pv 3) pa_nil)))) pa_nil)))))) pe_bl (nomark _)))))))))))))), ?_⟩
    have w2 : (2 : Nat) ≤ sizeLine := by decide
    obtain ⟨dx, t, R, ex, et, hR⟩ := id hp
    have ls := goods_len hst
    have plz : ∀ i, i < tops.length → 0 ≤ plc tops i := fun i hi => by
      rw [plc_get hi]
      exact (pl _ (List.getElem_mem hi)).1
    have W0 : Wnt K C H x g tops rs W := ⟨hp, .inl (.inl hT.eg), hT.hW, hT.ok, rok, l40, by omega, l12, plz⟩
    have hS : ∀ s, s ∈ W.map (·.2) → SideOk tops s := W0.ok
    refine ⟨.ref x, rfl, x, C, dx, _, _, rfl, ex, TP.cl, TP.nT, look_tops _ _, .ref x, rfl, x, C, dx, _, _, rfl, ex, TP.cl, TP.nR, look_rules _ _, _, _, rfl, ?_⟩
    refine ⟨.ref t, rfl, .ref R, rfl, .ref g, rfl, t, R, g, tops, rs, W, rfl, et, hR, .inl (.inl hT.eg), hT.hW, hT.ok, rok, plz, l12, fun H1 r lows highs s1 hB1 F1 => ?_⟩
    refine ⟨.ref x, rfl, .ref g, rfl, x, g, tops, rs, W, rfl, W0.same s1, fun H2 f fl fh s2 nf hB2 F2 => ?_⟩
    obtain ⟨rfl, rfl⟩ := F2.same F1
    refine ⟨f, _, rfl, bnd_dpB hB2, show_bdB rok hS pl F1 l12, _, rfl, r, _, rfl, bnd_dpB (hB1.keep (.same s2)), show_bdB rok hS pl F1 l12, rfl, _, rfl, not_diff rfl ?_⟩
    have s12 := s1.trans s2
    refine ⟨.ref x, rfl, .ref g, rfl, x, g, tops, rs, W, rfl, W0.same s12, by omega, fun H3 h b blo bhi s3 had eh hB3 F3 => ?_, fun H3 h h' s3 eh bar nhad => ?_⟩
    · have s03 := s12.trans s3
      have s13 := s2.trans s3
      obtain ⟨Us, eU, lU, aU⟩ := id hB1
      have lT : Us.length = tops.length := lU.trans F1.ll
      have eU3 := s13 _ _ eU
      refine ⟨.ref r, rfl, r, rfl, ⟨_, .inl (.inl eU3)⟩, fun D nD => lc_it (walk_tup (xs := Us.map V.ref)) (fun i H' => Same H3 H' ∧ H' D = some (.lst (((List.range i).map fun i => decide (plc fl i ≤ plc fh i)).map V.bl))) ⟨same_new nD, upd_same⟩ (fun i H' _ u => .inl (.inl (u.1 _ _ eU3))) (fun i v' H2x H4 hi u z => ?_) (fun H4 u => ?_)⟩
      · obtain ⟨sm, eD⟩ := u
        obtain ⟨rfl, gv⟩ := z
        obtain ⟨T, eT, rfl⟩ := mapGet gv
        have e2 := sm _ _ (s13 _ _ (aU i T eT))
        have hi' : i < tops.length := by rw [List.length_map, lT] at hi; exact hi
        refine ⟨T, _, rfl, .inl (.inl e2), rfl, _, _, rfl, _, _, rfl, rfl, wipe_two, _, rfl, _, rfl, _, _, rfl, rfl, _, eD, ?_, same_over sm nD, ?_⟩
        · rw [List.length_map, List.length_map, List.length_range]
          exact small1000 (by omega)
        · rw [upd_same, List.range_succ, List.map_append, List.map_append]
          rfl
      obtain ⟨s4, eD⟩ := u
      rw [List.length_map, lT] at eD
      refine ⟨D, _, rfl, .inl (.inl eD), ?_⟩
      rw [all_id]
      have s04 := s03.trans s4
      have tr : ((List.range tops.length).all fun i => decide (plc fl i ≤ plc fh i)) = true := (all_lh fl fh tops.length).mpr ((F1.had rok hT.ok hst).mpr had)
      refine ⟨_, rfl, ?_⟩
      rw [tr]
      refine iteF ?_
      obtain ⟨g0, hg0, hi0⟩ := id had
      have NP := F1.nrst rok hS hst hg0 hi0
      have lp : (pullF fl fh st).length = tops.length := (pull_len fl fh st).trans ls
      have ea4 := s04 _ _ ea
      have eU4 := s4 _ _ eU3
      refine ⟨.ref a, rfl, .ref r, rfl, a, r, _, _, rfl, .inr ⟨.inl (.inl ea4), .inl (.inl eU4), fun D2 nD2 => lc_it (walk_zipT (xs := st.map V.int) (ys := Us.map V.ref) (by rw [List.length_map, List.length_map, lT, ls])) (fun i H' => Same H4 H' ∧ H' D2 = some (.lst (((pullF fl fh st).take i).map V.int))) ⟨same_new nD2, upd_same⟩ (fun i H' _ y => ⟨.inl (.inl (y.1 _ _ ea4)), .inl (.inl (y.1 _ _ eU4))⟩) (fun i v H5 H6 hi y z => ?_) (fun H5 y => ?_)⟩⟩
      · obtain ⟨s5, eD2⟩ := y
        obtain ⟨T, x', y, rfl, nT, rfl, gx, gy⟩ := z
        obtain ⟨x', ex', rfl⟩ := mapGet gx
        obtain ⟨U, eU', rfl⟩ := mapGet gy
        have hi' : i < tops.length := by rw [List.length_map, ls] at hi; exact hi
        have eu := (same_new (o := HO.tup [V.int x', V.ref U]) nT) _ _ (s5 _ _ ((s13.trans s4) _ _ (aU i U eU')))
        have px : plc st i = x' := by
          show st.getD i 0 = x'
          rw [List.getD_eq_getElem?_getD, ex']
          rfl
        refine ⟨T, _, rfl, .inl (.inl upd_same), rfl, _, _, rfl, _, _, rfl, U, _, rfl, .inl (.inl eu), rfl, _, _, rfl, _, _, rfl, rfl, rfl, wipe_seq3, _, rfl, _, rfl, _, rfl, _, _, rfl, _, _, rfl, _, (upd_ne (ne_of_none eD2 nT)).trans eD2, ?_, ?_, ?_⟩
        · rw [List.length_map, List.length_take]
          exact small1000 (by omega)
        · exact same_over (same_over s5 (s5.free nT)) nD2
        · have eg : (pullF fl fh st)[i]? = some (if (if plc fh i < x' then plc fh i else x') > plc fl i then (if plc fh i < x' then plc fh i else x') else plc fl i) := by
            rw [List.getElem?_eq_getElem (by omega), ← plc_get, plc_pull (by omega), px]
            congr 1
            split <;> split <;> omega
          rw [upd_same, List.take_add_one, eg, List.map_append]
          rfl
      obtain ⟨s5, eD2⟩ := y
      rw [List.length_map, ls, ← lp, List.take_length] at eD2
      have bdP : ∀ z ∈ pullF fl fh st, z.natAbs < 10 ^ 90 := fun z hz => by
        obtain ⟨k, hk, e⟩ := List.getElem_of_mem hz
        have b := (goods_mem.mp NP.good).1.2 k (by omega)
        have bt := pl _ (List.getElem_mem (show k < tops.length by omega))
        rw [← plc_get (show k < tops.length by omega)] at bt
        rw [plc_get hk, e] at b
        have big : (10 : Int) ^ 30 < 10 ^ 90 := by decide
        have c : ((10 : Nat) ^ 90 : Int) = ((10 : Int) ^ 90) := by decide
        omega
      have shP : Showable (.tuple ((pullF fl fh st).map PyData.int)) := (Small.tuple (SmallAll.ints bdP)).ok (by omega) (by decide)
      refine ⟨D2, _, rfl, .inl ⟨.inl (.inl eD2), fun B nB => ?_⟩⟩
      have s6 := s5.trans (same_new (o := HO.tup ((pullF fl fh st).map V.int)) nB)
      have eB : (upd H5 B (.tup ((pullF fl fh st).map V.int))) B = some (.tup ((pullF fl fh st).map V.int)) := upd_same
      have s06 := s04.trans s6
      generalize (upd H5 B (.tup ((pullF fl fh st).map V.int))) = H6 at s6 eB s06 ⊢
      refine ⟨.ref x, rfl, .ref a, rfl, .ref g, rfl, x, a, g, tops, st, rs, W, rfl, W0.same s06, s06 _ _ ea, hst, fun H7 pn n s7 _ en N => ?_, fun _ _ _ _ _ nh => absurd had nh⟩
      obtain rfl := NP.uniq N
      have eh7 := s7 _ _ (s6 _ _ (s4 _ _ eh))
      have s07 := s06.trans s7
      have s37 := s4.trans (s6.trans s7)
      obtain ⟨Ub, eUb, lUb, aUb⟩ := id hB3
      have F3' : Fol tops rs (WF tops rs W) blo bhi := F3
      refine ⟨pn, _, rfl, dpt en, shP, _, rfl, B, _, rfl, dpt (s7 _ _ eB), shP, rfl, _, rfl, not_diff rfl ⟨.ref h, rfl, h, _, 0, _, rfl, rfl, .inl (.inl eh7), atI_nat (j := 0) rfl, rfl, _, rfl, not_diff rfl ⟨.ref h, rfl, h, _, 1, _, rfl, rfl, .inl (.inl eh7), atI_nat (j := 1) rfl, b, _, rfl, .inr (.inl (.inl (s37 _ _ eUb))), .ref t, rfl, t, _, rfl, .inr (.inl (.inl (s07 _ _ et))), rfl, _, rfl, not_diff (by rw [List.length_map, List.length_map, lUb, F3.ll]) ?_⟩⟩⟩
      have pp7 := pp.keep s07
      refine ⟨_, rfl, by decide, by decide, for_it walk_range (fun j σ H' => (∃ u11 u12, σ = [some (.ref p), some (.ref x), some (.ref a), some (.ref g), some (.ref t), some (.ref R), some (.ref r), some (.ref h), none, none, some (.ref B), u11, u12, none, none, none, none, none]) ∧ But p H7 H' ∧ PotAt H' p (c + j)) ⟨⟨_, _, rfl⟩, .of (Same.refl _), pp7⟩ (fun _ _ _ _ _ => trivial) (fun j v σ H8 H9 hj y z => ?_) (fun σ H8 y => ?_)⟩
      · obtain ⟨⟨u11, u12, rfl⟩, b8, p8⟩ := y
        obtain ⟨rfl, rfl⟩ := z
        have hj3 : j < 3 := hj
        have k8 := Keep.but b8 pp7
        have et8 := k8.tup (s07 _ _ et)
        refine ⟨.ref p, rfl, .ref t, rfl, t, _, rfl, .inr (.inl (.inl et8)), p, _, _, rfl, p8, by rw [List.length_map]; omega, Int.lt_of_le_of_lt (show ((tops.map V.int).length : Int) ≤ 12 by rw [List.length_map]; omega) (by decide), by omega, fun d H9 b9 p9 d0 d1 => ?_⟩
        rw [List.length_map] at d1
        obtain ⟨d, rfl⟩ : ∃ i : Nat, d = i := ⟨d.toNat, by omega⟩
        have ld : d < tops.length := by omega
        have k9 := k8.trans (Keep.but b9 p8)
        have k09 : Keep H H9 := (Keep.same s07).trans k9
        have k39 : Keep H3 H9 := (Keep.same s37).trans k9
        have eh9 := k9.tup eh7
        have eUd : Ub[d]? = some (Ub[d]'(by rw [lUb, F3.ll]; exact ld)) := List.getElem?_eq_getElem _
        have eTd := k39.tup (aUb d _ eUd)
        have sd := F3.small rok (wf_ok rok hT.ok) pl d ld
        have dd : ∀ {K : PySem.W.Frag} {J : Hp} {q : Addr}, J q = some (.tup [.int (plc blo d), .int (plc bhi d)]) → Dp K J (.ref q) (.tuple ([plc blo d, plc bhi d].map PyData.int)) := fun e => dpt e
        have sh2 : Showable (.tuple ([plc blo d, plc bhi d].map PyData.int)) := (Small.tuple (SmallAll.ints (xs := [plc blo d, plc bhi d]) fun z hz => by
          rcases List.mem_cons.mp hz with rfl | hz
          · exact sd.1
          · rw [List.mem_singleton.mp hz]
            exact sd.2)).ok (show 311 * 2 ≤ _ by decide) (by decide)
        refine ⟨.ref h, rfl, h, _, 1, _, rfl, rfl, .inl (.inl eh9), atI_nat (j := 1) rfl, _, rfl, b, _, d, _, rfl, rfl, .inl (.inl (k39.tup eUb)), atI_nat (by rw [List.getElem?_map, eUd]; rfl), _, _, rfl, dd eTd, sh2, .ref t, rfl, .ref R, rfl, .ref g, rfl, _, rfl, t, R, g, tops, rs, W, d, blo, bhi, rfl, k09.tup et, hR.keep k09, .inl (.inl (k09.tup hT.eg)), hT.hW.keep k09, hT.ok, rok, plz, l12, lW, l40, ld, had, F3', fun H10 e s10 ee => ⟨e, _, rfl, dd ee, sh2, rfl, _, rfl, not_diff rfl ⟨⟨_, _, rfl⟩, b8.trans (b9.trans (.of s10)), ?_⟩⟩⟩
        exact (p9.keep s10).mono (by omega)
      · obtain ⟨⟨u11, u12, rfl⟩, b8, p8⟩ := y
        have k8 := Keep.but b8 pp7
        have k08 : Keep H H8 := (Keep.same s07).trans k8
        have W8 : Wnt K C H8 x g tops rs W := ⟨hp.keep k08, .inl (.inl (k08.tup hT.eg)), hT.hW.keep k08, hT.ok, rok, l40, by omega, l12, plz⟩
        refine ⟨.ref x, rfl, .ref g, rfl, x, g, tops, rs, W, rfl, W8, by omega, fun H9 pg gd s9 _ egd hgd hin => ?_, fun _ _ _ _ _ nh => absurd had nh⟩
        have k09 : Keep H H9 := k08.trans (.same s9)
        have lg := goods_len hgd
        refine ⟨.ref R, rfl, .ref pg, rfl, R, pg, rs, gd, rfl, hR.keep k09, egd, l40, fun y hy => fit_of (rok y hy) lg, fun H10 bl s10 nb eb => ⟨Nat.zero_le _, fun z nz => ?_⟩⟩
        rw [(brok_nil gd rs).mpr (goodB_iff.mpr (goods_mem.mp hgd).2)] at eb
        have s11 := s10.trans (same_new (o := HO.lst []) nz)
        refine ⟨_, _, .lst (.inl (.inl (same_new nz _ _ eb))) .nil, .lst (.inl (.inl upd_same)) .nil, rfl, rfl, _, rfl, iteF ?_⟩
        have k0b : Keep H (upd H10 z (.lst [])) := k09.trans (.same s11)
        refine ⟨.ref g, rfl, .ref pg, rfl, g, pg, tops, gd, W, rfl, hT.keep k0b, s11 _ _ egd, lg, by omega, fun H12 s12 => ⟨_, rfl, ?_⟩⟩
        rw [show ((W.map (·.2)).all (inB gd)) = true from List.all_eq_true.mpr hin]
        refine iteF ?_
        have k0c : Keep H H12 := k0b.trans (.same s12)
        have kBc : Keep H6 H12 := (Keep.same s7).trans (k8.trans (.same (s9.trans (s11.trans s12))))
        have Wc : Wnt K C H12 x g tops rs W := ⟨hp.keep k0c, .inl (.inl (k0c.tup hT.eg)), hT.hW.keep k0c, hT.ok, rok, l40, by omega, l12, plz⟩
        refine ⟨.ref x, rfl, .ref a, rfl, .ref g, rfl, .ref B, rfl, .ref x, rfl, .ref a, rfl, .ref g, rfl, x, a, g, tops, st, rs, W, rfl, Wc, k0c.tup ea, hst, fun H13 rp n s13 _ N2 pap => ?_, fun _ _ _ _ _ nh => absurd had nh⟩
        obtain rfl := N.uniq N2
        obtain ⟨xs, ds, erp, Ds, lds, rws, pul⟩ := pap_data (lp.trans ls.symm) pap
        have k0d : Keep H H13 := k0c.trans (.same s13)
        obtain ⟨dx2, t2, R2, ex2, et2, hR2⟩ := hp.keep k0d
        have PT : PlanTo C H13 x t2 tops := ⟨dx2, R2, ex2, et2⟩
        have eB13 := s13 _ _ (kBc.tup eB)
        refine ⟨p, x, t2, a, g, tops, st, rs, W, .ref B, .ref rp, .tuple ((pullF fl fh st).map PyData.int), .tuple ds, rfl, hp.keep k0d, PT, l12, k0d.tup ea, ls, k0d.tup hT.eg, hT.hW.keep k0d, hT.ok, by omega, .tup eB13 (daI _), Db.da (E := only p) (.tup erp (Ds _)) rfl, rok, l40, fun es e y hy => ?_, fun H14 s14 => ⟨_, true, rfl, rfl, ?_⟩⟩
        · cases e
          obtain ⟨L, rfl, _, lL⟩ := (rws y hy).ex
          rw [dlen_sds]
          omega
        · rw [shows_right N pul]
          have sEnd := s9.trans (s11.trans (s12.trans (s13.trans s14)))
          exact q _ ((But.of s07).trans (b8.trans (.of sEnd))) (p8.keep sEnd)
    · have s03 := s12.trans s3
      have s13 := s2.trans s3
      obtain ⟨Us, eU, lU, aU⟩ := id hB1
      have lT : Us.length = tops.length := lU.trans F1.ll
      have eU3 := s13 _ _ eU
      refine ⟨.ref r, rfl, r, rfl, ⟨_, .inl (.inl eU3)⟩, fun D nD => lc_it (walk_tup (xs := Us.map V.ref)) (fun i H' => Same H3 H' ∧ H' D = some (.lst (((List.range i).map fun i => decide (plc fl i ≤ plc fh i)).map V.bl))) ⟨same_new nD, upd_same⟩ (fun i H' _ u => .inl (.inl (u.1 _ _ eU3))) (fun i v' H2x H4 hi u z => ?_) (fun H4 u => ?_)⟩
      · obtain ⟨sm, eD⟩ := u
        obtain ⟨rfl, gv⟩ := z
        obtain ⟨T, eT, rfl⟩ := mapGet gv
        have e2 := sm _ _ (s13 _ _ (aU i T eT))
        have hi' : i < tops.length := by rw [List.length_map, lT] at hi; exact hi
        refine ⟨T, _, rfl, .inl (.inl e2), rfl, _, _, rfl, _, _, rfl, rfl, wipe_two, _, rfl, _, rfl, _, _, rfl, rfl, _, eD, ?_, same_over sm nD, ?_⟩
        · rw [List.length_map, List.length_map, List.length_range]
          exact small1000 (by omega)
        · rw [upd_same, List.range_succ, List.map_append, List.map_append]
          rfl
      obtain ⟨s4, eD⟩ := u
      rw [List.length_map, lT] at eD
      refine ⟨D, _, rfl, .inl (.inl eD), ?_⟩
      rw [all_id]
      have s04 := s03.trans s4
      have fa : ((List.range tops.length).all fun i => decide (plc fl i ≤ plc fh i)) = false := by
        cases e : ((List.range tops.length).all fun i => decide (plc fl i ≤ plc fh i)) with
        | false => rfl
        | true => exact absurd ((F1.had rok hT.ok hst).mp ((all_lh fl fh tops.length).mp e)) nhad
      refine ⟨_, rfl, ?_⟩
      rw [fa]
      refine iteT ?_
      refine ⟨.ref x, rfl, .ref a, rfl, .ref g, rfl, x, a, g, tops, st, rs, W, rfl, W0.same s04, by omega, s04 _ _ ea, hst, nhad, fun H5 l h1 h2 s5 nl el b1 b2 => ?_⟩
      have w1 : (1 : Nat) ≤ sizeLine := by decide
      have eh5 := s5 _ _ (s4 _ _ eh)
      refine ⟨.ref h, rfl, h, _, 1, _, rfl, rfl, .inl (.inl eh5), atI_nat (j := 1) rfl, w1, fun l2 n2 => ⟨l, l2, _, _, rfl, rfl, same_new n2 _ _ el, upd_same, (show 3 ≤ sizeLine by decide), fun l3 n3 => ?_⟩⟩
      have s6 := (same_new (o := HO.lst [V.ref h']) n2).trans (same_new (o := HO.lst ([V.ref h1, V.ref h2] ++ [V.ref h'])) n3)
      have el3 : (upd (upd H5 l2 (.lst [V.ref h'])) l3 (.lst ([V.ref h1, V.ref h2] ++ [V.ref h']))) l3 = some (.lst [.ref h1, .ref h2, .ref h']) := upd_same
      have s06 := s04.trans (s5.trans s6)
      have b1' := b1.imp (fun z => z.same s6) (fun z => z.same s6)
      have b2' := b2.imp (fun z => z.same s6) (fun z => z.same s6)
      have b3' := bar.imp (fun z => z.same (s4.trans (s5.trans s6))) (fun z => z.same (s4.trans (s5.trans s6)))
      have eh6 := s6 _ _ eh5
      generalize (upd (upd H5 l2 (.lst [V.ref h'])) l3 (.lst ([V.ref h1, V.ref h2] ++ [V.ref h']))) = H6 at s6 el3 s06 b1' b2' b3' eh6 ⊢
      refine ⟨.ref l3, rfl, l3, rfl, ⟨_, .inl (.inl el3)⟩, fun D2 nD2 => lc_it (walk_list (xs := [V.ref h1, V.ref h2, V.ref h'])) (fun i H' => Same H6 H' ∧ H' D2 = some (.lst ((List.replicate i true).map V.bl))) ⟨same_new nD2, upd_same⟩ (fun i H' _ u => .inl (.inl (u.1 _ _ el3))) (fun i v' H7x H7 hi u z => ?_) (fun H7 u => ?_)⟩
      · obtain ⟨s7, eD2⟩ := u
        obtain ⟨rfl, gv⟩ := z
        have hi3 : i < 3 := hi
        obtain ⟨y, rfl, by'⟩ : ∃ y : Addr, v' = .ref y ∧ (BarAt H6 y tops rs W ∨ RgP H6 y tops rs) := by
          have : i = 0 ∨ i = 1 ∨ i = 2 := by omega
          rcases this with rfl | rfl | rfl
          · exact ⟨h1, (Option.some.inj gv).symm, b1'⟩
          · exact ⟨h2, (Option.some.inj gv).symm, b2'⟩
          · exact ⟨h', (Option.some.inj gv).symm, b3'⟩
        have by7 := by'.imp (fun z => z.same s7) (fun z => z.same s7)
        obtain ⟨ds, da, dl, no⟩ := paper_none rok hT.ok by7
        have s07 := s06.trans s7
        refine ⟨wipe_one, .ref x, rfl, .ref g, rfl, .ref y, rfl, p, x, g, tops, rs, W, .ref y, .tuple ds, rfl, hp.keep (.same s07), s07 _ _ hT.eg, hT.hW.keep (.same s07), hT.ok, by omega, da p, rok, l40, fun es e z hz => ?_, fun H8 s8 => ⟨_, s8 _ _ eD2, ?_, same_over (s7.trans s8) nD2, ?_⟩⟩
        · cases e
          exact dl z hz
        · rw [List.length_map, List.length_replicate]
          exact small1000 (by omega)
        · rw [upd_same, no, List.replicate_succ', List.map_append]
          rfl
      obtain ⟨s7, eD2⟩ := u
      have eh7 := s7 _ _ eh6
      refine ⟨.ref h, rfl, h, _, 0, _, rfl, rfl, .inl (.inl eh7), atI_nat (j := 0) rfl, rfl, _, rfl, iteTr (by decide +kernel) ?_⟩
      have sb : Showable (.list [.bool true, .bool true, .bool true]) := (Small.list (SmallAll.cons (Small.bool true) (SmallAll.cons (Small.bool true) (SmallAll.cons (Small.bool true) .nil)))).ok (by decide) (by decide)
      refine ⟨.ref D2, rfl, D2, .list [.bool true, .bool true, .bool true], rfl, .lst (.inl (.inl eD2)) (.cons (.bl true) (.cons (.bl true) (.cons (.bl true) .nil))), sb, (show 3 ≤ sizeLine by decide), fun l4 n4 => ⟨l4, .list [.bool true, .bool true, .bool true], rfl, .lst (.inl (.inl upd_same)) (.cons (.bl true) (.cons (.bl true) (.cons (.bl true) .nil))), sb, rfl, ?_⟩⟩
      rw [decide_eq_true rfl]
      have s08 := (s06.trans s7).trans (same_new (o := HO.lst [.bl true, .bl true, .bl true]) n4)
      exact q _ (.of s08) ((pp.keep s08).mono (by omega))
end
end K16

set_option Elab.async false
set_option linter.all false
set_option maxRecDepth 100000
namespace K16
open PySem PySem.Spec PyProof.Rows L2 NB

/-! ### great lines pressed: the law -/
theorem idle_kept {tops st : List Int} {H : Hp} {o : Addr} (l1 : 1 ≤ tops.length) (S : Std tops H o st) : kept st (idleR tops) = true := by
  have hl : 0 < st.length := by rw [S.len]; omega
  have h : inB st (0, true, 0) = true := (inFr hl).mpr (by rw [plc_get hl]; exact (S.pl _ (List.getElem_mem hl)).1)
  show (inB st (0, true, 0) || inB st (0, false, plc tops 0)) = true
  rw [h]
  rfl
section
variable {P : Program} {w : World} {K : PySem.W.Frag} {mg : Str → Option Value} {base : Heap}
def spR16 : Sp := fun vs H Q _ => ∃ (p : Addr) (c : Nat), vs = [.ref p] ∧ PotAt H p c ∧ c < 400000 ∧ ∀ H', But p H H' → Q (.bl true) H'
abbrev a__law_right : Stmt := topS 87
abbrev n__law_right : List Str := ["_law_pot_here", "_law_tops", "_law_rules_here", "_law_one", "_law_two", "_law_plan_here", "_law_standing_here", "_law_want", "_law_full", "_law_k"]
theorem sc__law_right : FnScope n__law_right ["_law_pot_here"] (defScope a__law_right) := ⟨rfl, rfl, rfl, by decide +kernel, rfl, by decide +kernel, by decide +kernel⟩
set_option maxHeartbeats 8000000 in
theorem ok__law_right {f fGr fPd fNs fT fWr fSi : Addr} {fd fdGr fdPd fdNs fdT fdWr fdSi : FuncData}  {C f0 : Addr} {fd0 : FuncData} (F : Fun K "_law_right" "_law_right" a__law_right f fd) (Gr : Kn P w K mg base 5 "_law_great" ["_law_pot_here"] spGreat fGr fdGr) (Pd : Kn P w K mg base 2 "_law_padded" ["_law_pot_here", "_law_tops", "_law_rules_here"] spPad fPd fdPd) (Ns : Kn P w K mg base 3 "_law_near_side" ["_law_pot_here", "_law_tops", "_law_rules_here"] spNS fNs fdNs) (T : Kn P w K mg base 1 "_law_take" ["_law_pot_here", "_law_many"] spTake fT fdT) (Wr : FnG P w K mg base 12 fWr fdWr ["_law_pot_here", "_law_plan_here", "_law_standing_here", "_law_want"] (spWr16 C)) (gWr : mg "_law_want_right" = some (.ref fWr)) (kWr : PySem.W.keepIn K (.ref fWr) = true) (bWr : Binds K fdWr ["_law_pot_here", "_law_plan_here", "_law_standing_here", "_law_want"] []) (Si : Kn P w K mg base 2 "_law_side_in" ["_law_pot_here", "_law_tops", "_law_standing_here"] spSideIn fSi fdSi) (TX : PlanTxt K mg C) (M : Mk K C f0) (GI : FnOk P w K mg base CX0 7 f0 fd0 ["self", "tops", "rules"] (spInit C)) (bI : Binds K fd0 ["self", "tops", "rules"] []) (m_range : mg "range" = none) (m_tuple : mg "tuple" = none) : FnG P w K mg base 13 f fd ["_law_pot_here"] spR16 := by
  refine fnG F sc__law_right (fun vs H Q E h => ?_) (fun cdv A outer s H vs Q E hG hr h => ?_)
  · obtain ⟨p, c, rfl, _⟩ := h
    rfl
  · obtain ⟨p, c, rfl, pp, hc, q⟩ := h
    refine ⟨_, (pss_cons (ps_asg (pe_kn Gr hr (by omega) (pa_cons (pv 0) pa_nil)) (pg_tup rfl (pgs_cons (pg_name (i := 1) sc__law_right.nd rfl (.inr rfl)) (pgs_cons (pg_name (i := 2) sc__law_right.nd rfl (.inr rfl)) (pgs_cons (pg_name (i := 3) sc__law_right.nd rfl (.inl rfl)) (pgs_cons (pg_name (i := 4) sc__law_right.nd rfl (.inr rfl)) pgs_nil))))))
      (pss_cons (ps_set (i := 2) sc__law_right.nd rfl (.inr rfl) (pe_kn Pd hr (by omega) (pa_cons (pv 0) (pa_cons (pv 1) (pa_cons (pv 2) pa_nil)))))
      (pss_cons (ps_set (i := 5) sc__law_right.nd rfl (.inl rfl) (pe_make M GI (hr.mono (by omega)) (by rfl) TX.mgC bI .nil pass0 (pa_cons (pv 1) (pa_cons (pv 2) pa_nil))))
      (pss_cons (ps_for PassesOwn.never rfl (pi_tup (pe_tup (pa_cons (pv 3) (pa_cons (pv 4) pa_nil)))) (pg_name (i := 6) sc__law_right.nd rfl (.inl rfl))
        (pss_cons (ps_set (i := 7) sc__law_right.nd rfl (.inl rfl) (pe_callTy call_tuple_of (by rfl) m_tuple (by decide +kernel) (pa_cons (
        pe_lc (own := [("_law_k", 9)]) (g := (gName 9)) (tt := tYes) (te := (tCall spNS [] E0 (tCons (tVar 0) (tCons (tVar 1) (tCons (tVar 2) tNil))))) rfl sc__law_right.nd (pi_range1 (by rfl) m_range (pa_cons (pe_op (r := rI0 fun i j => .int (i + j)) op_add pe_int (pe_kn T hr (by omega) (pa_cons (pv 0) (pa_cons pe_int pa_nil)))) pa_nil)) (blkOk_by (N := n__law_right) (sc := defScope a__law_right) (by decide +kernel))
          (fun _ _ _ _ _ => (pg_name (i := 9) sc__law_right.nd rfl (.inl rfl) (hf := .inr rfl))) (fun _ _ _ _ _ => pts_nil) (fun _ _ _ _ _ => (pe_kn Ns hr (by omega) (pa_cons (pv 0) (pa_cons (pv 1) (pa_cons (pv 2) pa_nil)))))) pa_nil)))
      (pss_one (ps_if (pt_not (pt_val (pe_callG hG Wr (hr.mono (by omega)) (by rfl) gWr kWr bWr (pa_cons (pv 0) (pa_cons (pv 5) (pa_cons (pv 6) (pa_cons (pv 7) pa_nil))))))) (pss_one (ps_ret pe_bl)) pss_nil))))
      (pss_cons (ps_set (i := 8) sc__law_right.nd rfl (.inl rfl) (pe_callTy call_tuple_of (by rfl) m_tuple (by decide +kernel) (pa_cons (
        pe_lc (own := [("_law_k", 9)]) (g := (gName 9)) (tt := tYes) (te := (tCall spSideIn [] E0 (tCons (tVar 0) (tCons (tVar 1) (tCons (tVar 4) tNil))))) rfl sc__law_right.nd (pi_range1 (by rfl) m_range (pa_cons pe_int pa_nil)) (blkOk_by (N := n__law_right) (sc := defScope a__law_right) (by decide +kernel))
          (fun _ _ _ _ _ => (pg_name (i := 9) sc__law_right.nd rfl (.inl rfl) (hf := .inr rfl))) (fun _ _ _ _ _ => pts_nil) (fun _ _ _ _ _ => (pe_kn Si hr (by omega) (pa_cons (pv 0) (pa_cons (pv 1) (pa_cons (pv 4) pa_nil)))))) pa_nil)))
      (pss_one (ps_ret (pe_callG hG Wr (hr.mono (by omega)) (by rfl) gWr kWr bWr (pa_cons (pv 0) (pa_cons (pv 5) (pa_cons (pv 3) (pa_cons (pv 8) pa_nil)))))))))))), ?_⟩
    have w2 : (2 : Nat) ≤ sizeLine := by decide
    refine ⟨.ref p, rfl, p, c, rfl, pp, by omega, fun H1 g t R o1 o2 tops st1 st2 rs b1 p1 eg et l1 l12 pl hR lR S1 S2 ok => ?_⟩
    have plz : ∀ i, i < tops.length → 0 ≤ plc tops i := fun i hi => by
      rw [plc_get hi]
      exact (pl _ (List.getElem_mem hi)).1
    refine ⟨g, _, rfl, .inl (.inl eg), rfl, _, _, rfl, _, _, rfl, _, _, rfl, _, _, rfl, rfl, ?_⟩
    refine ⟨.ref p, rfl, .ref t, rfl, .ref R, rfl, p, t, R, tops, rs, _, rfl, p1, by omega, et, l1, plz, hR, lR, fun H2 R' rs' b2 p2 hR2 l40 sb => ?_⟩
    have k2 := Keep.but b2 p1
    have et2 := k2.tup et
    have S1' := S1.keep k2
    have S2' := S2.keep k2
    have rok : ∀ q ∈ rs', RuleOk tops q := fun q hq => by
      rcases sb q hq with rfl | h
      · exact ⟨SideOk.mk' (by omega) (Int.le_refl 0) (plz 0 (by omega)), SideOk.mk' (by omega) (plz 0 (by omega)) (Int.le_refl _)⟩
      · exact (ok q h).1
    have g1 : st1 ∈ goods tops rs' := std_goods S1' fun q hq => by
      rcases sb q hq with rfl | h
      · exact idle_kept l1 S1'
      · exact (ok q h).2.1
    have g2 : st2 ∈ goods tops rs' := std_goods S2' fun q hq => by
      rcases sb q hq with rfl | h
      · exact idle_kept l1 S2'
      · exact (ok q h).2.2
    refine ⟨.ref t, rfl, .ref R', rfl, fun x dx nx ndx ne => ?_⟩
    refine plan_made (C := C) (rs := rs') nx ndx ne et2 hR2 l1 l12 pl l40 rok fun H3 s3 hp => ⟨rfl, ?_⟩
    refine ⟨.ref o1, rfl, .ref o2, rfl, w2, fun T0 nT0 => ?_⟩
    have s4 := same_new (o := HO.tup [V.ref o1, V.ref o2]) nT0
    have eT : (upd H3 T0 (.tup [V.ref o1, V.ref o2])) T0 = some (.tup [V.ref o1, V.ref o2]) := upd_same
    have k24 : Keep H2 (upd H3 T0 (.tup [V.ref o1, V.ref o2])) := .same (s3.trans s4)
    have b4 : But p H (upd H3 T0 (.tup [V.ref o1, V.ref o2])) := b1.trans (b2.trans (.of (s3.trans s4)))
    have p4 := p2.keep (s3.trans s4)
    have hp4 := hp.keep (.same s4)
    generalize (upd H3 T0 (.tup [V.ref o1, V.ref o2])) = H4 at eT k24 b4 p4 hp4 ⊢
    have et4 := k24.tup et2
    have hR4 := hR2.keep k24
    have S14 := S1'.keep k24
    have S24 := S2'.keep k24
    refine ⟨T0, rfl, ⟨_, .inl (.inl eT)⟩, for_it (walk_tup (xs := [V.ref o1, V.ref o2])) (fun j σ H' => (∃ u6 u7, σ = [some (.ref p), some (.ref t), some (.ref R'), some (.ref o1), some (.ref o2), some (.ref x), u6, u7, none, none]) ∧ But p H4 H' ∧ PotAt H' p (c + 3001 + 24 * j)) ⟨⟨_, _, rfl⟩, .of (Same.refl _), p4⟩ (fun j σ H' _ y => .inl (.inl ((Keep.but y.2.1 p4).tup eT))) (fun j v σ J0 J hj y z => ?_) (fun σ J y => ?_)⟩
    · obtain ⟨⟨u6, u7, rfl⟩, bJ, pJ⟩ := y
      obtain ⟨rfl, gv⟩ := z
      have hj2 : j < 2 := hj
      obtain ⟨o, st, rfl, So, go⟩ : ∃ (o : Addr) (st : List Int), v = .ref o ∧ Std tops H4 o st ∧ st ∈ goods tops rs' := by
        have : j = 0 ∨ j = 1 := by omega
        rcases this with rfl | rfl
        · exact ⟨o1, st1, (Option.some.inj gv).symm, S14, g1⟩
        · exact ⟨o2, st2, (Option.some.inj gv).symm, S24, g2⟩
      refine ⟨.ref p, rfl, p, 4, _, rfl, pJ, by decide, by decide, by omega, fun d J1 b1' p1' d0 d3 => ⟨_, _, rfl, rfl, _, rfl, by omega, by omega, fun D2 nD2 => ?_⟩⟩
      have nD2p := p1'.ne nD2
      refine lc_it walk_range (fun k H' => But p J1 H' ∧ PotAt H' p (c + 3001 + 24 * j + 1 + 5 * k) ∧ ∃ L, H' D2 = some (.lst (sdR L)) ∧ L.length = k ∧ SdsAt H' L ∧ ∀ z ∈ L, SideOk tops z.2) ⟨But.of (same_new nD2), pot_upd (p1'.mono (by omega)) nD2p, [], upd_same, rfl, (fun _ h => absurd h List.not_mem_nil), (fun _ h => absurd h List.not_mem_nil)⟩ (fun _ _ _ _ => trivial) (fun k v Jy J2 hk y z => ?_) (fun J2 y => ?_)
      · obtain ⟨b2', p2', L, eD2, lL, hL, oL⟩ := y
        obtain ⟨rfl, rfl⟩ := z
        have k4 : k < 4 := by omega
        have kk := (Keep.but bJ p4).trans ((Keep.but b1' pJ).trans (Keep.but b2' p1'))
        refine ⟨wipe_one, .ref p, rfl, .ref t, rfl, .ref R', rfl, p, t, R', tops, rs', _, rfl, p2', by omega, kk.tup et4, pl, l1, l12, hR4.keep kk, l40, fun J3 s1 sd b3' p3' hs oks => ?_⟩
        have eD3 := b3' _ _ nD2p eD2
        have kU : Keep J3 (upd J3 D2 (.lst (sdR L ++ [V.ref s1]))) := .upd eD3
        refine ⟨_, eD3, by rw [List.length_map]; exact small1000 (by omega), but_new (b2'.trans b3') nD2, pot_upd (p3'.mono (by omega)) nD2p, L ++ [(s1, sd)], by rw [upd_same]; exact congrArg (fun x => some (HO.lst x)) (List.map_append (l₂ := [(s1, sd)])).symm, by rw [List.length_append, lL]; rfl, fun z hz => ?_, fun z hz => ?_⟩
        · rcases List.mem_append.mp hz with h | h
          · exact ((hL z h).keep (Keep.but b3' p2')).keep kU
          · rw [List.mem_singleton.mp h]
            exact hs.keep kU
        · rcases List.mem_append.mp hz with h | h
          · exact oL z h
          · rw [List.mem_singleton.mp h]
            exact oks
      · obtain ⟨b2', p2', L, eD2, lL, hL, oL⟩ := y
        have lL4 : L.length ≤ 4 := by omega
        refine ⟨D2, _, rfl, .inl ⟨.inl (.inl eD2), fun g' ng' => ?_⟩⟩
        have sg := same_new (o := HO.tup (sdR L)) ng'
        have hT' : Tsd tops (upd J2 g' (.tup (sdR L))) g' L := ⟨upd_same, hL.keep (.same sg), oL⟩
        have kW := ((Keep.but bJ p4).trans ((Keep.but b1' pJ).trans (Keep.but b2' p1'))).trans (.same sg)
        refine ⟨.ref p, rfl, .ref x, rfl, .ref o, rfl, .ref g', rfl, p, x, o, g', tops, st, rs', L, c + 3001 + 24 * j + 21, rfl, (p2'.keep sg).mono (by omega), by omega, hp4.keep kW, kW.tup So.at', go, hT', by omega, pl, l1, l12, l40, rok, fun J4 b4' p4' => ⟨_, rfl, iteF ⟨⟨_, _, rfl⟩, bJ.trans (b1'.trans (b2'.trans ((But.of sg).trans b4'))), p4'.mono (by omega)⟩⟩⟩
    · obtain ⟨⟨u6, u7, rfl⟩, bJ, pJ⟩ := y
      have pJ' : PotAt J p (c + 3001 + 24 * 2) := pJ
      refine ⟨24, rfl, by decide, by decide, fun D2 nD2 => ?_⟩
      have nD2p := pJ.ne nD2
      refine lc_it walk_range (fun k H' => But p J H' ∧ PotAt H' p (c + 3100 + 3 * k) ∧ ∃ L, H' D2 = some (.lst (sdR L)) ∧ L.length = k ∧ SdsAt H' L ∧ ∀ z ∈ L, SideOk tops z.2) ⟨But.of (same_new nD2), pot_upd (pJ'.mono (by omega)) nD2p, [], upd_same, rfl, (fun _ h => absurd h List.not_mem_nil), (fun _ h => absurd h List.not_mem_nil)⟩ (fun _ _ _ _ => trivial) (fun k v Jy J2 hk y z => ?_) (fun J2 y => ?_)
      · obtain ⟨b2', p2', L, eD2, lL, hL, oL⟩ := y
        obtain ⟨rfl, rfl⟩ := z
        have k24' : k < 24 := hk
        have kk := (Keep.but bJ p4).trans (Keep.but b2' pJ)
        refine ⟨wipe_one, .ref p, rfl, .ref t, rfl, .ref o2, rfl, p, t, o2, tops, st2, _, rfl, p2', kk.tup et4, pl, l1, l12, S24.keep kk, by omega, fun J3 s1 sd b3' p3' hs oks _ => ?_⟩
        have eD3 := b3' _ _ nD2p eD2
        have kU : Keep J3 (upd J3 D2 (.lst (sdR L ++ [V.ref s1]))) := .upd eD3
        refine ⟨_, eD3, by rw [List.length_map]; exact small1000 (by omega), but_new (b2'.trans b3') nD2, pot_upd (p3'.mono (by omega)) nD2p, L ++ [(s1, sd)], by rw [upd_same]; exact congrArg (fun x => some (HO.lst x)) (List.map_append (l₂ := [(s1, sd)])).symm, by rw [List.length_append, lL]; rfl, fun z hz => ?_, fun z hz => ?_⟩
        · rcases List.mem_append.mp hz with h | h
          · exact ((hL z h).keep (Keep.but b3' p2')).keep kU
          · rw [List.mem_singleton.mp h]
            exact hs.keep kU
        · rcases List.mem_append.mp hz with h | h
          · exact oL z h
          · rw [List.mem_singleton.mp h]
            exact oks
      · obtain ⟨b2', p2', L, eD2, lL, hL, oL⟩ := y
        have lL24 : L.length = 24 := lL
        refine ⟨D2, _, rfl, .inl ⟨.inl (.inl eD2), fun g' ng' => ?_⟩⟩
        have sg := same_new (o := HO.tup (sdR L)) ng'
        have hT' : Tsd tops (upd J2 g' (.tup (sdR L))) g' L := ⟨upd_same, hL.keep (.same sg), oL⟩
        have kW := ((Keep.but bJ p4).trans (Keep.but b2' pJ)).trans (.same sg)
        refine ⟨.ref p, rfl, .ref x, rfl, .ref o1, rfl, .ref g', rfl, p, x, o1, g', tops, st1, rs', L, c + 3200, rfl, (p2'.keep sg).mono (by omega), by omega, hp4.keep kW, kW.tup S14.at', g1, hT', by omega, pl, l1, l12, l40, rok, fun J4 b4' p4' => ?_⟩
        exact q _ (b4.trans (bJ.trans (b2'.trans ((But.of sg).trans b4'))))
def spLaw (K : PySem.W.Frag) : Sp := fun vs H Q _ => ∃ (a : Addr) (ns : List Int), vs = [.ref a] ∧ SqL K H a (ns.map V.int) ∧ ns.length ≤ 63 ∧ ∀ H', Q (.bl true) H'
abbrev a_law : Stmt := topS 88
abbrev n_law : List Str := ["_law_script", "_law_k"]
theorem sc_law : FnScope n_law ["_law_script"] (defScope a_law) := ⟨rfl, rfl, rfl, by decide +kernel, rfl, by decide +kernel, by decide +kernel⟩
set_option maxHeartbeats 8000000 in
theorem ok_law {f fPo fRi : Addr} {fd fdPo fdRi : FuncData}   (F : Fun K "law" "law" a_law f fd) (Po : Kn P w K mg base 1 "_law_pot" ["_law_script", "_law_k"] (spPot K) fPo fdPo) (Ri : FnG P w K mg base 13 fRi fdRi ["_law_pot_here"] spR16) (gRi : mg "_law_right" = some (.ref fRi)) (kRi : PySem.W.keepIn K (.ref fRi) = true) (bRi : Binds K fdRi ["_law_pot_here"] [])  (m_all : mg "all" = none) (m_len : mg "len" = none) (m_max : mg "max" = none) (m_min : mg "min" = none) (m_range : mg "range" = none) : FnG P w K mg base 14 f fd ["_law_script"] (spLaw K) := by
  refine fnG F sc_law (fun vs H Q E h => ?_) (fun cdv A outer s H vs Q E hG hr h => ?_)
  · obtain ⟨a, ns, rfl, _⟩ := h
    rfl
  · obtain ⟨a, ns, rfl, hS, hn, q⟩ := h
    refine ⟨_, (pss_one (ps_ret (pe_callB (cr_all rfl) (by rfl) m_all (by decide +kernel) (pa_cons (
        pe_lc (own := [("_law_k", 1)]) (g := (gName 1)) (tt := tYes) (te := (tCall spR16 [] E0 (tCons (tCall (spPot K) [] E0 (tCons (tVar 0) (tCons (tVar 1) tNil))) tNil))) rfl sc_law.nd (pi_range1 (by rfl) m_range (pa_cons (pe_callB (call_max2 rfl) (by rfl) m_max (by decide +kernel) (pa_cons pe_int (pa_cons (pe_callB (call_min2 rfl) (by rfl) m_min (by decide +kernel) (pa_cons pe_int (pa_cons (pe_callB call_len_seq (by rfl) m_len (by decide +kernel) (pa_cons (pv 0) pa_nil)) pa_nil))) pa_nil))) pa_nil)) (blkOk_by (N := n_law) (sc := defScope a_law) (by decide +kernel))
          (fun _ _ _ _ _ => (pg_name (i := 1) sc_law.nd rfl (.inl rfl) (hf := .inr rfl))) (fun _ _ _ _ _ => pts_nil) (fun _ _ _ _ _ => (pe_callG hG Ri (hr.mono (by omega)) (by rfl) gRi kRi bRi (pa_cons (pe_kn Po hr (by omega) (pa_cons (pv 0) (pa_cons (pv 1) pa_nil))) pa_nil)))) pa_nil)))), ?_⟩
    refine ⟨.ref a, rfl, a, _, rfl, .inl hS, 2, _, rfl, 1, _, rfl, _, rfl, ?_, ?_, fun D nD => lc_it walk_range (fun i H' => Same H H' ∧ H' D = some (.lst ((List.replicate i true).map V.bl))) ⟨same_new nD, upd_same⟩ (fun _ _ _ _ => trivial) (fun i v H1' H1 hi y z => ?_) (fun H1 y => ?_)⟩
    · split <;> omega
    · split <;> omega
    · obtain ⟨s1, eD⟩ := y
      obtain ⟨rfl, rfl⟩ := z
      have i3 : i < 5 := by
        revert hi
        split <;> intro hi <;> omega
      refine ⟨wipe_one, .ref a, rfl, _, rfl, a, ns, i, by show [V.ref a, V.int (0 + (i : Int))] = _; rw [Int.zero_add], s1.seq hS, by omega, fun H2 p t2 n2 q2 => ?_⟩
      refine ⟨p, 0, rfl, q2, by omega, fun H3 b3 => ?_⟩
      have s3 : Same H1 H3 := fun b o e => b3 _ _ (ne_of_none e n2) (t2 _ _ e)
      refine ⟨_, s3 _ _ eD, ?_, same_over (s1.trans s3) nD, ?_⟩
      · rw [List.length_map, List.length_replicate]
        exact small1000 (by omega)
      · rw [upd_same, List.replicate_succ', List.map_append]
        rfl
    · obtain ⟨s1, eD⟩ := y
      refine ⟨D, _, rfl, .inl (.inl eD), ?_⟩
      rw [show ∀ n : Nat, (List.replicate n true).all id = true from fun n => by simp]
      exact q H1
end
end K16

set_option Elab.async false
set_option linter.all false
set_option maxRecDepth 100000
namespace K16
open PySem PySem.Spec PyProof.Rows L2 NB
set_option maxHeartbeats 8000000 in
theorem all_mk {l : PySem.W.OpenLaw} {w : World} {K : PySem.W.Frag} {h : Heap} {mg : Str → Option Value} {fa : Addr} (X : K.In h) (G : h.Ns mainGlobals mg) (hfa : mg "law" = some (.ref fa))
    {f1 : Addr} {od1 an1 : Option Addr} {sl1 : Array (Option Value)} {oc1 kV1 dc1 pm1 cd1 ct1 : Value}
    {f2 : Addr} {od2 an2 : Option Addr} {sl2 : Array (Option Value)} {oc2 kV2 dc2 pm2 cd2 ct2 : Value}
    {f3 : Addr} {od3 an3 : Option Addr} {sl3 : Array (Option Value)} {oc3 kV3 dc3 pm3 cd3 ct3 : Value}
    {f4 : Addr} {od4 an4 : Option Addr} {sl4 : Array (Option Value)} {oc4 kV4 dc4 pm4 cd4 ct4 : Value}
    {f5 : Addr} {od5 an5 : Option Addr} {sl5 : Array (Option Value)} {oc5 kV5 dc5 pm5 cd5 ct5 : Value}
    {f6 : Addr} {od6 an6 : Option Addr} {sl6 : Array (Option Value)} {oc6 kV6 dc6 pm6 cd6 ct6 : Value}
    {f7 : Addr} {od7 an7 : Option Addr} {sl7 : Array (Option Value)} {oc7 kV7 dc7 pm7 cd7 ct7 : Value}
    {f8 : Addr} {od8 an8 : Option Addr} {sl8 : Array (Option Value)} {oc8 kV8 dc8 pm8 cd8 ct8 : Value}
    {f9 : Addr} {od9 an9 : Option Addr} {sl9 : Array (Option Value)} {oc9 kV9 dc9 pm9 cd9 ct9 : Value}
    {f10 : Addr} {od10 an10 : Option Addr} {sl10 : Array (Option Value)} {oc10 kV10 dc10 pm10 cd10 ct10 : Value}
    {f11 : Addr} {od11 an11 : Option Addr} {sl11 : Array (Option Value)} {oc11 kV11 dc11 pm11 cd11 ct11 : Value}
    {f12 : Addr} {od12 an12 : Option Addr} {sl12 : Array (Option Value)} {oc12 kV12 dc12 pm12 cd12 ct12 : Value}
    {f13 : Addr} {od13 an13 : Option Addr} {sl13 : Array (Option Value)} {oc13 kV13 dc13 pm13 cd13 ct13 : Value}
    {f14 : Addr} {od14 an14 : Option Addr} {sl14 : Array (Option Value)} {oc14 kV14 dc14 pm14 cd14 ct14 : Value}
    {f15 : Addr} {od15 an15 : Option Addr} {sl15 : Array (Option Value)} {oc15 kV15 dc15 pm15 cd15 ct15 : Value}
    {f16 : Addr} {od16 an16 : Option Addr} {sl16 : Array (Option Value)} {oc16 kV16 dc16 pm16 cd16 ct16 : Value}
    {f17 : Addr} {od17 an17 : Option Addr} {sl17 : Array (Option Value)} {oc17 kV17 dc17 pm17 cd17 ct17 : Value}
    {f18 : Addr} {od18 an18 : Option Addr} {sl18 : Array (Option Value)} {oc18 kV18 dc18 pm18 cd18 ct18 : Value}
    {f19 : Addr} {od19 an19 : Option Addr} {sl19 : Array (Option Value)} {oc19 kV19 dc19 pm19 cd19 ct19 : Value}
    {f20 : Addr} {od20 an20 : Option Addr} {sl20 : Array (Option Value)} {oc20 kV20 dc20 pm20 cd20 ct20 : Value}
    {f21 : Addr} {od21 an21 : Option Addr} {sl21 : Array (Option Value)} {oc21 kV21 dc21 pm21 cd21 ct21 : Value}
    {f22 : Addr} {od22 an22 : Option Addr} {sl22 : Array (Option Value)} {oc22 kV22 dc22 pm22 cd22 ct22 : Value}
    {f23 : Addr} {od23 an23 : Option Addr} {sl23 : Array (Option Value)} {oc23 kV23 dc23 pm23 cd23 ct23 : Value}
    {f24 : Addr} {od24 an24 : Option Addr} {sl24 : Array (Option Value)} {oc24 kV24 dc24 pm24 cd24 ct24 : Value}
    {f25 : Addr} {od25 an25 : Option Addr} {sl25 : Array (Option Value)} {oc25 kV25 dc25 pm25 cd25 ct25 : Value}
    {f26 : Addr} {od26 an26 : Option Addr} {sl26 : Array (Option Value)} {oc26 kV26 dc26 pm26 cd26 ct26 : Value}
    {f27 : Addr} {od27 an27 : Option Addr} {sl27 : Array (Option Value)} {oc27 kV27 dc27 pm27 cd27 ct27 : Value}
    {f28 : Addr} {od28 an28 : Option Addr} {sl28 : Array (Option Value)} {oc28 kV28 dc28 pm28 cd28 ct28 : Value}
    {f29 : Addr} {od29 an29 : Option Addr} {sl29 : Array (Option Value)} {oc29 kV29 dc29 pm29 cd29 ct29 : Value}
    {f30 : Addr} {od30 an30 : Option Addr} {sl30 : Array (Option Value)} {oc30 kV30 dc30 pm30 cd30 ct30 : Value}
    {f31 : Addr} {od31 an31 : Option Addr} {sl31 : Array (Option Value)} {oc31 kV31 dc31 pm31 cd31 ct31 : Value}
    {f32 : Addr} {od32 an32 : Option Addr} {sl32 : Array (Option Value)} {oc32 kV32 dc32 pm32 cd32 ct32 : Value}
    {f33 : Addr} {od33 an33 : Option Addr} {sl33 : Array (Option Value)} {oc33 kV33 dc33 pm33 cd33 ct33 : Value}
    {f34 : Addr} {od34 an34 : Option Addr} {sl34 : Array (Option Value)} {oc34 kV34 dc34 pm34 cd34 ct34 : Value}
    {f35 : Addr} {od35 an35 : Option Addr} {sl35 : Array (Option Value)} {oc35 kV35 dc35 pm35 cd35 ct35 : Value}
    {f36 : Addr} {od36 an36 : Option Addr} {sl36 : Array (Option Value)} {oc36 kV36 dc36 pm36 cd36 ct36 : Value}
    {f37 : Addr} {od37 an37 : Option Addr} {sl37 : Array (Option Value)} {oc37 kV37 dc37 pm37 cd37 ct37 : Value}
    {f38 : Addr} {od38 an38 : Option Addr} {sl38 : Array (Option Value)} {oc38 kV38 dc38 pm38 cd38 ct38 : Value}
    {f39 : Addr} {od39 an39 : Option Addr} {sl39 : Array (Option Value)} {oc39 kV39 dc39 pm39 cd39 ct39 : Value}
    {f40 : Addr} {od40 an40 : Option Addr} {sl40 : Array (Option Value)} {oc40 kV40 dc40 pm40 cd40 ct40 : Value}
    {f41 : Addr} {od41 an41 : Option Addr} {sl41 : Array (Option Value)} {oc41 kV41 dc41 pm41 cd41 ct41 : Value}
    {f42 : Addr} {od42 an42 : Option Addr} {sl42 : Array (Option Value)} {oc42 kV42 dc42 pm42 cd42 ct42 : Value}
    {f43 : Addr} {od43 an43 : Option Addr} {sl43 : Array (Option Value)} {oc43 kV43 dc43 pm43 cd43 ct43 : Value}
    {f44 : Addr} {od44 an44 : Option Addr} {sl44 : Array (Option Value)} {oc44 kV44 dc44 pm44 cd44 ct44 : Value}
    {f45 : Addr} {od45 an45 : Option Addr} {sl45 : Array (Option Value)} {oc45 kV45 dc45 pm45 cd45 ct45 : Value}
    {f46 : Addr} {od46 an46 : Option Addr} {sl46 : Array (Option Value)} {oc46 kV46 dc46 pm46 cd46 ct46 : Value}
    {f47 : Addr} {od47 an47 : Option Addr} {sl47 : Array (Option Value)} {oc47 kV47 dc47 pm47 cd47 ct47 : Value}
    {f48 : Addr} {od48 an48 : Option Addr} {sl48 : Array (Option Value)} {oc48 kV48 dc48 pm48 cd48 ct48 : Value}
    {f49 : Addr} {od49 an49 : Option Addr} {sl49 : Array (Option Value)} {oc49 kV49 dc49 pm49 cd49 ct49 : Value}
    {f50 : Addr} {od50 an50 : Option Addr} {sl50 : Array (Option Value)} {oc50 kV50 dc50 pm50 cd50 ct50 : Value}
    {f51 : Addr} {od51 an51 : Option Addr} {sl51 : Array (Option Value)} {oc51 kV51 dc51 pm51 cd51 ct51 : Value}
    {f52 : Addr} {od52 an52 : Option Addr} {sl52 : Array (Option Value)} {oc52 kV52 dc52 pm52 cd52 ct52 : Value}
    {f53 : Addr} {od53 an53 : Option Addr} {sl53 : Array (Option Value)} {oc53 kV53 dc53 pm53 cd53 ct53 : Value}
    {f54 : Addr} {od54 an54 : Option Addr} {sl54 : Array (Option Value)} {oc54 kV54 dc54 pm54 cd54 ct54 : Value}
    {f55 : Addr} {od55 an55 : Option Addr} {sl55 : Array (Option Value)} {oc55 kV55 dc55 pm55 cd55 ct55 : Value}
    {f56 : Addr} {od56 an56 : Option Addr} {sl56 : Array (Option Value)} {oc56 kV56 dc56 pm56 cd56 ct56 : Value}
    {f57 : Addr} {od57 an57 : Option Addr} {sl57 : Array (Option Value)} {oc57 kV57 dc57 pm57 cd57 ct57 : Value}
    {f58 : Addr} {od58 an58 : Option Addr} {sl58 : Array (Option Value)} {oc58 kV58 dc58 pm58 cd58 ct58 : Value}
    {f59 : Addr} {od59 an59 : Option Addr} {sl59 : Array (Option Value)} {oc59 kV59 dc59 pm59 cd59 ct59 : Value}
    {f60 : Addr} {od60 an60 : Option Addr} {sl60 : Array (Option Value)} {oc60 kV60 dc60 pm60 cd60 ct60 : Value}
    {f61 : Addr} {od61 an61 : Option Addr} {sl61 : Array (Option Value)} {oc61 kV61 dc61 pm61 cd61 ct61 : Value}
    {f62 : Addr} {od62 an62 : Option Addr} {sl62 : Array (Option Value)} {oc62 kV62 dc62 pm62 cd62 ct62 : Value}
    {f63 : Addr} {od63 an63 : Option Addr} {sl63 : Array (Option Value)} {oc63 kV63 dc63 pm63 cd63 ct63 : Value}
    {f64 : Addr} {od64 an64 : Option Addr} {sl64 : Array (Option Value)} {oc64 kV64 dc64 pm64 cd64 ct64 : Value}
    {f65 : Addr} {od65 an65 : Option Addr} {sl65 : Array (Option Value)} {oc65 kV65 dc65 pm65 cd65 ct65 : Value}
    {f66 : Addr} {od66 an66 : Option Addr} {sl66 : Array (Option Value)} {oc66 kV66 dc66 pm66 cd66 ct66 : Value}
    {f67 : Addr} {od67 an67 : Option Addr} {sl67 : Array (Option Value)} {oc67 kV67 dc67 pm67 cd67 ct67 : Value}
    {C f0 Td e0 wa : Addr} {od0 an0 odT odW : Option Addr} {sl0 slT slW : Array (Option Value)} {oc0 kV0 dc0 pm0 cd0 ct0 ocT : Value} {nT nW : Nat} {tk1 tk2 tk3 tk4 tk5 : Tok}
    (a1 : PySem.W.nsIn K mainGlobals "is_whole" = some (some (.ref f1)))
    (l1 : K.lookup f1 = some ⟨oc1, od1, .func (PySem.W.fnOf "is_whole" "is_whole" (defArgs a_is_whole) (defBody a_is_whole) (defScope a_is_whole) .none kV1 dc1 pm1 an1 cd1 ct1), sl1⟩)
    (c1 : PySem.W.codeIn K cd1 "is_whole" = true) (k1 : PySem.W.keepIn K (.ref f1) = true)
    (a2 : PySem.W.nsIn K mainGlobals "is_place" = some (some (.ref f2)))
    (l2 : K.lookup f2 = some ⟨oc2, od2, .func (PySem.W.fnOf "is_place" "is_place" (defArgs a_is_place) (defBody a_is_place) (defScope a_is_place) .none kV2 dc2 pm2 an2 cd2 ct2), sl2⟩)
    (c2 : PySem.W.codeIn K cd2 "is_place" = true) (k2 : PySem.W.keepIn K (.ref f2) = true)
    (a3 : PySem.W.nsIn K mainGlobals "are_tops" = some (some (.ref f3)))
    (l3 : K.lookup f3 = some ⟨oc3, od3, .func (PySem.W.fnOf "are_tops" "are_tops" (defArgs kTops) (defBody kTops) (defScope kTops) .none kV3 dc3 pm3 an3 cd3 ct3), sl3⟩)
    (c3 : PySem.W.codeIn K cd3 "are_tops" = true) (k3 : PySem.W.keepIn K (.ref f3) = true)
    (a4 : PySem.W.nsIn K mainGlobals "is_side_of" = some (some (.ref f4)))
    (l4 : K.lookup f4 = some ⟨oc4, od4, .func (PySem.W.fnOf "is_side_of" "is_side_of" (defArgs a_is_side_of) (defBody a_is_side_of) (defScope a_is_side_of) .none kV4 dc4 pm4 an4 cd4 ct4), sl4⟩)
    (c4 : PySem.W.codeIn K cd4 "is_side_of" = true) (k4 : PySem.W.keepIn K (.ref f4) = true)
    (a5 : PySem.W.nsIn K mainGlobals "are_sides_of" = some (some (.ref f5)))
    (l5 : K.lookup f5 = some ⟨oc5, od5, .func (PySem.W.fnOf "are_sides_of" "are_sides_of" (defArgs a_are_sides_of) (defBody a_are_sides_of) (defScope a_are_sides_of) .none kV5 dc5 pm5 an5 cd5 ct5), sl5⟩)
    (c5 : PySem.W.codeIn K cd5 "are_sides_of" = true) (k5 : PySem.W.keepIn K (.ref f5) = true)
    (a6 : PySem.W.nsIn K mainGlobals "is_rule_of" = some (some (.ref f6)))
    (l6 : K.lookup f6 = some ⟨oc6, od6, .func (PySem.W.fnOf "is_rule_of" "is_rule_of" (defArgs kRule) (defBody kRule) (defScope kRule) .none kV6 dc6 pm6 an6 cd6 ct6), sl6⟩)
    (c6 : PySem.W.codeIn K cd6 "is_rule_of" = true) (k6 : PySem.W.keepIn K (.ref f6) = true)
    (a7 : PySem.W.nsIn K mainGlobals "are_rules_of" = some (some (.ref f7)))
    (l7 : K.lookup f7 = some ⟨oc7, od7, .func (PySem.W.fnOf "are_rules_of" "are_rules_of" (defArgs kRules) (defBody kRules) (defScope kRules) .none kV7 dc7 pm7 an7 cd7 ct7), sl7⟩)
    (c7 : PySem.W.codeIn K cd7 "are_rules_of" = true) (k7 : PySem.W.keepIn K (.ref f7) = true)
    (a8 : PySem.W.nsIn K mainGlobals "span" = some (some (.ref f8)))
    (l8 : K.lookup f8 = some ⟨oc8, od8, .func (PySem.W.fnOf "span" "span" (defArgs a_span) (defBody a_span) (defScope a_span) .none kV8 dc8 pm8 an8 cd8 ct8), sl8⟩)
    (c8 : PySem.W.codeIn K cd8 "span" = true) (k8 : PySem.W.keepIn K (.ref f8) = true)
    (a9 : PySem.W.nsIn K mainGlobals "other_side" = some (some (.ref f9)))
    (l9 : K.lookup f9 = some ⟨oc9, od9, .func (PySem.W.fnOf "other_side" "other_side" (defArgs a_other_side) (defBody a_other_side) (defScope a_other_side) .none kV9 dc9 pm9 an9 cd9 ct9), sl9⟩)
    (c9 : PySem.W.codeIn K cd9 "other_side" = true) (k9 : PySem.W.keepIn K (.ref f9) = true)
    (a10 : PySem.W.nsIn K mainGlobals "bars" = some (some (.ref f10)))
    (l10 : K.lookup f10 = some ⟨oc10, od10, .func (PySem.W.fnOf "bars" "bars" (defArgs a_bars) (defBody a_bars) (defScope a_bars) .none kV10 dc10 pm10 an10 cd10 ct10), sl10⟩)
    (c10 : PySem.W.codeIn K cd10 "bars" = true) (k10 : PySem.W.keepIn K (.ref f10) = true)
    (a11 : PySem.W.nsIn K mainGlobals "is_within" = some (some (.ref f11)))
    (l11 : K.lookup f11 = some ⟨oc11, od11, .func (PySem.W.fnOf "is_within" "is_within" (defArgs a_is_within) (defBody a_is_within) (defScope a_is_within) .none kV11 dc11 pm11 an11 cd11 ct11), sl11⟩)
    (c11 : PySem.W.codeIn K cd11 "is_within" = true) (k11 : PySem.W.keepIn K (.ref f11) = true)
    (a12 : PySem.W.nsIn K mainGlobals "led_by_rules" = some (some (.ref f12)))
    (l12 : K.lookup f12 = some ⟨oc12, od12, .func (PySem.W.fnOf "led_by_rules" "led_by_rules" (defArgs a_led_by_rules) (defBody a_led_by_rules) (defScope a_led_by_rules) .none kV12 dc12 pm12 an12 cd12 ct12), sl12⟩)
    (c12 : PySem.W.codeIn K cd12 "led_by_rules" = true) (k12 : PySem.W.keepIn K (.ref f12) = true)
    (a13 : PySem.W.nsIn K mainGlobals "leads" = some (some (.ref f13)))
    (l13 : K.lookup f13 = some ⟨oc13, od13, .func (PySem.W.fnOf "leads" "leads" (defArgs a_leads) (defBody a_leads) (defScope a_leads) .none kV13 dc13 pm13 an13 cd13 ct13), sl13⟩)
    (c13 : PySem.W.codeIn K cd13 "leads" = true) (k13 : PySem.W.keepIn K (.ref f13) = true)
    (a14 : PySem.W.nsIn K mainGlobals "is_chain" = some (some (.ref f14)))
    (l14 : K.lookup f14 = some ⟨oc14, od14, .func (PySem.W.fnOf "is_chain" "is_chain" (defArgs a_is_chain) (defBody a_is_chain) (defScope a_is_chain) .none kV14 dc14 pm14 an14 cd14 ct14), sl14⟩)
    (c14 : PySem.W.codeIn K cd14 "is_chain" = true) (k14 : PySem.W.keepIn K (.ref f14) = true)
    (a15 : PySem.W.nsIn K mainGlobals "reached" = some (some (.ref f15)))
    (l15 : K.lookup f15 = some ⟨oc15, od15, .func (PySem.W.fnOf "reached" "reached" (defArgs a_reached) (defBody a_reached) (defScope a_reached) .none kV15 dc15 pm15 an15 cd15 ct15), sl15⟩)
    (c15 : PySem.W.codeIn K cd15 "reached" = true) (k15 : PySem.W.keepIn K (.ref f15) = true)
    (a16 : PySem.W.nsIn K mainGlobals "chain_in" = some (some (.ref f16)))
    (l16 : K.lookup f16 = some ⟨oc16, od16, .func (PySem.W.fnOf "chain_in" "chain_in" (defArgs a_chain_in) (defBody a_chain_in) (defScope a_chain_in) .none kV16 dc16 pm16 an16 cd16 ct16), sl16⟩)
    (c16 : PySem.W.codeIn K cd16 "chain_in" = true) (k16 : PySem.W.keepIn K (.ref f16) = true)
    (a17 : PySem.W.nsIn K mainGlobals "chain_to" = some (some (.ref f17)))
    (l17 : K.lookup f17 = some ⟨oc17, od17, .func (PySem.W.fnOf "chain_to" "chain_to" (defArgs a_chain_to) (defBody a_chain_to) (defScope a_chain_to) .none kV17 dc17 pm17 an17 cd17 ct17), sl17⟩)
    (c17 : PySem.W.codeIn K cd17 "chain_to" = true) (k17 : PySem.W.keepIn K (.ref f17) = true)
    (a18 : PySem.W.nsIn K mainGlobals "is_standing" = some (some (.ref f18)))
    (l18 : K.lookup f18 = some ⟨oc18, od18, .func (PySem.W.fnOf "is_standing" "is_standing" (defArgs a_is_standing) (defBody a_is_standing) (defScope a_is_standing) .none kV18 dc18 pm18 an18 cd18 ct18), sl18⟩)
    (c18 : PySem.W.codeIn K cd18 "is_standing" = true) (k18 : PySem.W.keepIn K (.ref f18) = true)
    (a19 : PySem.W.nsIn K mainGlobals "is_in" = some (some (.ref f19)))
    (l19 : K.lookup f19 = some ⟨oc19, od19, .func (PySem.W.fnOf "is_in" "is_in" (defArgs kIn) (defBody kIn) (defScope kIn) .none kV19 dc19 pm19 an19 cd19 ct19), sl19⟩)
    (c19 : PySem.W.codeIn K cd19 "is_in" = true) (k19 : PySem.W.keepIn K (.ref f19) = true)
    (a20 : PySem.W.nsIn K mainGlobals "is_kept" = some (some (.ref f20)))
    (l20 : K.lookup f20 = some ⟨oc20, od20, .func (PySem.W.fnOf "is_kept" "is_kept" (defArgs kKept) (defBody kKept) (defScope kKept) .none kV20 dc20 pm20 an20 cd20 ct20), sl20⟩)
    (c20 : PySem.W.codeIn K cd20 "is_kept" = true) (k20 : PySem.W.keepIn K (.ref f20) = true)
    (a21 : PySem.W.nsIn K mainGlobals "broken" = some (some (.ref f21)))
    (l21 : K.lookup f21 = some ⟨oc21, od21, .func (PySem.W.fnOf "broken" "broken" (defArgs kBroken) (defBody kBroken) (defScope kBroken) .none kV21 dc21 pm21 an21 cd21 ct21), sl21⟩)
    (c21 : PySem.W.codeIn K cd21 "broken" = true) (k21 : PySem.W.keepIn K (.ref f21) = true)
    (a22 : PySem.W.nsIn K mainGlobals "is_good" = some (some (.ref f22)))
    (l22 : K.lookup f22 = some ⟨oc22, od22, .func (PySem.W.fnOf "is_good" "is_good" (defArgs kGood) (defBody kGood) (defScope kGood) .none kV22 dc22 pm22 an22 cd22 ct22), sl22⟩)
    (c22 : PySem.W.codeIn K cd22 "is_good" = true) (k22 : PySem.W.keepIn K (.ref f22) = true)
    (a23 : PySem.W.nsIn K mainGlobals "has" = some (some (.ref f23)))
    (l23 : K.lookup f23 = some ⟨oc23, od23, .func (PySem.W.fnOf "has" "has" (defArgs a_has) (defBody a_has) (defScope a_has) .none kV23 dc23 pm23 an23 cd23 ct23), sl23⟩)
    (c23 : PySem.W.codeIn K cd23 "has" = true) (k23 : PySem.W.keepIn K (.ref f23) = true)
    (a24 : PySem.W.nsIn K mainGlobals "follows" = some (some (.ref f24)))
    (l24 : K.lookup f24 = some ⟨oc24, od24, .func (PySem.W.fnOf "follows" "follows" (defArgs a_follows) (defBody a_follows) (defScope a_follows) .none kV24 dc24 pm24 an24 cd24 ct24), sl24⟩)
    (c24 : PySem.W.codeIn K cd24 "follows" = true) (k24 : PySem.W.keepIn K (.ref f24) = true)
    (a25 : PySem.W.nsIn K mainGlobals "is_barred" = some (some (.ref f25)))
    (l25 : K.lookup f25 = some ⟨oc25, od25, .func (PySem.W.fnOf "is_barred" "is_barred" (defArgs a_is_barred) (defBody a_is_barred) (defScope a_is_barred) .none kV25 dc25 pm25 an25 cd25 ct25), sl25⟩)
    (c25 : PySem.W.codeIn K cd25 "is_barred" = true) (k25 : PySem.W.keepIn K (.ref f25) = true)
    (a26 : PySem.W.nsIn K mainGlobals "is_ring" = some (some (.ref f26)))
    (l26 : K.lookup f26 = some ⟨oc26, od26, .func (PySem.W.fnOf "is_ring" "is_ring" (defArgs a_is_ring) (defBody a_is_ring) (defScope a_is_ring) .none kV26 dc26 pm26 an26 cd26 ct26), sl26⟩)
    (c26 : PySem.W.codeIn K cd26 "is_ring" = true) (k26 : PySem.W.keepIn K (.ref f26) = true)
    (a27 : PySem.W.nsIn K mainGlobals "shows_none" = some (some (.ref f27)))
    (l27 : K.lookup f27 = some ⟨oc27, od27, .func (PySem.W.fnOf "shows_none" "shows_none" (defArgs a_shows_none) (defBody a_shows_none) (defScope a_shows_none) .none kV27 dc27 pm27 an27 cd27 ct27), sl27⟩)
    (c27 : PySem.W.codeIn K cd27 "shows_none" = true) (k27 : PySem.W.keepIn K (.ref f27) = true)
    (a28 : PySem.W.nsIn K mainGlobals "barred_paper" = some (some (.ref f28)))
    (l28 : K.lookup f28 = some ⟨oc28, od28, .func (PySem.W.fnOf "barred_paper" "barred_paper" (defArgs a_barred_paper) (defBody a_barred_paper) (defScope a_barred_paper) .none kV28 dc28 pm28 an28 cd28 ct28), sl28⟩)
    (c28 : PySem.W.codeIn K cd28 "barred_paper" = true) (k28 : PySem.W.keepIn K (.ref f28) = true)
    (a29 : PySem.W.nsIn K mainGlobals "rule_sides" = some (some (.ref f29)))
    (l29 : K.lookup f29 = some ⟨oc29, od29, .func (PySem.W.fnOf "rule_sides" "rule_sides" (defArgs a_rule_sides) (defBody a_rule_sides) (defScope a_rule_sides) .none kV29 dc29 pm29 an29 cd29 ct29), sl29⟩)
    (c29 : PySem.W.codeIn K cd29 "rule_sides" = true) (k29 : PySem.W.keepIn K (.ref f29) = true)
    (a30 : PySem.W.nsIn K mainGlobals "turning" = some (some (.ref f30)))
    (l30 : K.lookup f30 = some ⟨oc30, od30, .func (PySem.W.fnOf "turning" "turning" (defArgs a_turning) (defBody a_turning) (defScope a_turning) .none kV30 dc30 pm30 an30 cd30 ct30), sl30⟩)
    (c30 : PySem.W.codeIn K cd30 "turning" = true) (k30 : PySem.W.keepIn K (.ref f30) = true)
    (a31 : PySem.W.nsIn K mainGlobals "ring_paper" = some (some (.ref f31)))
    (l31 : K.lookup f31 = some ⟨oc31, od31, .func (PySem.W.fnOf "ring_paper" "ring_paper" (defArgs a_ring_paper) (defBody a_ring_paper) (defScope a_ring_paper) .none kV31 dc31 pm31 an31 cd31 ct31), sl31⟩)
    (c31 : PySem.W.codeIn K cd31 "ring_paper" = true) (k31 : PySem.W.keepIn K (.ref f31) = true)
    (a32 : PySem.W.nsIn K mainGlobals "none_paper" = some (some (.ref f32)))
    (l32 : K.lookup f32 = some ⟨oc32, od32, .func (PySem.W.fnOf "none_paper" "none_paper" (defArgs a_none_paper) (defBody a_none_paper) (defScope a_none_paper) .none kV32 dc32 pm32 an32 cd32 ct32), sl32⟩)
    (c32 : PySem.W.codeIn K cd32 "none_paper" = true) (k32 : PySem.W.keepIn K (.ref f32) = true)
    (a33 : PySem.W.nsIn K mainGlobals "forced" = some (some (.ref f33)))
    (l33 : K.lookup f33 = some ⟨oc33, od33, .func (PySem.W.fnOf "forced" "forced" (defArgs a_forced) (defBody a_forced) (defScope a_forced) .none kV33 dc33 pm33 an33 cd33 ct33), sl33⟩)
    (c33 : PySem.W.codeIn K cd33 "forced" = true) (k33 : PySem.W.keepIn K (.ref f33) = true)
    {Td34 e34 : Addr} {odT34 odE34 : Option Addr} {slT34 slE34 : Array (Option Value)} {ocT34 : Value} {nT34 nE34 : Nat}
    (a34 : PySem.W.nsIn K mainGlobals "bounds" = some (some (.ref f34)))
    (l34 : K.lookup f34 = some ⟨oc34, od34, .func (PySem.W.fnOf "bounds" "bounds" (defArgs a_bounds) (defBody a_bounds) (defScope a_bounds) (.ref Td34) kV34 dc34 pm34 an34 cd34 ct34), sl34⟩)
    (c34 : PySem.W.codeIn K cd34 "bounds" = true) (k34 : PySem.W.keepIn K (.ref f34) = true)
    (lT34 : K.lookup Td34 = some ⟨ocT34, odT34, .seq #[.ref e34] nT34, slT34⟩) (lE34 : K.lookup e34 = some ⟨.type "tuple", odE34, .seq #[] nE34, slE34⟩)
    {Td35 e35 : Addr} {odT35 odE35 : Option Addr} {slT35 slE35 : Array (Option Value)} {ocT35 : Value} {nT35 nE35 : Nat}
    (a35 : PySem.W.nsIn K mainGlobals "a_good" = some (some (.ref f35)))
    (l35 : K.lookup f35 = some ⟨oc35, od35, .func (PySem.W.fnOf "a_good" "a_good" (defArgs a_a_good) (defBody a_a_good) (defScope a_a_good) (.ref Td35) kV35 dc35 pm35 an35 cd35 ct35), sl35⟩)
    (c35 : PySem.W.codeIn K cd35 "a_good" = true) (k35 : PySem.W.keepIn K (.ref f35) = true)
    (lT35 : K.lookup Td35 = some ⟨ocT35, odT35, .seq #[.ref e35] nT35, slT35⟩) (lE35 : K.lookup e35 = some ⟨.type "tuple", odE35, .seq #[] nE35, slE35⟩)
    (a36 : PySem.W.nsIn K mainGlobals "pulled" = some (some (.ref f36)))
    (l36 : K.lookup f36 = some ⟨oc36, od36, .func (PySem.W.fnOf "pulled" "pulled" (defArgs a_pulled) (defBody a_pulled) (defScope a_pulled) .none kV36 dc36 pm36 an36 cd36 ct36), sl36⟩)
    (c36 : PySem.W.codeIn K cd36 "pulled" = true) (k36 : PySem.W.keepIn K (.ref f36) = true)
    (a37 : PySem.W.nsIn K mainGlobals "nearest" = some (some (.ref f37)))
    (l37 : K.lookup f37 = some ⟨oc37, od37, .func (PySem.W.fnOf "nearest" "nearest" (defArgs a_nearest) (defBody a_nearest) (defScope a_nearest) .none kV37 dc37 pm37 an37 cd37 ct37), sl37⟩)
    (c37 : PySem.W.codeIn K cd37 "nearest" = true) (k37 : PySem.W.keepIn K (.ref f37) = true)
    (a38 : PySem.W.nsIn K mainGlobals "come_to" = some (some (.ref f38)))
    (l38 : K.lookup f38 = some ⟨oc38, od38, .func (PySem.W.fnOf "come_to" "come_to" (defArgs a_come_to) (defBody a_come_to) (defScope a_come_to) .none kV38 dc38 pm38 an38 cd38 ct38), sl38⟩)
    (c38 : PySem.W.codeIn K cd38 "come_to" = true) (k38 : PySem.W.keepIn K (.ref f38) = true)
    (a39 : PySem.W.nsIn K mainGlobals "nearest_paper" = some (some (.ref f39)))
    (l39 : K.lookup f39 = some ⟨oc39, od39, .func (PySem.W.fnOf "nearest_paper" "nearest_paper" (defArgs a_nearest_paper) (defBody a_nearest_paper) (defScope a_nearest_paper) .none kV39 dc39 pm39 an39 cd39 ct39), sl39⟩)
    (c39 : PySem.W.codeIn K cd39 "nearest_paper" = true) (k39 : PySem.W.keepIn K (.ref f39) = true)
    (a40 : PySem.W.nsIn K mainGlobals "is_pull" = some (some (.ref f40)))
    (l40 : K.lookup f40 = some ⟨oc40, od40, .func (PySem.W.fnOf "is_pull" "is_pull" (defArgs a_is_pull) (defBody a_is_pull) (defScope a_is_pull) .none kV40 dc40 pm40 an40 cd40 ct40), sl40⟩)
    (c40 : PySem.W.codeIn K cd40 "is_pull" = true) (k40 : PySem.W.keepIn K (.ref f40) = true)
    (a41 : PySem.W.nsIn K mainGlobals "are_pulls" = some (some (.ref f41)))
    (l41 : K.lookup f41 = some ⟨oc41, od41, .func (PySem.W.fnOf "are_pulls" "are_pulls" (defArgs a_are_pulls) (defBody a_are_pulls) (defScope a_are_pulls) .none kV41 dc41 pm41 an41 cd41 ct41), sl41⟩)
    (c41 : PySem.W.codeIn K cd41 "are_pulls" = true) (k41 : PySem.W.keepIn K (.ref f41) = true)
    (a42 : PySem.W.nsIn K mainGlobals "shows_nearest" = some (some (.ref f42)))
    (l42 : K.lookup f42 = some ⟨oc42, od42, .func (PySem.W.fnOf "shows_nearest" "shows_nearest" (defArgs a_shows_nearest) (defBody a_shows_nearest) (defScope a_shows_nearest) .none kV42 dc42 pm42 an42 cd42 ct42), sl42⟩)
    (c42 : PySem.W.codeIn K cd42 "shows_nearest" = true) (k42 : PySem.W.keepIn K (.ref f42) = true)
    (a43 : PySem.W.nsIn K mainGlobals "_law_pot" = some (some (.ref f43)))
    (l43 : K.lookup f43 = some ⟨oc43, od43, .func (PySem.W.fnOf "_law_pot" "_law_pot" (defArgs sPot) (defBody sPot) (defScope sPot) .none kV43 dc43 pm43 an43 cd43 ct43), sl43⟩)
    (c43 : PySem.W.codeIn K cd43 "_law_pot" = true) (k43 : PySem.W.keepIn K (.ref f43) = true)
    (a44 : PySem.W.nsIn K mainGlobals "_law_take" = some (some (.ref f44)))
    (l44 : K.lookup f44 = some ⟨oc44, od44, .func (PySem.W.fnOf "_law_take" "_law_take" (defArgs sTake) (defBody sTake) (defScope sTake) .none kV44 dc44 pm44 an44 cd44 ct44), sl44⟩)
    (c44 : PySem.W.codeIn K cd44 "_law_take" = true) (k44 : PySem.W.keepIn K (.ref f44) = true)
    (a45 : PySem.W.nsIn K mainGlobals "_law_of" = some (some (.ref f45)))
    (l45 : K.lookup f45 = some ⟨oc45, od45, .func (PySem.W.fnOf "_law_of" "_law_of" (defArgs sOf) (defBody sOf) (defScope sOf) .none kV45 dc45 pm45 an45 cd45 ct45), sl45⟩)
    (c45 : PySem.W.codeIn K cd45 "_law_of" = true) (k45 : PySem.W.keepIn K (.ref f45) = true)
    (a46 : PySem.W.nsIn K mainGlobals "_law_standing" = some (some (.ref f46)))
    (l46 : K.lookup f46 = some ⟨oc46, od46, .func (PySem.W.fnOf "_law_standing" "_law_standing" (defArgs sStand) (defBody sStand) (defScope sStand) .none kV46 dc46 pm46 an46 cd46 ct46), sl46⟩)
    (c46 : PySem.W.codeIn K cd46 "_law_standing" = true) (k46 : PySem.W.keepIn K (.ref f46) = true)
    (a47 : PySem.W.nsIn K mainGlobals "_law_side_in" = some (some (.ref f47)))
    (l47 : K.lookup f47 = some ⟨oc47, od47, .func (PySem.W.fnOf "_law_side_in" "_law_side_in" (defArgs aSideIn) (defBody aSideIn) (defScope aSideIn) .none kV47 dc47 pm47 an47 cd47 ct47), sl47⟩)
    (c47 : PySem.W.codeIn K cd47 "_law_side_in" = true) (k47 : PySem.W.keepIn K (.ref f47) = true)
    (a48 : PySem.W.nsIn K mainGlobals "_law_rules" = some (some (.ref f48)))
    (l48 : K.lookup f48 = some ⟨oc48, od48, .func (PySem.W.fnOf "_law_rules" "_law_rules" (defArgs aRules) (defBody aRules) (defScope aRules) .none kV48 dc48 pm48 an48 cd48 ct48), sl48⟩)
    (c48 : PySem.W.codeIn K cd48 "_law_rules" = true) (k48 : PySem.W.keepIn K (.ref f48) = true)
    (a49 : PySem.W.nsIn K mainGlobals "_law_great_tops" = some (some (.ref f49)))
    (l49 : K.lookup f49 = some ⟨oc49, od49, .func (PySem.W.fnOf "_law_great_tops" "_law_great_tops" (defArgs aGTops) (defBody aGTops) (defScope aGTops) .none kV49 dc49 pm49 an49 cd49 ct49), sl49⟩)
    (c49 : PySem.W.codeIn K cd49 "_law_great_tops" = true) (k49 : PySem.W.keepIn K (.ref f49) = true)
    (a50 : PySem.W.nsIn K mainGlobals "_law_between_rule" = some (some (.ref f50)))
    (l50 : K.lookup f50 = some ⟨oc50, od50, .func (PySem.W.fnOf "_law_between_rule" "_law_between_rule" (defArgs aBtw) (defBody aBtw) (defScope aBtw) .none kV50 dc50 pm50 an50 cd50 ct50), sl50⟩)
    (c50 : PySem.W.codeIn K cd50 "_law_between_rule" = true) (k50 : PySem.W.keepIn K (.ref f50) = true)
    (a51 : PySem.W.nsIn K mainGlobals "_law_plan" = some (some (.ref f51)))
    (l51 : K.lookup f51 = some ⟨oc51, od51, .func (PySem.W.fnOf "_law_plan" "_law_plan" (defArgs aPlan) (defBody aPlan) (defScope aPlan) .none kV51 dc51 pm51 an51 cd51 ct51), sl51⟩)
    (c51 : PySem.W.codeIn K cd51 "_law_plan" = true) (k51 : PySem.W.keepIn K (.ref f51) = true)
    (a52 : PySem.W.nsIn K mainGlobals "_law_great" = some (some (.ref f52)))
    (l52 : K.lookup f52 = some ⟨oc52, od52, .func (PySem.W.fnOf "_law_great" "_law_great" (defArgs aGreat) (defBody aGreat) (defScope aGreat) .none kV52 dc52 pm52 an52 cd52 ct52), sl52⟩)
    (c52 : PySem.W.codeIn K cd52 "_law_great" = true) (k52 : PySem.W.keepIn K (.ref f52) = true)
    (a53 : PySem.W.nsIn K mainGlobals "_law_is_in" = some (some (.ref f53)))
    (l53 : K.lookup f53 = some ⟨oc53, od53, .func (PySem.W.fnOf "_law_is_in" "_law_is_in" (defArgs aIn) (defBody aIn) (defScope aIn) .none kV53 dc53 pm53 an53 cd53 ct53), sl53⟩)
    (c53 : PySem.W.codeIn K cd53 "_law_is_in" = true) (k53 : PySem.W.keepIn K (.ref f53) = true)
    (a54 : PySem.W.nsIn K mainGlobals "_law_broken" = some (some (.ref f54)))
    (l54 : K.lookup f54 = some ⟨oc54, od54, .func (PySem.W.fnOf "_law_broken" "_law_broken" (defArgs aBrk) (defBody aBrk) (defScope aBrk) .none kV54 dc54 pm54 an54 cd54 ct54), sl54⟩)
    (c54 : PySem.W.codeIn K cd54 "_law_broken" = true) (k54 : PySem.W.keepIn K (.ref f54) = true)
    (a55 : PySem.W.nsIn K mainGlobals "_law_has" = some (some (.ref f55)))
    (l55 : K.lookup f55 = some ⟨oc55, od55, .func (PySem.W.fnOf "_law_has" "_law_has" (defArgs a__law_has) (defBody a__law_has) (defScope a__law_has) .none kV55 dc55 pm55 an55 cd55 ct55), sl55⟩)
    (c55 : PySem.W.codeIn K cd55 "_law_has" = true) (k55 : PySem.W.keepIn K (.ref f55) = true)
    (a56 : PySem.W.nsIn K mainGlobals "_law_out" = some (some (.ref f56)))
    (l56 : K.lookup f56 = some ⟨oc56, od56, .func (PySem.W.fnOf "_law_out" "_law_out" (defArgs a__law_out) (defBody a__law_out) (defScope a__law_out) .none kV56 dc56 pm56 an56 cd56 ct56), sl56⟩)
    (c56 : PySem.W.codeIn K cd56 "_law_out" = true) (k56 : PySem.W.keepIn K (.ref f56) = true)
    (a57 : PySem.W.nsIn K mainGlobals "_law_press" = some (some (.ref f57)))
    (l57 : K.lookup f57 = some ⟨oc57, od57, .func (PySem.W.fnOf "_law_press" "_law_press" (defArgs a__law_press) (defBody a__law_press) (defScope a__law_press) .none kV57 dc57 pm57 an57 cd57 ct57), sl57⟩)
    (c57 : PySem.W.codeIn K cd57 "_law_press" = true) (k57 : PySem.W.keepIn K (.ref f57) = true)
    (a58 : PySem.W.nsIn K mainGlobals "_law_pressed" = some (some (.ref f58)))
    (l58 : K.lookup f58 = some ⟨oc58, od58, .func (PySem.W.fnOf "_law_pressed" "_law_pressed" (defArgs a__law_pressed) (defBody a__law_pressed) (defScope a__law_pressed) .none kV58 dc58 pm58 an58 cd58 ct58), sl58⟩)
    (c58 : PySem.W.codeIn K cd58 "_law_pressed" = true) (k58 : PySem.W.keepIn K (.ref f58) = true)
    (a59 : PySem.W.nsIn K mainGlobals "_law_can" = some (some (.ref f59)))
    (l59 : K.lookup f59 = some ⟨oc59, od59, .func (PySem.W.fnOf "_law_can" "_law_can" (defArgs a__law_can) (defBody a__law_can) (defScope a__law_can) .none kV59 dc59 pm59 an59 cd59 ct59), sl59⟩)
    (c59 : PySem.W.codeIn K cd59 "_law_can" = true) (k59 : PySem.W.keepIn K (.ref f59) = true)
    (a60 : PySem.W.nsIn K mainGlobals "_law_padded" = some (some (.ref f60)))
    (l60 : K.lookup f60 = some ⟨oc60, od60, .func (PySem.W.fnOf "_law_padded" "_law_padded" (defArgs a__law_padded) (defBody a__law_padded) (defScope a__law_padded) .none kV60 dc60 pm60 an60 cd60 ct60), sl60⟩)
    (c60 : PySem.W.codeIn K cd60 "_law_padded" = true) (k60 : PySem.W.keepIn K (.ref f60) = true)
    (a61 : PySem.W.nsIn K mainGlobals "_law_near_side" = some (some (.ref f61)))
    (l61 : K.lookup f61 = some ⟨oc61, od61, .func (PySem.W.fnOf "_law_near_side" "_law_near_side" (defArgs a__law_near_side) (defBody a__law_near_side) (defScope a__law_near_side) .none kV61 dc61 pm61 an61 cd61 ct61), sl61⟩)
    (c61 : PySem.W.codeIn K cd61 "_law_near_side" = true) (k61 : PySem.W.keepIn K (.ref f61) = true)
    (a62 : PySem.W.nsIn K mainGlobals "_law_first" = some (some (.ref f62)))
    (l62 : K.lookup f62 = some ⟨oc62, od62, .func (PySem.W.fnOf "_law_first" "_law_first" (defArgs a__law_first) (defBody a__law_first) (defScope a__law_first) .none kV62 dc62 pm62 an62 cd62 ct62), sl62⟩)
    (c62 : PySem.W.codeIn K cd62 "_law_first" = true) (k62 : PySem.W.keepIn K (.ref f62) = true)
    (a63 : PySem.W.nsIn K mainGlobals "_law_ends" = some (some (.ref f63)))
    (l63 : K.lookup f63 = some ⟨oc63, od63, .func (PySem.W.fnOf "_law_ends" "_law_ends" (defArgs a__law_ends) (defBody a__law_ends) (defScope a__law_ends) .none kV63 dc63 pm63 an63 cd63 ct63), sl63⟩)
    (c63 : PySem.W.codeIn K cd63 "_law_ends" = true) (k63 : PySem.W.keepIn K (.ref f63) = true)
    (a64 : PySem.W.nsIn K mainGlobals "_law_papers" = some (some (.ref f64)))
    (l64 : K.lookup f64 = some ⟨oc64, od64, .func (PySem.W.fnOf "_law_papers" "_law_papers" (defArgs a__law_papers) (defBody a__law_papers) (defScope a__law_papers) .none kV64 dc64 pm64 an64 cd64 ct64), sl64⟩)
    (c64 : PySem.W.codeIn K cd64 "_law_papers" = true) (k64 : PySem.W.keepIn K (.ref f64) = true)
    (a65 : PySem.W.nsIn K mainGlobals "_law_want_right" = some (some (.ref f65)))
    (l65 : K.lookup f65 = some ⟨oc65, od65, .func (PySem.W.fnOf "_law_want_right" "_law_want_right" (defArgs a__law_want_right) (defBody a__law_want_right) (defScope a__law_want_right) .none kV65 dc65 pm65 an65 cd65 ct65), sl65⟩)
    (c65 : PySem.W.codeIn K cd65 "_law_want_right" = true) (k65 : PySem.W.keepIn K (.ref f65) = true)
    (a66 : PySem.W.nsIn K mainGlobals "_law_right" = some (some (.ref f66)))
    (l66 : K.lookup f66 = some ⟨oc66, od66, .func (PySem.W.fnOf "_law_right" "_law_right" (defArgs a__law_right) (defBody a__law_right) (defScope a__law_right) .none kV66 dc66 pm66 an66 cd66 ct66), sl66⟩)
    (c66 : PySem.W.codeIn K cd66 "_law_right" = true) (k66 : PySem.W.keepIn K (.ref f66) = true)
    (a67 : PySem.W.nsIn K mainGlobals "law" = some (some (.ref f67)))
    (l67 : K.lookup f67 = some ⟨oc67, od67, .func (PySem.W.fnOf "law" "law" (defArgs a_law) (defBody a_law) (defScope a_law) .none kV67 dc67 pm67 an67 cd67 ct67), sl67⟩)
    (c67 : PySem.W.codeIn K cd67 "law" = true) (k67 : PySem.W.keepIn K (.ref f67) = true)
    (aC : PySem.W.nsIn K mainGlobals "Plan" = some (some (.ref C))) (aI : PySem.W.findIn K (.ref C) "__init__" = some (some (.ref f0))) (iI : PySem.W.isFn K (.ref f0) = true)
    (lI : K.lookup f0 = some ⟨oc0, od0, .func (PySem.W.fnOf "__init__" "Plan.__init__" (defArgs kInit) (defBody kInit) (defScope kInit) (.ref Td) kV0 dc0 pm0 an0 cd0 ct0), sl0⟩) (cI : PySem.W.codeIn K cd0 "Plan.__init__" = true) (kI : PySem.W.keepIn K (.ref f0) = true)
    (lT : K.lookup Td = some ⟨ocT, odT, .seq #[.ref e0] nT, slT⟩)
    (pg : PySem.W.plainGet K C Str.empty = true) (hd : PySem.W.hasDictIn K C = true) (po : PySem.W.plainOver K C = true) (sa : PySem.W.findIn K (.ref C) "__setattr__" = some (some (.builtin "object.__setattr__"))) (mk : PySem.W.makesIn K C = true) (kc : PySem.W.keepIn K (.ref C) = true)
    (nTo : PySem.W.findIn K (.ref C) "tops" = some none) (nRu : PySem.W.findIn K (.ref C) "rules" = some none)
    (v1 : PySem.W.nsIn K mainGlobals "MOST_THINGS" = some (some (.int 12 tk1))) (v2 : PySem.W.nsIn K mainGlobals "MOST_RULES" = some (some (.int 40 tk2))) (v3 : PySem.W.nsIn K mainGlobals "BEYOND_THIRTY_FIGURES" = some (some (.int 1000000000000000000000000000000 tk3)))
    (v4 : PySem.W.nsIn K mainGlobals "WORDS" = some (some (.ref wa))) (v5 : K.lookup wa = some ⟨.type "tuple", odW, .seq #[.str "from" tk4, .str "to" tk5] nW, slW⟩)
    {C_NoGood f_NoGood N_NoGood : Addr} {nm_NoGood q_NoGood : Str} {bs_NoGood bm_NoGood sub_NoGood : List Value} {sn_NoGood : List Str} {ab_NoGood : Bool} {col_NoGood : Option Bool} {dd_NoGood od_NoGood an_NoGood : Option Addr} {m0_NoGood m1_NoGood m2_NoGood m3_NoGood m5_NoGood : Option Value} {sl_NoGood : Array (Option Value)} {oc_NoGood kV_NoGood dc_NoGood pm_NoGood cd_NoGood ct_NoGood : Value}
    (a_NoGood : PySem.W.nsIn K mainGlobals "NoGood" = some (some (.ref C_NoGood)))
    (x_NoGood : K.lookup C_NoGood = some (excClassObj nm_NoGood q_NoGood C_NoGood N_NoGood bs_NoGood bm_NoGood true sn_NoGood sub_NoGood ab_NoGood col_NoGood dd_NoGood m0_NoGood m1_NoGood m2_NoGood m3_NoGood m5_NoGood "ValueError.__new__"))
    (r_NoGood : PySem.HandSPX.refsVE bm_NoGood = true)
    (sa_NoGood : PySem.W.findIn K (.ref C_NoGood) "__setattr__" = some (some (.builtin "object.__setattr__"))) (ga_NoGood : PySem.W.findIn K (.ref C_NoGood) "__getattribute__" = some (some (.builtin "BaseException.__getattribute__"))) (gg_NoGood : PySem.W.findIn K (.ref C_NoGood) "__getattr__" = some none) (nb_NoGood : PySem.W.findIn K (.ref C_NoGood) "paper" = some none)
    (i_NoGood : PySem.W.findIn K (.ref C_NoGood) "__init__" = some (some (.ref f_NoGood))) (t_NoGood : PySem.W.typeIn K (.ref f_NoGood) = some (.type "function"))
    (l_NoGood : K.lookup f_NoGood = some ⟨oc_NoGood, od_NoGood, .func (PySem.W.fnOf "__init__" "NoGood.__init__" (defArgs kI_NoGood) (defBody kI_NoGood) (defScope kI_NoGood) .none kV_NoGood dc_NoGood pm_NoGood an_NoGood cd_NoGood ct_NoGood), sl_NoGood⟩) (c_NoGood : PySem.W.codeIn K cd_NoGood "NoGood.__init__" = true) (kf_NoGood : PySem.W.keepIn K (.ref f_NoGood) = true)
    (kC_NoGood : PySem.W.keepIn K (.ref C_NoGood) = true) (e_NoGood : PySem.W.subIn K (.ref C_NoGood) (.type "BaseException") = some true) (ty_NoGood : PySem.W.typeIn K (.ref C_NoGood) = some (.type "type")) (hd_NoGood : PySem.W.hasDictIn K C_NoGood = true) (is_NoGood : PySem.W.isClsIn K C_NoGood = true) (ss_NoGood : PySem.W.subIn K (.ref C_NoGood) (.ref C_NoGood) = some true)
    (z1 : PySem.W.nsIn K mainGlobals "abs" = some none)
    (z2 : PySem.W.nsIn K mainGlobals "all" = some none)
    (z3 : PySem.W.nsIn K mainGlobals "any" = some none)
    (z4 : PySem.W.nsIn K mainGlobals "bool" = some none)
    (z5 : PySem.W.nsIn K mainGlobals "enumerate" = some none)
    (z6 : PySem.W.nsIn K mainGlobals "int" = some none)
    (z7 : PySem.W.nsIn K mainGlobals "isinstance" = some none)
    (z8 : PySem.W.nsIn K mainGlobals "len" = some none)
    (z9 : PySem.W.nsIn K mainGlobals "list" = some none)
    (z10 : PySem.W.nsIn K mainGlobals "max" = some none)
    (z11 : PySem.W.nsIn K mainGlobals "min" = some none)
    (z12 : PySem.W.nsIn K mainGlobals "range" = some none)
    (z13 : PySem.W.nsIn K mainGlobals "repr" = some none)
    (z14 : PySem.W.nsIn K mainGlobals "sorted" = some none)
    (z15 : PySem.W.nsIn K mainGlobals "str" = some none)
    (z16 : PySem.W.nsIn K mainGlobals "tuple" = some none)
    (z17 : PySem.W.nsIn K mainGlobals "zip" = some none)
    : ∃ fd : FuncData, (∀ (s : Shared) (v : Value), BindsTo s fd ⟨[v], []⟩ [("_law_script", v)]) ∧ ∀ base : Heap, K.In base → base.Ns mainGlobals mg → FnG l.prog w K mg base 14 fa fd ["_law_script"] (spLaw K) := by
  have e := hfa.symm.trans (PySem.W.mg_of X G a67)
  cases e
  have F1 := fun_mk (st := a_is_whole) l1 c1 k1
  have b1 := F1.binds (ps := ["thing"]) fun _ _ _ _ _ _ us hl => match us, hl with | [_], _ => rfl
  have g1 := PySem.W.mg_of X G a1
  have F2 := fun_mk (st := a_is_place) l2 c2 k2
  have b2 := F2.binds (ps := ["top", "thing"]) fun _ _ _ _ _ _ us hl => match us, hl with | [_, _], _ => rfl
  have g2 := PySem.W.mg_of X G a2
  have F3 := fun_mk (st := kTops) l3 c3 k3
  have b3 := F3.binds (ps := ["thing"]) fun _ _ _ _ _ _ us hl => match us, hl with | [_], _ => rfl
  have g3 := PySem.W.mg_of X G a3
  have F4 := fun_mk (st := a_is_side_of) l4 c4 k4
  have b4 := F4.binds (ps := ["tops", "thing"]) fun _ _ _ _ _ _ us hl => match us, hl with | [_, _], _ => rfl
  have g4 := PySem.W.mg_of X G a4
  have F5 := fun_mk (st := a_are_sides_of) l5 c5 k5
  have b5 := F5.binds (ps := ["tops", "thing"]) fun _ _ _ _ _ _ us hl => match us, hl with | [_, _], _ => rfl
  have g5 := PySem.W.mg_of X G a5
  have F6 := fun_mk (st := kRule) l6 c6 k6
  have b6 := F6.binds (ps := ["tops", "thing"]) fun _ _ _ _ _ _ us hl => match us, hl with | [_, _], _ => rfl
  have g6 := PySem.W.mg_of X G a6
  have F7 := fun_mk (st := kRules) l7 c7 k7
  have b7 := F7.binds (ps := ["tops", "thing"]) fun _ _ _ _ _ _ us hl => match us, hl with | [_, _], _ => rfl
  have g7 := PySem.W.mg_of X G a7
  have F8 := fun_mk (st := a_span) l8 c8 k8
  have b8 := F8.binds (ps := ["plan", "side"]) fun _ _ _ _ _ _ us hl => match us, hl with | [_, _], _ => rfl
  have g8 := PySem.W.mg_of X G a8
  have F9 := fun_mk (st := a_other_side) l9 c9 k9
  have b9 := F9.binds (ps := ["plan", "side"]) fun _ _ _ _ _ _ us hl => match us, hl with | [_, _], _ => rfl
  have g9 := PySem.W.mg_of X G a9
  have F10 := fun_mk (st := a_bars) l10 c10 k10
  have b10 := F10.binds (ps := ["plan", "one", "other"]) fun _ _ _ _ _ _ us hl => match us, hl with | [_, _, _], _ => rfl
  have g10 := PySem.W.mg_of X G a10
  have F11 := fun_mk (st := a_is_within) l11 c11 k11
  have b11 := F11.binds (ps := ["plan", "one", "other"]) fun _ _ _ _ _ _ us hl => match us, hl with | [_, _, _], _ => rfl
  have g11 := PySem.W.mg_of X G a11
  have F12 := fun_mk (st := a_led_by_rules) l12 c12 k12
  have b12 := F12.binds (ps := ["plan", "side"]) fun _ _ _ _ _ _ us hl => match us, hl with | [_, _], _ => rfl
  have g12 := PySem.W.mg_of X G a12
  have F13 := fun_mk (st := a_leads) l13 c13 k13
  have b13 := F13.binds (ps := ["plan", "one", "other"]) fun _ _ _ _ _ _ us hl => match us, hl with | [_, _, _], _ => rfl
  have g13 := PySem.W.mg_of X G a13
  have F14 := fun_mk (st := a_is_chain) l14 c14 k14
  have b14 := F14.binds (ps := ["plan", "thing"]) fun _ _ _ _ _ _ us hl => match us, hl with | [_, _], _ => rfl
  have g14 := PySem.W.mg_of X G a14
  have F15 := fun_mk (st := a_reached) l15 c15 k15
  have b15 := F15.binds (ps := ["plan", "starts"]) fun _ _ _ _ _ _ us hl => match us, hl with | [_, _], _ => rfl
  have g15 := PySem.W.mg_of X G a15
  have F16 := fun_mk (st := a_chain_in) l16 c16 k16
  have b16 := F16.binds (ps := ["ahead", "side"]) fun _ _ _ _ _ _ us hl => match us, hl with | [_, _], _ => rfl
  have g16 := PySem.W.mg_of X G a16
  have F17 := fun_mk (st := a_chain_to) l17 c17 k17
  have b17 := F17.binds (ps := ["plan", "starts", "goal"]) fun _ _ _ _ _ _ us hl => match us, hl with | [_, _, _], _ => rfl
  have g17 := PySem.W.mg_of X G a17
  have F18 := fun_mk (st := a_is_standing) l18 c18 k18
  have b18 := F18.binds (ps := ["plan", "thing"]) fun _ _ _ _ _ _ us hl => match us, hl with | [_, _], _ => rfl
  have g18 := PySem.W.mg_of X G a18
  have F19 := fun_mk (st := kIn) l19 c19 k19
  have b19 := F19.binds (ps := ["side", "standing"]) fun _ _ _ _ _ _ us hl => match us, hl with | [_, _], _ => rfl
  have g19 := PySem.W.mg_of X G a19
  have F20 := fun_mk (st := kKept) l20 c20 k20
  have b20 := F20.binds (ps := ["rule", "standing"]) fun _ _ _ _ _ _ us hl => match us, hl with | [_, _], _ => rfl
  have g20 := PySem.W.mg_of X G a20
  have F21 := fun_mk (st := kBroken) l21 c21 k21
  have b21 := F21.binds (ps := ["plan", "standing"]) fun _ _ _ _ _ _ us hl => match us, hl with | [_, _], _ => rfl
  have g21 := PySem.W.mg_of X G a21
  have F22 := fun_mk (st := kGood) l22 c22 k22
  have b22 := F22.binds (ps := ["plan", "standing"]) fun _ _ _ _ _ _ us hl => match us, hl with | [_, _], _ => rfl
  have g22 := PySem.W.mg_of X G a22
  have F23 := fun_mk (st := a_has) l23 c23 k23
  have b23 := F23.binds (ps := ["want", "standing"]) fun _ _ _ _ _ _ us hl => match us, hl with | [_, _], _ => rfl
  have g23 := PySem.W.mg_of X G a23
  have F24 := fun_mk (st := a_follows) l24 c24 k24
  have b24 := F24.binds (ps := ["plan", "want"]) fun _ _ _ _ _ _ us hl => match us, hl with | [_, _], _ => rfl
  have g24 := PySem.W.mg_of X G a24
  have F25 := fun_mk (st := a_is_barred) l25 c25 k25
  have b25 := F25.binds (ps := ["plan", "want", "thing"]) fun _ _ _ _ _ _ us hl => match us, hl with | [_, _, _], _ => rfl
  have g25 := PySem.W.mg_of X G a25
  have F26 := fun_mk (st := a_is_ring) l26 c26 k26
  have b26 := F26.binds (ps := ["plan", "one", "two"]) fun _ _ _ _ _ _ us hl => match us, hl with | [_, _, _], _ => rfl
  have g26 := PySem.W.mg_of X G a26
  have F27 := fun_mk (st := a_shows_none) l27 c27 k27
  have b27 := F27.binds (ps := ["plan", "want", "thing"]) fun _ _ _ _ _ _ us hl => match us, hl with | [_, _, _], _ => rfl
  have g27 := PySem.W.mg_of X G a27
  have F28 := fun_mk (st := a_barred_paper) l28 c28 k28
  have b28 := F28.binds (ps := ["plan", "want"]) fun _ _ _ _ _ _ us hl => match us, hl with | [_, _], _ => rfl
  have g28 := PySem.W.mg_of X G a28
  have F29 := fun_mk (st := a_rule_sides) l29 c29 k29
  have b29 := F29.binds (ps := ["plan"]) fun _ _ _ _ _ _ us hl => match us, hl with | [_], _ => rfl
  have g29 := PySem.W.mg_of X G a29
  have F30 := fun_mk (st := a_turning) l30 c30 k30
  have b30 := F30.binds (ps := ["plan", "side"]) fun _ _ _ _ _ _ us hl => match us, hl with | [_, _], _ => rfl
  have g30 := PySem.W.mg_of X G a30
  have F31 := fun_mk (st := a_ring_paper) l31 c31 k31
  have b31 := F31.binds (ps := ["plan"]) fun _ _ _ _ _ _ us hl => match us, hl with | [_], _ => rfl
  have g31 := PySem.W.mg_of X G a31
  have F32 := fun_mk (st := a_none_paper) l32 c32 k32
  have b32 := F32.binds (ps := ["plan", "want"]) fun _ _ _ _ _ _ us hl => match us, hl with | [_, _], _ => rfl
  have g32 := PySem.W.mg_of X G a32
  have F33 := fun_mk (st := a_forced) l33 c33 k33
  have b33 := F33.binds (ps := ["plan"]) fun _ _ _ _ _ _ us hl => match us, hl with | [_], _ => rfl
  have g33 := PySem.W.mg_of X G a33
  have F34 : FunD K "bounds" "bounds" (defArgs a_bounds) (defBody a_bounds) (defScope a_bounds) [V.ref e34] [] f34 (PySem.W.fnOf "bounds" "bounds" (defArgs a_bounds) (defBody a_bounds) (defScope a_bounds) (.ref Td34) kV34 dc34 pm34 an34 cd34 ct34) :=
    ⟨⟨oc34, od34, .ref Td34, kV34, dc34, pm34, an34, cd34, ct34, sl34, rfl, l34, c34, .inr ⟨by simp, Td34, _, [.ref e34], nT34, rfl, lT34, rfl, .cons rfl .nil⟩, .inl rfl⟩, k34⟩
  obtain ⟨ds34, rds34, b34⟩ := F34.binds1 (ps := ["plan", "want"]) 1 0 (by simp) rfl fun T kV doc pm an cdv ct us its h1 h2 => match us, its, h1, h2 with | [_], [_], _, _ => ⟨_, rfl, rfl⟩
  obtain ⟨dt34, rdt34, B34⟩ := F34.binds1 (ps := ["plan", "want"]) 2 1 (by simp) rfl fun T kV doc pm an cdv ct us its h1 h2 => match us, its, h1, h2 with | [_, _], [_], _, _ => ⟨_, rfl, rfl⟩
  cases rdt34
  have hE34 : ∀ H, SqT K H e34 [] := fun H => .inr ⟨_, _, _, lE34, rfl, rfl, Nat.zero_le _, .nil⟩
  have g34 := PySem.W.mg_of X G a34
  have F35 : FunD K "a_good" "a_good" (defArgs a_a_good) (defBody a_a_good) (defScope a_a_good) [V.ref e35] [] f35 (PySem.W.fnOf "a_good" "a_good" (defArgs a_a_good) (defBody a_a_good) (defScope a_a_good) (.ref Td35) kV35 dc35 pm35 an35 cd35 ct35) :=
    ⟨⟨oc35, od35, .ref Td35, kV35, dc35, pm35, an35, cd35, ct35, sl35, rfl, l35, c35, .inr ⟨by simp, Td35, _, [.ref e35], nT35, rfl, lT35, rfl, .cons rfl .nil⟩, .inl rfl⟩, k35⟩
  obtain ⟨ds35, rds35, b35⟩ := F35.binds1 (ps := ["plan", "want"]) 1 0 (by simp) rfl fun T kV doc pm an cdv ct us its h1 h2 => match us, its, h1, h2 with | [_], [_], _, _ => ⟨_, rfl, rfl⟩
  obtain ⟨dt35, rdt35, B35⟩ := F35.binds1 (ps := ["plan", "want"]) 2 1 (by simp) rfl fun T kV doc pm an cdv ct us its h1 h2 => match us, its, h1, h2 with | [_, _], [_], _, _ => ⟨_, rfl, rfl⟩
  cases rdt35
  have hE35 : ∀ H, SqT K H e35 [] := fun H => .inr ⟨_, _, _, lE35, rfl, rfl, Nat.zero_le _, .nil⟩
  have g35 := PySem.W.mg_of X G a35
  have F36 := fun_mk (st := a_pulled) l36 c36 k36
  have b36 := F36.binds (ps := ["plan", "standing", "want"]) fun _ _ _ _ _ _ us hl => match us, hl with | [_, _, _], _ => rfl
  have g36 := PySem.W.mg_of X G a36
  have F37 := fun_mk (st := a_nearest) l37 c37 k37
  have b37 := F37.binds (ps := ["plan", "standing", "want"]) fun _ _ _ _ _ _ us hl => match us, hl with | [_, _, _], _ => rfl
  have g37 := PySem.W.mg_of X G a37
  have F38 := fun_mk (st := a_come_to) l38 c38 k38
  have b38 := F38.binds (ps := ["thing", "here", "there"]) fun _ _ _ _ _ _ us hl => match us, hl with | [_, _, _], _ => rfl
  have g38 := PySem.W.mg_of X G a38
  have F39 := fun_mk (st := a_nearest_paper) l39 c39 k39
  have b39 := F39.binds (ps := ["plan", "standing", "want"]) fun _ _ _ _ _ _ us hl => match us, hl with | [_, _, _], _ => rfl
  have g39 := PySem.W.mg_of X G a39
  have F40 := fun_mk (st := a_is_pull) l40 c40 k40
  have b40 := F40.binds (ps := ["plan", "want", "goal", "thing"]) fun _ _ _ _ _ _ us hl => match us, hl with | [_, _, _, _], _ => rfl
  have g40 := PySem.W.mg_of X G a40
  have F41 := fun_mk (st := a_are_pulls) l41 c41 k41
  have b41 := F41.binds (ps := ["plan", "standing", "want", "new", "thing"]) fun _ _ _ _ _ _ us hl => match us, hl with | [_, _, _, _, _], _ => rfl
  have g41 := PySem.W.mg_of X G a41
  have F42 := fun_mk (st := a_shows_nearest) l42 c42 k42
  have b42 := F42.binds (ps := ["plan", "standing", "want", "new", "thing"]) fun _ _ _ _ _ _ us hl => match us, hl with | [_, _, _, _, _], _ => rfl
  have g42 := PySem.W.mg_of X G a42
  have F43 := fun_mk (st := sPot) l43 c43 k43
  have b43 := F43.binds (ps := ["_law_script", "_law_k"]) fun _ _ _ _ _ _ us hl => match us, hl with | [_, _], _ => rfl
  have g43 := PySem.W.mg_of X G a43
  have F44 := fun_mk (st := sTake) l44 c44 k44
  have b44 := F44.binds (ps := ["_law_pot_here", "_law_many"]) fun _ _ _ _ _ _ us hl => match us, hl with | [_, _], _ => rfl
  have g44 := PySem.W.mg_of X G a44
  have F45 := fun_mk (st := sOf) l45 c45 k45
  have b45 := F45.binds (ps := ["_law_pot_here", "_law_some"]) fun _ _ _ _ _ _ us hl => match us, hl with | [_, _], _ => rfl
  have g45 := PySem.W.mg_of X G a45
  have F46 := fun_mk (st := sStand) l46 c46 k46
  have b46 := F46.binds (ps := ["_law_pot_here", "_law_tops"]) fun _ _ _ _ _ _ us hl => match us, hl with | [_, _], _ => rfl
  have g46 := PySem.W.mg_of X G a46
  have F47 := fun_mk (st := aSideIn) l47 c47 k47
  have b47 := F47.binds (ps := ["_law_pot_here", "_law_tops", "_law_standing_here"]) fun _ _ _ _ _ _ us hl => match us, hl with | [_, _, _], _ => rfl
  have g47 := PySem.W.mg_of X G a47
  have F48 := fun_mk (st := aRules) l48 c48 k48
  have b48 := F48.binds (ps := ["_law_pot_here", "_law_tops", "_law_one", "_law_two", "_law_many"]) fun _ _ _ _ _ _ us hl => match us, hl with | [_, _, _, _, _], _ => rfl
  have g48 := PySem.W.mg_of X G a48
  have F49 := fun_mk (st := aGTops) l49 c49 k49
  have b49 := F49.binds (ps := ["_law_pot_here"]) fun _ _ _ _ _ _ us hl => match us, hl with | [_], _ => rfl
  have g49 := PySem.W.mg_of X G a49
  have F50 := fun_mk (st := aBtw) l50 c50 k50
  have b50 := F50.binds (ps := ["_law_pot_here", "_law_tops", "_law_one", "_law_two"]) fun _ _ _ _ _ _ us hl => match us, hl with | [_, _, _, _], _ => rfl
  have g50 := PySem.W.mg_of X G a50
  have F51 := fun_mk (st := aPlan) l51 c51 k51
  have b51 := F51.binds (ps := ["_law_pot_here", "_law_tops", "_law_many"]) fun _ _ _ _ _ _ us hl => match us, hl with | [_, _, _], _ => rfl
  have g51 := PySem.W.mg_of X G a51
  have F52 := fun_mk (st := aGreat) l52 c52 k52
  have b52 := F52.binds (ps := ["_law_pot_here"]) fun _ _ _ _ _ _ us hl => match us, hl with | [_], _ => rfl
  have g52 := PySem.W.mg_of X G a52
  have F53 := fun_mk (st := aIn) l53 c53 k53
  have b53 := F53.binds (ps := ["_law_side", "_law_standing_here"]) fun _ _ _ _ _ _ us hl => match us, hl with | [_, _], _ => rfl
  have g53 := PySem.W.mg_of X G a53
  have F54 := fun_mk (st := aBrk) l54 c54 k54
  have b54 := F54.binds (ps := ["_law_rules_here", "_law_standing_here"]) fun _ _ _ _ _ _ us hl => match us, hl with | [_, _], _ => rfl
  have g54 := PySem.W.mg_of X G a54
  have F55 := fun_mk (st := a__law_has) l55 c55 k55
  have b55 := F55.binds (ps := ["_law_want", "_law_standing_here"]) fun _ _ _ _ _ _ us hl => match us, hl with | [_, _], _ => rfl
  have g55 := PySem.W.mg_of X G a55
  have F56 := fun_mk (st := a__law_out) l56 c56 k56
  have b56 := F56.binds (ps := ["_law_rows", "_law_side"]) fun _ _ _ _ _ _ us hl => match us, hl with | [_, _], _ => rfl
  have g56 := PySem.W.mg_of X G a56
  have F57 := fun_mk (st := a__law_press) l57 c57 k57
  have b57 := F57.binds (ps := ["_law_rows", "_law_side"]) fun _ _ _ _ _ _ us hl => match us, hl with | [_, _], _ => rfl
  have g57 := PySem.W.mg_of X G a57
  have F58 := fun_mk (st := a__law_pressed) l58 c58 k58
  have b58 := F58.binds (ps := ["_law_tops", "_law_rules_here", "_law_want"]) fun _ _ _ _ _ _ us hl => match us, hl with | [_, _, _], _ => rfl
  have g58 := PySem.W.mg_of X G a58
  have F59 := fun_mk (st := a__law_can) l59 c59 k59
  have b59 := F59.binds (ps := ["_law_tops", "_law_rules_here", "_law_want"]) fun _ _ _ _ _ _ us hl => match us, hl with | [_, _, _], _ => rfl
  have g59 := PySem.W.mg_of X G a59
  have F60 := fun_mk (st := a__law_padded) l60 c60 k60
  have b60 := F60.binds (ps := ["_law_pot_here", "_law_tops", "_law_rules_here"]) fun _ _ _ _ _ _ us hl => match us, hl with | [_, _, _], _ => rfl
  have g60 := PySem.W.mg_of X G a60
  have F61 := fun_mk (st := a__law_near_side) l61 c61 k61
  have b61 := F61.binds (ps := ["_law_pot_here", "_law_tops", "_law_rules_here"]) fun _ _ _ _ _ _ us hl => match us, hl with | [_, _, _], _ => rfl
  have g61 := PySem.W.mg_of X G a61
  have F62 := fun_mk (st := a__law_first) l62 c62 k62
  have b62 := F62.binds (ps := ["_law_tops", "_law_rules_here", "_law_want", "_law_side", "_law_places"]) fun _ _ _ _ _ _ us hl => match us, hl with | [_, _, _, _, _], _ => rfl
  have g62 := PySem.W.mg_of X G a62
  have F63 := fun_mk (st := a__law_ends) l63 c63 k63
  have b63 := F63.binds (ps := ["_law_tops", "_law_rules_here", "_law_want", "_law_thing"]) fun _ _ _ _ _ _ us hl => match us, hl with | [_, _, _, _], _ => rfl
  have g63 := PySem.W.mg_of X G a63
  have F64 := fun_mk (st := a__law_papers) l64 c64 k64
  have b64 := F64.binds (ps := ["_law_plan_here", "_law_standing_here", "_law_want"]) fun _ _ _ _ _ _ us hl => match us, hl with | [_, _, _], _ => rfl
  have g64 := PySem.W.mg_of X G a64
  have F65 := fun_mk (st := a__law_want_right) l65 c65 k65
  have b65 := F65.binds (ps := ["_law_pot_here", "_law_plan_here", "_law_standing_here", "_law_want"]) fun _ _ _ _ _ _ us hl => match us, hl with | [_, _, _, _], _ => rfl
  have g65 := PySem.W.mg_of X G a65
  have F66 := fun_mk (st := a__law_right) l66 c66 k66
  have b66 := F66.binds (ps := ["_law_pot_here"]) fun _ _ _ _ _ _ us hl => match us, hl with | [_], _ => rfl
  have g66 := PySem.W.mg_of X G a66
  have F67 := fun_mk (st := a_law) l67 c67 k67
  have m1 := PySem.W.mg_none_of X G z1
  have m2 := PySem.W.mg_none_of X G z2
  have m3 := PySem.W.mg_none_of X G z3
  have m4 := PySem.W.mg_none_of X G z4
  have m5 := PySem.W.mg_none_of X G z5
  have m6 := PySem.W.mg_none_of X G z6
  have m7 := PySem.W.mg_none_of X G z7
  have m8 := PySem.W.mg_none_of X G z8
  have m9 := PySem.W.mg_none_of X G z9
  have m10 := PySem.W.mg_none_of X G z10
  have m11 := PySem.W.mg_none_of X G z11
  have m12 := PySem.W.mg_none_of X G z12
  have m13 := PySem.W.mg_none_of X G z13
  have m14 := PySem.W.mg_none_of X G z14
  have m15 := PySem.W.mg_none_of X G z15
  have m16 := PySem.W.mg_none_of X G z16
  have m17 := PySem.W.mg_none_of X G z17
  have TX : PlanTxt K mg C := ⟨⟨pg, hd, po, sa⟩, nTo, nRu, PySem.W.mg_of X G aC⟩
  have MK : Mk K C f0 := ⟨mk, aI, iI, kc⟩
  have FD : FunD K "__init__" "Plan.__init__" (defArgs kInit) (defBody kInit) (defScope kInit) [V.ref e0] [] f0 (PySem.W.fnOf "__init__" "Plan.__init__" (defArgs kInit) (defBody kInit) (defScope kInit) (.ref Td) kV0 dc0 pm0 an0 cd0 ct0) :=
    ⟨⟨oc0, od0, .ref Td, kV0, dc0, pm0, an0, cd0, ct0, sl0, rfl, lI, cI, .inr ⟨by simp, Td, _, [.ref e0], nT, rfl, lT, rfl, .cons rfl .nil⟩, .inl rfl⟩, kI⟩
  obtain ⟨ds, rds, bI⟩ := FD.binds1 (ps := ["self", "tops", "rules"]) 3 1 (by simp) rfl fun T kV doc pm an cdv ct us its h1 h2 => match us, its, h1, h2 with | [_, _, _], [_], _, _ => ⟨_, rfl, rfl⟩
  cases rds
  have hW : ∀ H, SqT K H wa [.str "from", .str "to"] := fun H => .inr ⟨_, _, _, v5, rfl, rfl, (show 2 ≤ sizeLine by decide), .cons ⟨_, rfl⟩ (.cons ⟨_, rfl⟩ .nil)⟩
  have gv1 := PySem.W.mg_of X G v1
  have gv2 := PySem.W.mg_of X G v2
  have gv3 := PySem.W.mg_of X G v3
  have gv4 := PySem.W.mg_of X G v4
  have F_NoGood := fun_mk (st := kI_NoGood) l_NoGood c_NoGood kf_NoGood
  have b_NoGood := F_NoGood.binds (ps := ["self", "paper"]) fun _ _ _ _ _ _ us hl => match us, hl with | [_, _], _ => rfl
  have O_NoGood : OexC K C_NoGood := ⟨⟨_, _, _, _, _, _, _, _, _, _, _, _, _, _, _, x_NoGood, r_NoGood⟩, sa_NoGood, e_NoGood, ty_NoGood, kC_NoGood⟩
  have EX_NoGood : ExT K mg "NoGood" "paper" C_NoGood f_NoGood _ := ⟨PySem.W.mg_of X G a_NoGood, O_NoGood, nb_NoGood, i_NoGood, t_NoGood, ⟨ga_NoGood, gg_NoGood, e_NoGood, hd_NoGood⟩, exm_self e_NoGood is_NoGood ty_NoGood ss_NoGood, b_NoGood⟩
  refine ⟨PySem.W.fnOf "law" "law" (defArgs a_law) (defBody a_law) (defScope a_law) .none kV67 dc67 pm67 an67 cd67 ct67, fun s v => .of_eq rfl, fun base _ _ => ?_⟩
  have GX_NoGood := ok_NoGood (P := l.prog) (w := w) (mg := mg) (base := base) F_NoGood O_NoGood nb_NoGood
  have K_is_whole := Kn.mk (x := "is_whole") (base := base) (w := w) (P := l.prog) (ok_is_whole (k := 0) F1 m4 m6 m7) g1 F1.kp b1
  have K_is_place := Kn.mk (x := "is_place") (base := base) (w := w) (P := l.prog) (ok_is_place (k := 0) F2 K_is_whole) g2 F2.kp b2
  have Kwh := Kn.mk (x := "is_whole") (base := base) (w := w) (P := l.prog) (ok_whole (k := 0) F1 m7 m6 m4) g1 F1.kp b1
  have Kpl := Kn.mk (x := "is_place") (base := base) (w := w) (P := l.prog) (ok_place (k := 0) F2 Kwh) g2 F2.kp b2
  have Kto := Kn.mk (x := "are_tops") (base := base) (w := w) (P := l.prog) (ok_tops (k := 0) F3 Kpl m7 m16 m8 m2 gv1 gv3) g3 F3.kp b3
  have K_are_tops := Kto
  have K_is_side_of := Kn.mk (x := "is_side_of") (base := base) (w := w) (P := l.prog) (ok_is_side_of (k := 0) F4 K_is_place gv4 hW m7 m8 m15 m16) g4 F4.kp b4
  have K_are_sides_of := Kn.mk (x := "are_sides_of") (base := base) (w := w) (P := l.prog) (ok_are_sides_of (k := 0) F5 K_is_side_of m2 m7 m16) g5 F5.kp b5
  have Ksi := Kn.mk (x := "is_side_of") (base := base) (w := w) (P := l.prog) (ok_side (k := 0) F4 Kpl m7 m16 m8 m15 gv4 hW) g4 F4.kp b4
  have Kss := Kn.mk (x := "are_sides_of") (base := base) (w := w) (P := l.prog) (ok_sides (k := 0) F5 Ksi m7 m16 m2) g5 F5.kp b5
  have Kru := Kn.mk (x := "is_rule_of") (base := base) (w := w) (P := l.prog) (ok_rule (k := 0) F6 Kss m8) g6 F6.kp b6
  have K_is_rule_of := Kru
  have Krs := Kn.mk (x := "are_rules_of") (base := base) (w := w) (P := l.prog) (ok_rules (k := 0) F7 Kru m7 m16 m8 m2 gv2) g7 F7.kp b7
  have K_are_rules_of := Krs
  have K_span := Kn.mk (x := "span") (base := base) (w := w) (P := l.prog) (ok_span (k := 0) F8 TX) g8 F8.kp b8
  have K_other_side := Kn.mk (x := "other_side") (base := base) (w := w) (P := l.prog) (ok_other_side (k := 0) F9 K_span TX) g9 F9.kp b9
  have K_bars := Kn.mk (x := "bars") (base := base) (w := w) (P := l.prog) (ok_bars (k := 0) F10 K_span) g10 F10.kp b10
  have K_is_within := Kn.mk (x := "is_within") (base := base) (w := w) (P := l.prog) (ok_is_within (k := 0) F11 K_span) g11 F11.kp b11
  have K_led_by_rules := Kn.mk (x := "led_by_rules") (base := base) (w := w) (P := l.prog) (ok_led_by_rules (k := 0) F12 K_bars TX) g12 F12.kp b12
  have K_leads := Kn.mk (x := "leads") (base := base) (w := w) (P := l.prog) (ok_leads (k := 0) F13 K_is_within K_led_by_rules) g13 F13.kp b13
  have K_is_chain := Kn.mk (x := "is_chain") (base := base) (w := w) (P := l.prog) (ok_is_chain (k := 0) F14 K_are_sides_of K_leads TX m17 m2 m17) g14 F14.kp b14
  have K_reached := Kn.mk (x := "reached") (base := base) (w := w) (P := l.prog) (ok_reached (k := 0) F15 K_led_by_rules m8 m9) g15 F15.kp b15
  have K_chain_in := Kn.mk (x := "chain_in") (base := base) (w := w) (P := l.prog) (ok_chain_in (k := 0) F16 m16) g16 F16.kp b16
  have K_chain_to := Kn.mk (x := "chain_to") (base := base) (w := w) (P := l.prog) (ok_chain_to (k := 0) F17 K_reached K_is_within K_chain_in) g17 F17.kp b17
  have K_is_standing := Kn.mk (x := "is_standing") (base := base) (w := w) (P := l.prog) (ok_is_standing (k := 0) F18 K_is_place TX m2 m7 m8 m16 m17) g18 F18.kp b18
  have Kin := Kn.mk (x := "is_in") (base := base) (w := w) (P := l.prog) (ok_in (k := 0) F19) g19 F19.kp b19
  have K_is_in := Kin
  have K_has := Kn.mk (x := "has") (base := base) (w := w) (P := l.prog) (ok_has (k := 0) F23 K_is_in m2) g23 F23.kp b23
  have K_follows := Kn.mk (x := "follows") (base := base) (w := w) (P := l.prog) (ok_follows (k := 0) F24 K_reached TX m17 m8 m9 m10 m11 m16) g24 F24.kp b24
  have K_is_barred := Kn.mk (x := "is_barred") (base := base) (w := w) (P := l.prog) (ok_is_barred (k := 0) F25 K_is_chain K_bars m3) g25 F25.kp b25
  have K_is_ring := Kn.mk (x := "is_ring") (base := base) (w := w) (P := l.prog) (ok_is_ring (k := 0) F26 K_is_chain K_other_side) g26 F26.kp b26
  have K_shows_none := Kn.mk (x := "shows_none") (base := base) (w := w) (P := l.prog) (ok_shows_none (k := 0) F27 K_is_barred K_is_ring m7 m8 m15 m16) g27 F27.kp b27
  have K_barred_paper := Kn.mk (x := "barred_paper") (base := base) (w := w) (P := l.prog) (ok_barred_paper (k := 0) F28 K_reached K_bars K_chain_in m3) g28 F28.kp b28
  have K_rule_sides := Kn.mk (x := "rule_sides") (base := base) (w := w) (P := l.prog) (ok_rule_sides (k := 0) F29 K_other_side TX) g29 F29.kp b29
  have K_turning := Kn.mk (x := "turning") (base := base) (w := w) (P := l.prog) (ok_turning (k := 0) F30 K_chain_to K_other_side) g30 F30.kp b30
  have K_ring_paper := Kn.mk (x := "ring_paper") (base := base) (w := w) (P := l.prog) (ok_ring_paper (k := 0) F31 K_rule_sides K_turning K_other_side) g31 F31.kp b31
  have K_none_paper := Kn.mk (x := "none_paper") (base := base) (w := w) (P := l.prog) (ok_none_paper (k := 0) F32 K_barred_paper K_ring_paper) g32 F32.kp b32
  have K_forced := Kn.mk (x := "forced") (base := base) (w := w) (P := l.prog) (ok_forced (k := 0) F33 K_rule_sides K_turning m16) g33 F33.kp b33
  have BoF := ok_bounds (k := 0) F34 K_none_paper K_forced K_follows
  have gBo := g34
  have kBo := F34.kp
  have bBo := b34
  have rBo := rds34
  have hEBo := hE34
  have K_bounds := Kn.mk (x := "bounds") BoF gBo kBo B34
  have AgF := ok_a_good (k := 0) F35 K_none_paper K_forced K_follows TX EX_NoGood GX_NoGood m8 m12 m16
  have gAg := g35
  have kAg := F35.kp
  have bAg := b35
  have rAg := rds35
  have hEAg := hE35
  have K_a_good := KnX.mk (x := "a_good") AgF gAg kAg B35
  have K_pulled := Kn.mk (x := "pulled") (base := base) (w := w) (P := l.prog) (ok_pulled (k := 0) F36 K_follows m10 m11 m16 m17) g36 F36.kp b36
  have K_nearest := KnX.mk (x := "nearest") (base := base) (w := w) (P := l.prog) (ok_nearest (k := 0) F37 K_none_paper K_pulled EX_NoGood GX_NoGood) g37 F37.kp b37
  have K_come_to := Kn.mk (x := "come_to") (base := base) (w := w) (P := l.prog) (ok_come_to (k := 0) F38 ) g38 F38.kp b38
  have K_nearest_paper := KnX.mk (x := "nearest_paper") (base := base) (w := w) (P := l.prog) (ok_nearest_paper (k := 0) F39 K_nearest K_chain_to K_come_to m17 m5 m16) g39 F39.kp b39
  have K_is_pull := Kn.mk (x := "is_pull") (base := base) (w := w) (P := l.prog) (ok_is_pull (k := 0) F40 K_is_chain) g40 F40.kp b40
  have K_are_pulls := Kn.mk (x := "are_pulls") (base := base) (w := w) (P := l.prog) (ok_are_pulls (k := 0) F41 K_is_pull K_come_to m17 m5 m7 m8 m16) g41 F41.kp b41
  have Kke := Kn.mk (x := "is_kept") (base := base) (w := w) (P := l.prog) (ok_kept (k := 0) F20 Kin) g20 F20.kp b20
  have K_is_kept := Kke
  have Kbr := Kn.mk (x := "broken") (base := base) (w := w) (P := l.prog) (ok_broken (k := 0) F21 TX Kke m16 m5) g21 F21.kp b21
  have K_broken := Kbr
  have Kgo := Kn.mk (x := "is_good") (base := base) (w := w) (P := l.prog) (ok_good (k := 0) F22 Kbr) g22 F22.kp b22
  have K_is_good := Kgo
  have K_shows_nearest := Kn.mk (x := "shows_nearest") (base := base) (w := w) (P := l.prog) (ok_shows_nearest (k := 0) F42 K_is_standing K_is_good K_has K_are_pulls) g42 F42.kp b42
  have Kli := Kn.mk (x := "_law_is_in") (base := base) (w := w) (P := l.prog) (ok_lin (k := 0) F53) g53 F53.kp b53
  have K__law_is_in := Kli
  have K__law_has := Kn.mk (x := "_law_has") (base := base) (w := w) (P := l.prog) (ok__law_has (k := 0) F55 K__law_is_in m2) g55 F55.kp b55
  have K__law_out := Kn.mk (x := "_law_out") (base := base) (w := w) (P := l.prog) (ok__law_out (k := 0) F56 ) g56 F56.kp b56
  have K__law_press := Kn.mk (x := "_law_press") (base := base) (w := w) (P := l.prog) (ok__law_press (k := 0) F57 m9 m10 m11) g57 F57.kp b57
  have K__law_pressed := Kn.mk (x := "_law_pressed") (base := base) (w := w) (P := l.prog) (ok__law_pressed (k := 0) F58 K__law_press K__law_out m16) g58 F58.kp b58
  have K__law_can := Kn.mk (x := "_law_can") (base := base) (w := w) (P := l.prog) (ok__law_can (k := 0) F59 K__law_pressed m2) g59 F59.kp b59
  have Ktake := Kn.mk (x := "_law_take") (base := base) (w := w) (P := l.prog) (ok_take (k := 0) F44) g44 F44.kp b44
  have K__law_take := Ktake
  have K__law_padded := Kn.mk (x := "_law_padded") (base := base) (w := w) (P := l.prog) (ok__law_padded (k := 0) F60 K__law_take m8) g60 F60.kp b60
  have Kof := Kn.mk (x := "_law_of") (base := base) (w := w) (P := l.prog) (ok_of (k := 0) F45 Ktake m8) g45 F45.kp b45
  have K__law_of := Kof
  have K__law_near_side := Kn.mk (x := "_law_near_side") (base := base) (w := w) (P := l.prog) (ok__law_near_side (k := 0) F61 K__law_take K__law_of m8 m10 m11) g61 F61.kp b61
  have K__law_first := Kn.mk (x := "_law_first") (base := base) (w := w) (P := l.prog) (ok__law_first (k := 0) F62 K__law_can m8) g62 F62.kp b62
  have K__law_ends := Kn.mk (x := "_law_ends") (base := base) (w := w) (P := l.prog) (ok__law_ends (k := 0) F63 K__law_first m9 m14) g63 F63.kp b63
  have K__law_papers := Kn.mk (x := "_law_papers") (base := base) (w := w) (P := l.prog) (ok__law_papers (k := 0) F64 K_nearest K_a_good EX_NoGood) g64 F64.kp b64
  have Kbk := Kn.mk (x := "_law_broken") (base := base) (w := w) (P := l.prog) (ok_brk (k := 0) F54 Kli m5) g54 F54.kp b54
  have K__law_broken := Kbk
  have K__law_want_right := ok__law_want_right F65 K__law_pressed K_follows K_bounds K__law_papers K_shows_none K_nearest K__law_ends K__law_take K_a_good K__law_broken K__law_has K_shows_nearest K_nearest_paper TX m17 m2 m8 m10 m11 m12 m13 m16 m17
  have Kgt := Kn.mk (x := "_law_great_tops") (base := base) (w := w) (P := l.prog) (ok_gtops (k := 0) F49 Ktake Kof m12 m16) g49 F49.kp b49
  have K__law_great_tops := Kgt
  have Kst := Kn.mk (x := "_law_standing") (base := base) (w := w) (P := l.prog) (ok_stand (k := 0) F46 Ktake m16) g46 F46.kp b46
  have K__law_standing := Kst
  have Kbt := Kn.mk (x := "_law_between_rule") (base := base) (w := w) (P := l.prog) (ok_btw (k := 0) F50 Ktake Kof m12 m8 m1) g50 F50.kp b50
  have K__law_between_rule := Kbt
  have Kse := Kn.mk (x := "_law_side_in") (base := base) (w := w) (P := l.prog) (ok_sideIn (k := 0) F47 Ktake m8) g47 F47.kp b47
  have K__law_side_in := Kse
  have Krl := Kn.mk (x := "_law_rules") (base := base) (w := w) (P := l.prog) (ok_rulesL (k := 0) F48 Ktake Kse m12 m16) g48 F48.kp b48
  have K__law_rules := Krl
  have Kpn := Kn.mk (x := "_law_plan") (base := base) (w := w) (P := l.prog) (ok_planL (k := 0) F51 Ktake Kst Kbt Krl m12 m9 m16) g51 F51.kp b51
  have K__law_plan := Kpn
  have Kgr := Kn.mk (x := "_law_great") (base := base) (w := w) (P := l.prog) (ok_great (k := 0) F52 Kgt Kpn) g52 F52.kp b52
  have K__law_great := Kgr
  have GI := ok_init (P := l.prog) (w := w) (base := base) (k := 0) FD TX Kto Krs
  have K__law_right := ok__law_right F66 K__law_great K__law_padded K__law_near_side K__law_take K__law_want_right g65 F65.kp b65 K__law_side_in TX MK GI bI m12 m16
  have Kpot := Kn.mk (x := "_law_pot") (base := base) (w := w) (P := l.prog) (ok_pot (k := 0) F43 m8 m1 m6) g43 F43.kp b43
  have K__law_pot := Kpot
  exact ok_law F67 K__law_pot K__law_right g66 F66.kp b66 m2 m8 m10 m11 m12
end K16
open PySem PySem.W PyProof.Rows
set_option maxHeartbeats 0 in
theorem PySem.Challenge.cw_notbothout_k16_great_lines_pressed_holds : PySem.Challenge.rw_notbothout_k16_great_lines_pressed.Holds := by
  w_on; o_law; k_head; (case hw => w_witness2)
  k_fill
  refine NB.walkG (l := PySem.Challenge.rw_notbothout_k16_great_lines_pressed) (n := 63) (k := 14) (x := "_law_script") (sp := fun w => K16.spLaw _) rfl (by decide) rfl ⟨rfl, by decide, by decide⟩ (fun w h Y => PySem.W.kIn_of Y) ?F (fun _ _ a ns hl hS => ⟨a, ns, rfl, hS, hl, fun _ => rfl⟩)
  case F =>
    intro w mg fa h KX G hmg
    refine' K16.all_mk KX G hmg ?a1 ?l1 ?c1 ?k1 ?a2 ?l2 ?c2 ?k2 ?a3 ?l3 ?c3 ?k3 ?a4 ?l4 ?c4 ?k4 ?a5 ?l5 ?c5 ?k5 ?a6 ?l6 ?c6 ?k6 ?a7 ?l7 ?c7 ?k7 ?a8 ?l8 ?c8 ?k8 ?a9 ?l9 ?c9 ?k9 ?a10 ?l10 ?c10 ?k10 ?a11 ?l11 ?c11 ?k11 ?a12 ?l12 ?c12 ?k12 ?a13 ?l13 ?c13 ?k13 ?a14 ?l14 ?c14 ?k14 ?a15 ?l15 ?c15 ?k15 ?a16 ?l16 ?c16 ?k16 ?a17 ?l17 ?c17 ?k17 ?a18 ?l18 ?c18 ?k18 ?a19 ?l19 ?c19 ?k19 ?a20 ?l20 ?c20 ?k20 ?a21 ?l21 ?c21 ?k21 ?a22 ?l22 ?c22 ?k22 ?a23 ?l23 ?c23 ?k23 ?a24 ?l24 ?c24 ?k24 ?a25 ?l25 ?c25 ?k25 ?a26 ?l26 ?c26 ?k26 ?a27 ?l27 ?c27 ?k27 ?a28 ?l28 ?c28 ?k28 ?a29 ?l29 ?c29 ?k29 ?a30 ?l30 ?c30 ?k30 ?a31 ?l31 ?c31 ?k31 ?a32 ?l32 ?c32 ?k32 ?a33 ?l33 ?c33 ?k33 ?a34 ?l34 ?c34 ?k34 ?lT34 ?lE34 ?a35 ?l35 ?c35 ?k35 ?lT35 ?lE35 ?a36 ?l36 ?c36 ?k36 ?a37 ?l37 ?c37 ?k37 ?a38 ?l38 ?c38 ?k38 ?a39 ?l39 ?c39 ?k39 ?a40 ?l40 ?c40 ?k40 ?a41 ?l41 ?c41 ?k41 ?a42 ?l42 ?c42 ?k42 ?a43 ?l43 ?c43 ?k43 ?a44 ?l44 ?c44 ?k44 ?a45 ?l45 ?c45 ?k45 ?a46 ?l46 ?c46 ?k46 ?a47 ?l47 ?c47 ?k47 ?a48 ?l48 ?c48 ?k48 ?a49 ?l49 ?c49 ?k49 ?a50 ?l50 ?c50 ?k50 ?a51 ?l51 ?c51 ?k51 ?a52 ?l52 ?c52 ?k52 ?a53 ?l53 ?c53 ?k53 ?a54 ?l54 ?c54 ?k54 ?a55 ?l55 ?c55 ?k55 ?a56 ?l56 ?c56 ?k56 ?a57 ?l57 ?c57 ?k57 ?a58 ?l58 ?c58 ?k58 ?a59 ?l59 ?c59 ?k59 ?a60 ?l60 ?c60 ?k60 ?a61 ?l61 ?c61 ?k61 ?a62 ?l62 ?c62 ?k62 ?a63 ?l63 ?c63 ?k63 ?a64 ?l64 ?c64 ?k64 ?a65 ?l65 ?c65 ?k65 ?a66 ?l66 ?c66 ?k66 ?a67 ?l67 ?c67 ?k67 ?aC ?aI ?iI ?lI ?cI ?kI ?lT ?pg ?hd ?po ?sa ?mk ?kc ?nTo ?nRu ?v1 ?v2 ?v3 ?v4 ?v5 ?a_NoGood ?x_NoGood ?r_NoGood ?sa_NoGood ?ga_NoGood ?gg_NoGood ?nb_NoGood ?i_NoGood ?t_NoGood ?l_NoGood ?c_NoGood ?kf_NoGood ?kC_NoGood ?e_NoGood ?ty_NoGood ?hd_NoGood ?is_NoGood ?ss_NoGood ?z1 ?z2 ?z3 ?z4 ?z5 ?z6 ?z7 ?z8 ?z9 ?z10 ?z11 ?z12 ?z13 ?z14 ?z15 ?z16 ?z17
    (case a1 => k_is)
    (case l1 => k_is)
    (case c1 => k_is)
    (case k1 => k_is)
    (case a2 => k_is)
    (case l2 => k_is)
    (case c2 => k_is)
    (case k2 => k_is)
    (case a3 => k_is)
    (case l3 => k_is)
    (case c3 => k_is)
    (case k3 => k_is)
    (case a4 => k_is)
    (case l4 => k_is)
    (case c4 => k_is)
    (case k4 => k_is)
    (case a5 => k_is)
    (case l5 => k_is)
    (case c5 => k_is)
    (case k5 => k_is)
    (case a6 => k_is)
    (case l6 => k_is)
    (case c6 => k_is)
    (case k6 => k_is)
    (case a7 => k_is)
    (case l7 => k_is)
    (case c7 => k_is)
    (case k7 => k_is)
    (case a8 => k_is)
    (case l8 => k_is)
    (case c8 => k_is)
    (case k8 => k_is)
    (case a9 => k_is)
    (case l9 => k_is)
    (case c9 => k_is)
    (case k9 => k_is)
    (case a10 => k_is)
    (case l10 => k_is)
    (case c10 => k_is)
    (case k10 => k_is)
    (case a11 => k_is)
    (case l11 => k_is)
    (case c11 => k_is)
    (case k11 => k_is)
    (case a12 => k_is)
    (case l12 => k_is)
    (case c12 => k_is)
    (case k12 => k_is)
    (case a13 => k_is)
    (case l13 => k_is)
    (case c13 => k_is)
    (case k13 => k_is)
    (case a14 => k_is)
    (case l14 => k_is)
    (case c14 => k_is)
    (case k14 => k_is)
    (case a15 => k_is)
    (case l15 => k_is)
    (case c15 => k_is)
    (case k15 => k_is)
    (case a16 => k_is)
    (case l16 => k_is)
    (case c16 => k_is)
    (case k16 => k_is)
    (case a17 => k_is)
    (case l17 => k_is)
    (case c17 => k_is)
    (case k17 => k_is)
    (case a18 => k_is)
    (case l18 => k_is)
    (case c18 => k_is)
    (case k18 => k_is)
    (case a19 => k_is)
    (case l19 => k_is)
    (case c19 => k_is)
    (case k19 => k_is)
    (case a20 => k_is)
    (case l20 => k_is)
    (case c20 => k_is)
    (case k20 => k_is)
    (case a21 => k_is)
    (case l21 => k_is)
    (case c21 => k_is)
    (case k21 => k_is)
    (case a22 => k_is)
    (case l22 => k_is)
    (case c22 => k_is)
    (case k22 => k_is)
    (case a23 => k_is)
    (case l23 => k_is)
    (case c23 => k_is)
    (case k23 => k_is)
    (case a24 => k_is)
    (case l24 => k_is)
    (case c24 => k_is)
    (case k24 => k_is)
    (case a25 => k_is)
    (case l25 => k_is)
    (case c25 => k_is)
    (case k25 => k_is)
    (case a26 => k_is)
    (case l26 => k_is)
    (case c26 => k_is)
    (case k26 => k_is)
    (case a27 => k_is)
    (case l27 => k_is)
    (case c27 => k_is)
    (case k27 => k_is)
    (case a28 => k_is)
    (case l28 => k_is)
    (case c28 => k_is)
    (case k28 => k_is)
    (case a29 => k_is)
    (case l29 => k_is)
    (case c29 => k_is)
    (case k29 => k_is)
    (case a30 => k_is)
    (case l30 => k_is)
    (case c30 => k_is)
    (case k30 => k_is)
    (case a31 => k_is)
    (case l31 => k_is)
    (case c31 => k_is)
    (case k31 => k_is)
    (case a32 => k_is)
    (case l32 => k_is)
    (case c32 => k_is)
    (case k32 => k_is)
    (case a33 => k_is)
    (case l33 => k_is)
    (case c33 => k_is)
    (case k33 => k_is)
    (case a34 => k_is)
    (case l34 => k_is)
    (case c34 => k_is)
    (case k34 => k_is)
    (case lT34 => k_is)
    (case lE34 => k_is)
    (case a35 => k_is)
    (case l35 => k_is)
    (case c35 => k_is)
    (case k35 => k_is)
    (case lT35 => k_is)
    (case lE35 => k_is)
    (case a36 => k_is)
    (case l36 => k_is)
    (case c36 => k_is)
    (case k36 => k_is)
    (case a37 => k_is)
    (case l37 => k_is)
    (case c37 => k_is)
    (case k37 => k_is)
    (case a38 => k_is)
    (case l38 => k_is)
    (case c38 => k_is)
    (case k38 => k_is)
    (case a39 => k_is)
    (case l39 => k_is)
    (case c39 => k_is)
    (case k39 => k_is)
    (case a40 => k_is)
    (case l40 => k_is)
    (case c40 => k_is)
    (case k40 => k_is)
    (case a41 => k_is)
    (case l41 => k_is)
    (case c41 => k_is)
    (case k41 => k_is)
    (case a42 => k_is)
    (case l42 => k_is)
    (case c42 => k_is)
    (case k42 => k_is)
    (case a43 => k_is)
    (case l43 => k_is)
    (case c43 => k_is)
    (case k43 => k_is)
    (case a44 => k_is)
    (case l44 => k_is)
    (case c44 => k_is)
    (case k44 => k_is)
    (case a45 => k_is)
    (case l45 => k_is)
    (case c45 => k_is)
    (case k45 => k_is)
    (case a46 => k_is)
    (case l46 => k_is)
    (case c46 => k_is)
    (case k46 => k_is)
    (case a47 => k_is)
    (case l47 => k_is)
    (case c47 => k_is)
    (case k47 => k_is)
    (case a48 => k_is)
    (case l48 => k_is)
    (case c48 => k_is)
    (case k48 => k_is)
    (case a49 => k_is)
    (case l49 => k_is)
    (case c49 => k_is)
    (case k49 => k_is)
    (case a50 => k_is)
    (case l50 => k_is)
    (case c50 => k_is)
    (case k50 => k_is)
    (case a51 => k_is)
    (case l51 => k_is)
    (case c51 => k_is)
    (case k51 => k_is)
    (case a52 => k_is)
    (case l52 => k_is)
    (case c52 => k_is)
    (case k52 => k_is)
    (case a53 => k_is)
    (case l53 => k_is)
    (case c53 => k_is)
    (case k53 => k_is)
    (case a54 => k_is)
    (case l54 => k_is)
    (case c54 => k_is)
    (case k54 => k_is)
    (case a55 => k_is)
    (case l55 => k_is)
    (case c55 => k_is)
    (case k55 => k_is)
    (case a56 => k_is)
    (case l56 => k_is)
    (case c56 => k_is)
    (case k56 => k_is)
    (case a57 => k_is)
    (case l57 => k_is)
    (case c57 => k_is)
    (case k57 => k_is)
    (case a58 => k_is)
    (case l58 => k_is)
    (case c58 => k_is)
    (case k58 => k_is)
    (case a59 => k_is)
    (case l59 => k_is)
    (case c59 => k_is)
    (case k59 => k_is)
    (case a60 => k_is)
    (case l60 => k_is)
    (case c60 => k_is)
    (case k60 => k_is)
    (case a61 => k_is)
    (case l61 => k_is)
    (case c61 => k_is)
    (case k61 => k_is)
    (case a62 => k_is)
    (case l62 => k_is)
    (case c62 => k_is)
    (case k62 => k_is)
    (case a63 => k_is)
    (case l63 => k_is)
    (case c63 => k_is)
    (case k63 => k_is)
    (case a64 => k_is)
    (case l64 => k_is)
    (case c64 => k_is)
    (case k64 => k_is)
    (case a65 => k_is)
    (case l65 => k_is)
    (case c65 => k_is)
    (case k65 => k_is)
    (case a66 => k_is)
    (case l66 => k_is)
    (case c66 => k_is)
    (case k66 => k_is)
    (case a67 => k_is)
    (case l67 => k_is)
    (case c67 => k_is)
    (case k67 => k_is)
    (case aC => k_is)
    (case aI => k_is)
    (case iI => k_is)
    (case lI => k_is)
    (case cI => k_is)
    (case kI => k_is)
    (case lT => k_is)
    (case pg => k_is)
    (case hd => k_is)
    (case po => k_is)
    (case sa => k_is)
    (case mk => k_is)
    (case kc => k_is)
    (case nTo => k_is)
    (case nRu => k_is)
    (case v1 => k_is)
    (case v2 => k_is)
    (case v3 => k_is)
    (case v4 => k_is)
    (case v5 => k_is)
    (case a_NoGood => k_is)
    (case x_NoGood => k_is)
    (case r_NoGood => first | rfl | decide +kernel)
    (case sa_NoGood => k_is)
    (case ga_NoGood => k_is)
    (case gg_NoGood => k_is)
    (case nb_NoGood => k_is)
    (case i_NoGood => k_is)
    (case t_NoGood => k_is)
    (case l_NoGood => k_is)
    (case c_NoGood => k_is)
    (case kf_NoGood => k_is)
    (case kC_NoGood => k_is)
    (case e_NoGood => k_is)
    (case ty_NoGood => k_is)
    (case hd_NoGood => k_is)
    (case is_NoGood => k_is)
    (case ss_NoGood => first | rfl | k_is)
    (case z1 => k_is)
    (case z2 => k_is)
    (case z3 => k_is)
    (case z4 => k_is)
    (case z5 => k_is)
    (case z6 => k_is)
    (case z7 => k_is)
    (case z8 => k_is)
    (case z9 => k_is)
    (case z10 => k_is)
    (case z11 => k_is)
    (case z12 => k_is)
    (case z13 => k_is)
    (case z14 => k_is)
    (case z15 => k_is)
    (case z16 => k_is)
    (case z17 => k_is)
