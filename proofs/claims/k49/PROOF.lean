import PyProof.Rows.All
import Wide.All
import OpenK.AllK
import Wide.FinOn
import HandS.Base
import HandS.Call
import HandS.List
import HandS.Comp
import HandS.Ends
import HandS.Dict
import HandS.Iter
import HandS.Text
import HandS.Words
import HandS.WordsList
import HandS.WordsDict
import HandS.Wide
import HandS.Zip
import HandS.Flow
import HandS.Flt
import KE.GoesMore
import KE.KDictZip
import PyProof.ReprRoads
import HandS.Walk
import PyProof.TupleOfSeq
import KE.GoesEnum
import HandS.Style
import PyProof.ReprLen
import HandS.IsInst
import HandS.TupAny
import PyProof.EqAt
import PyProof.NeKinds
import HandS.Codes
import HandS.Defaults
import HandS.TupMul
import HandS.Exc
import HandS.ExcOwn
import HandS.ExcInit
import HandS.ExcField
import HandS.WordsExc
import HandS.Conv
import HandS.TupSets
import HandS.DictTup
import HandS.Steps
import HandS.OwnEq
import HandS.SortOrd
import HandS.SortRule
import HandS.Deep
import KE.KDictPairs
import PyProof.Rows.TupDisplay
import HandS.SortKw
import KE.DataMinMax
import KE.DatumOrd
import PyProof.Rows.TupReads
import PySem.Challenge.RW_notbothout_k49_whole_chains_hold_in_any
set_option Elab.async false
set_option linter.all false
set_option maxRecDepth 100000
/-! Defs whose callers are known to show nothing (guards empty): what repr wants. -/
namespace NB
open PySem PySem.Spec PyProof.Rows L2

/-- a def's promise, wherever nothing is being shown around it -/
structure FnG (P : Program) (w : World) (K : PySem.W.Frag) (mg : Str → Option Value) (base : Heap) (k : Nat) (f : Addr) (fd : FuncData) (ps : List Str) (sp : Sp) : Prop where
  len : ∀ vs H Q E, sp vs H Q E → vs.length = ps.length
  go : ∀ (A : Around) (out : List Env) (s : Shared) (H : Hp) (ar : Args) (us : List Value) (vs : List V) (Q : VK) (E : XK),
    A.guards = some [] → Room k A → Env0 P w K mg base A out s H → BindsTo s fd ar (ps.zip us) → Vals vs us → sp vs H Q E →
    codeAny (model P w) A (.call (.ref f) ar) (CR CX0 out P w H s Q E) s

section
variable {P : Program} {w : World} {K : PySem.W.Frag} {mg : Str → Option Value} {base : Heap}

theorem FnG.of {k : Nat} {f : Addr} {fd : FuncData} {ps : List Str} {sp : Sp} (F : FnOk P w K mg base CX0 k f fd ps sp) : FnG P w K mg base k f fd ps sp :=
  ⟨F.len, fun A out s H ar us vs Q E _ => F.run A out s H ar us vs Q E⟩

theorem fnG {x qual : Str} {st : Stmt} {f : Addr} {fd : FuncData} {N ps : List Str} {k : Nat} {sp : Sp} (F : Fun K x qual st f fd)
    (S : FnScope N ps (defScope st)) (len : ∀ vs H Q E, sp vs H Q E → vs.length = ps.length)
    (body : ∀ (c : Value) (A : Around) (out : List Env) (s : Shared) (H : Hp) (vs : List V) (Q : VK) (E : XK),
      A.guards = some [] → Room k (A.deeper (envOfC qual (defScope st) s.heap.objs.size f c)) → sp vs H Q E →
      ∃ t, PSs (cxOf CX0 P w K mg base N qual (defScope st) f c A out s H E).nox (defBody st) t ∧
        t { nx := fun _ H' => Q .non H', rt := Q } (start N vs) H) :
    FnG P w K mg base (k + 1) f fd ps sp := by
  obtain ⟨oc, od, kV, doc, pm, an, c, ct, osl, rfl, lk, hc⟩ := F.ex
  refine ⟨len, fun A out s H ar us vs Q E hg hr e hb r h => ?_⟩
  have stays : ∀ b o, base.get? b = some o → s.heap.get? b = some o := fun b o q => (e.bs b o q).1
  have inH : K.In s.heap := e.mod.kin.keeps stays
  have noLim : s.heap.NoLimit := e.mod.nolimit.keeps stays
  have kinds : ∀ y ∈ ps.zip us, (defScope st).names.lookup y.1 = some .local ∨
      ((defScope st).names.lookup y.1 = some .cell ∧ ((cellsFrom (s.heap.objs.size + 1) (defScope st).names []).lookup y.1).isSome = true) := by
    intro y hy
    obtain ⟨n, v⟩ := y
    cases S.par n (List.of_mem_zip hy).1 with
    | inl q => exact .inl q
    | inr q => exact .inr ⟨q, PySem.W.cellsFrom_some _ _ _ (.inl q)⟩
  refine codeAny_call_function hr.depth (inH _ _ lk) rfl S.co S.gen rfl (PySem.W.codeRec_of inH hc) (hb _ _ _ _ ?_)
  refine wpAny_newFunctionEnv_cells S.kind kinds ?_
  rintro env rfl s1 x
  refine ⟨noLim.keeps x.toInCall.keep, codeAny_func ?_⟩
  obtain ⟨t, ht, hq⟩ := body c A out s H vs Q E hg (hr.deeper _) h
  have I := inv_start (CX := CX0) (E := E) S hr.hd e (len _ _ _ _ h) r x
  refine wpAny_mono (ht.nox.run [] s1 (start N vs) H _ I hq) ?_ fun _ _ z => z
  intro fl s' z
  cases fl with
  | ret u =>
    obtain ⟨v, σ', H', J, rv, q⟩ := z
    exact ⟨v, H', J.os, J.bare, J.base, J.hok, rv, q⟩
  | next =>
    obtain ⟨σ', H', J, q⟩ := z
    exact ⟨V.non, H', J.os, J.bare, J.base, J.hok, rfl, q⟩
  | brk => exact False.elim z.choose_spec.choose_spec.2
  | cont => exact False.elim z.choose_spec.choose_spec.2
end

section
variable {X : Cx} {k : Nat} {f : Addr} {fd : FuncData} {ps : List Str} {sp : Sp} {x : Str} {p pos : Pos} {e : Expr} {es : List Expr} {t : TA}
/-- f(..) of such a def, all arguments written -/
theorem pe_callG (hG : X.A.guards = some []) (F : FnG X.prog X.w X.K X.mg X.base k f fd ps sp) (hr : Room k X.A) (hg : Gl X x) (hm : X.mg x = some (.ref f))
    (hk : PySem.W.keepIn X.K (.ref f) = true) (hb : Binds X.K fd ps []) (ha : PA X (e :: es) t) (hdb : (x == ("__debug__" : Str)) = false := by decide)
    (he : starEach (e :: es) X.env = (false, eval e X.env) :: starEach es X.env := by rfl) (hpl : (backTo pos (starEach es X.env)).any (·.1) = false := by rfl) :
    PE X (.Call (.Name x p) (e :: es) [] pos) (tCall sp [] E0 t) := by
  refine ⟨fun pins s σ H Q I h => wpAny_Call_Name_kw (ld_glob I hg hm ?_ hdb)⟩
  refine PySem.W.callWith_K (h₀ := X.base) I.ok.mod.kin hk (thn (ha.run pos pins s σ H _ I h) ?_) he hpl
  rintro us s1 ⟨vs, H1, I1, r, q⟩
  refine ⟨I1.kIn, wpAny_call ?_⟩
  have q2 : sp vs H1 Q E0 := by
    have q' : sp (vs ++ []) H1 Q E0 := q
    rwa [List.append_nil] at q'
  have ln : us.length = ps.length := r.length.symm.trans (F.len _ _ _ _ q2)
  have bnd : BindsTo s1 fd ⟨us, []⟩ (ps.zip us) := by
    have b := hb s1 us I1.kIn (by rw [List.append_nil]; exact ln)
    rwa [List.append_nil] at b
  refine codeAny_mono (F.go X.A X.stack s1 H1 ⟨us, []⟩ us vs Q E0 hG hr I1.env0 bnd r q2) ?_
  intro rs s' z
  cases rs with
  | error e => exact False.elim z
  | ok fl =>
    cases fl with
    | ret u => exact I1.after z
    | next => exact False.elim z
    | brk => exact False.elim z
    | cont => exact False.elim z
end

section
variable {X : Cx}
/-- what repr asks of data -/
structure Showable (d : PyData) : Prop where
  sh : d.showable = true
  nd : d.hasDict = false
  dp : d.depth ≤ 60
  sz : d.shown.length ≤ sizeLine
/-- repr(x), x a list or a tuple of data -/
theorem call_reprD (hG : X.A.guards = some []) (hu : X.A.units + 64 < cLine) : CallR X (.builtin "repr") (fun xs H Q => ∃ a d, xs = [.ref a] ∧ Dp X.K H (.ref a) d ∧ Showable d ∧ Q (.str d.shown) H) := by
  intro pins s σ H xs us Q I r h
  obtain ⟨a, d, rfl, hd, S, q⟩ := h
  obtain ⟨u, rfl, ru⟩ := vals1 r
  obtain ⟨as, rd⟩ := Dp.reads I d _ u hd ru
  cases ru
  have hn := S.dp
  exact repr_of_reads' rd S.sh (PyData.noDict_hsm S.nd) hG (by omega) (fun _ _ z => z) (fun h' u tk hk => ⟨.str _, H, I.kept hk, ⟨_, rfl⟩, q⟩) S.sz
end
end NB

set_option Elab.async false
set_option linter.all false
set_option maxRecDepth 100000
set_option maxHeartbeats 1000000
/-! zip of three tuples of one length, its turns given to one name or to three. -/
namespace NB
open PySem PySem.Spec PyProof.Rows L2
open PySem.Sem (wp)

/-- a zip as it stands between two turns: a is None or the tuple given out last -/
abbrev Zat (h : Heap) (z ti to : Addr) (a b : Value) : Prop :=
  h.get? z = some { cls := .type "zip", dict := none, data := .fields #[a, b, .bool false, .ref ti, .ref to], slots := #[] }
def Out (a : Value) : Prop := a = .none ∨ ∃ T : Addr, a = rawInt T

section
variable {prog : Program} {w : World} {A : Around} {E : Value → Shared → Prop} {s : Shared} {z ti to i1 i2 i3 l1 l2 l3 : Addr} {a a1 a2 a3 : Value} {f : Bool} {xs ys zs : Array Value} {i : Nat}

theorem freeOr {Q : Bool → Shared → Prop} (ho : Out a) (hz : Zat s.heap z ti to a (.bool f))
    (h : ∀ (b : Bool) (h' : Heap) (g : Bool), Zat h' z ti to a (.bool g) → Heap.SameBut z s.heap h' → Q b { s with heap := h' }) :
    wpAny (model prog w) A (Builtin.SmallTypes.ownedTupleIsFree (.ref z)) Q E s := by
  unfold Builtin.SmallTypes.ownedTupleIsFree
  refine wpAny_bind (wpAny_field hz rfl (x := a) rfl ?_)
  rcases ho with e | ⟨T, e⟩
  · subst e
    exact wpAny_pure (h true s.heap f hz (Heap.SameBut.refl _ _))
  · subst e
    show wpAny _ _ (loadIfAlive ((T : Int).toNat) >>= _) _ _ _
    rw [Int.toNat_natCast]
    refine wpAny_bind ?_
    cases e : s.heap.get? T with
    | none =>
      have key : wpAny (model prog w) A (loadIfAlive T) (fun r s' => r = none ∧ s' = s) E s := fun _ _ _ => ⟨e, rfl⟩
      refine thn key fun r s' q => ?_
      obtain ⟨rfl, rfl⟩ := q
      exact wpAny_pure (h true _ f hz (Heap.SameBut.refl _ _))
    | some o =>
      refine PySem.W.kdx_alive e ?_
      simp only [Option.isNone_some, Bool.false_eq_true, if_false]
      refine wpAny_bind (wpAny_field hz rfl (x := .bool f) rfl ?_)
      cases f with
      | true =>
        rw [if_neg (show ¬ ((Value.bool true != Value.bool true) = true) by decide)]
        exact wpAny_pure (h false s.heap true hz (Heap.SameBut.refl _ _))
      | false =>
        rw [if_pos (show (Value.bool false != Value.bool true) = true by decide)]
        exact wpAny_bind (wpAny_setField_rec hz (by simp) fun h1 z1 s1 => wpAny_pure (h false h1 true z1 s1))

/-- the three iterators over their tuples at turn i, apart from the zip's own cells -/
abbrev St3 (h : Heap) (i1 i2 i3 l1 l2 l3 : Addr) (xs ys zs : Array Value) (i : Nat) : Prop :=
  (h.IsTupleIter i1 l1 i ∧ h.IsTuple l1 xs) ∧ (h.IsTupleIter i2 l2 i ∧ h.IsTuple l2 ys) ∧ (h.IsTupleIter i3 l3 i ∧ h.IsTuple l3 zs)

theorem keepIt {h h' : Heap} {it l : Addr} {k : Nat} {vs : Array Value} (st : h.IsTupleIter it l k ∧ h.IsTuple l vs) {x : Addr} (hs : Heap.SameBut x h h') (n1 : it ≠ x) (n2 : l ≠ x) : h'.IsTupleIter it l k ∧ h'.IsTuple l vs :=
  ⟨st.1.extBut hs.extBut n1, st.2.extBut hs.extBut n2⟩

structure Far3 (z ti to i1 i2 i3 l1 l2 l3 : Addr) : Prop where
  tiz : ti ≠ z
  toz : to ≠ z
  tito : ti ≠ to
  ti1 : ti ≠ i1
  ti2 : ti ≠ i2
  ti3 : ti ≠ i3
  to1 : to ≠ i1
  to2 : to ≠ i2
  to3 : to ≠ i3
  z1 : i1 ≠ z
  z2 : i2 ≠ z
  z3 : i3 ≠ z
  n12 : i1 ≠ i2
  n13 : i1 ≠ i3
  n23 : i2 ≠ i3
  l1n : l1 ≠ z ∧ l1 ≠ to ∧ l1 ≠ i1 ∧ l1 ≠ i2 ∧ l1 ≠ i3
  l2n : l2 ≠ z ∧ l2 ≠ to ∧ l2 ≠ i1 ∧ l2 ≠ i2 ∧ l2 ≠ i3
  l3n : l3 ≠ z ∧ l3 ≠ to ∧ l3 ≠ i1 ∧ l3 ≠ i2 ∧ l3 ≠ i3

theorem drawT {it l : Addr} {k : Nat} {vs : Array Value} {x : Value} {Q : Value → Shared → Prop} (st : s.heap.IsTupleIter it l k ∧ s.heap.IsTuple l vs) (ne : l ≠ it) (hx : vs[k]? = some x)
    (h : ∀ h', (h'.IsTupleIter it l (k + 1) ∧ h'.IsTuple l vs) → Heap.SameBut it s.heap h' → Q x { s with heap := h' }) :
    wpAny (model prog w) A (Builtin.SmallTypes.nextOf (.ref it)) Q E s :=
  RZ.nextOf_tuple_item st.1 st.2 hx fun h' q1 q2 => h h' ⟨q1, st.2.extBut q2.extBut ne⟩ q2

theorem next3 {x1 x2 x3 : Value} {Q : Value → Shared → Prop} (D : Far3 z ti to i1 i2 i3 l1 l2 l3) (ho : Out a) (hz : Zat s.heap z ti to a (.bool f))
    (hI : IsTupOf3 s.heap ti (.ref i1) (.ref i2) (.ref i3)) (hO : IsTupOf3 s.heap to a1 a2 a3) (st : St3 s.heap i1 i2 i3 l1 l2 l3 xs ys zs i)
    (hx : xs[i]? = some x1) (hy : ys[i]? = some x2) (hw : zs[i]? = some x3)
    (hQ : ∀ (h' : Heap) (a' : Value) (g : Bool) (b1 b2 b3 : Value), Out a' → Zat h' z ti to a' (.bool g) → IsTupOf3 h' to b1 b2 b3 → St3 h' i1 i2 i3 l1 l2 l3 xs ys zs (i + 1) → IsTupOf3 h' s.heap.objs.size x1 x2 x3 → h'.objs.size = s.heap.objs.size + 1 →
      (∀ c o, c ≠ z → c ≠ to → c ≠ i1 → c ≠ i2 → c ≠ i3 → s.heap.get? c = some o → h'.get? c = some o) → Q (.ref s.heap.objs.size) { s with heap := h' }) :
    wpAny (model prog w) A (Builtin.«zip.__next__» ⟨[.ref z], []⟩) (fun fin s' => ∃ v, fin = .done (.ret v) ∧ Q v s') E s := by
  obtain ⟨hp, gg, dd, tk, os⟩ := s
  show wpAny _ _ (field (.ref z) 2 >>= _) _ _ _
  refine wpAny_bind (wpAny_field hz rfl (x := .bool false) rfl ?_)
  show wpAny _ _ (field (.ref z) 3 >>= _) _ _ _
  refine wpAny_bind (wpAny_field hz rfl (x := .ref ti) rfl ?_)
  refine wpAny_bind (wpAny_seqItems hI rfl ?_)
  show wpAny _ _ (Builtin.SmallTypes.ownedTupleIsFree (.ref z) >>= _) _ _ _
  refine wpAny_bind (freeOr ho hz fun b h1 f1 hz1 hs1 => ?_)
  replace hs1 : Heap.SameBut z hp h1 := hs1
  obtain ⟨sa, sb, sc⟩ := st
  have sa1 := keepIt sa hs1 D.z1 D.l1n.1
  have sb1 := keepIt sb hs1 D.z2 D.l2n.1
  have sc1 := keepIt sc hs1 D.z3 D.l3n.1
  have hO1 : IsTupOf3 h1 to a1 a2 a3 := hs1.extBut _ _ D.toz hO
  cases b with
  | false =>
    simp only [Bool.false_eq_true, if_false]
    refine wpAny_bind ?_
    rw [← Array.forIn_toList]
    simp only [List.forIn_cons, List.forIn_nil]
    refine wpAny_bind (wpAny_bind (wpAny_holding ?_))
    show wpAny _ _ (Builtin.SmallTypes.nextOf (.ref i1) >>= _) _ _ ⟨h1, gg, dd, tk, os⟩
    refine wpAny_bind (drawT (s := ⟨h1, gg, dd, tk, os⟩) sa1 D.l1n.2.2.1 hx fun h2 sa2 hs2 => wpAny_pure (wpAny_pure ?_))
    replace hs2 : Heap.SameBut i1 h1 h2 := hs2
    have sb2 := keepIt sb1 hs2 D.n12.symm D.l2n.2.2.1
    have sc2 := keepIt sc1 hs2 D.n13.symm D.l3n.2.2.1
    refine wpAny_bind (wpAny_bind (wpAny_holding ?_))
    show wpAny _ _ (Builtin.SmallTypes.nextOf (.ref i2) >>= _) _ _ ⟨h2, gg, dd, tk, os⟩
    refine wpAny_bind (drawT (s := ⟨h2, gg, dd, tk, os⟩) sb2 D.l2n.2.2.2.1 hy fun h3 sb3 hs3 => wpAny_pure (wpAny_pure ?_))
    replace hs3 : Heap.SameBut i2 h2 h3 := hs3
    have sa3 := keepIt sa2 hs3 D.n12 D.l1n.2.2.2.1
    have sc3 := keepIt sc2 hs3 D.n23.symm D.l3n.2.2.2.1
    refine wpAny_bind (wpAny_bind (wpAny_holding ?_))
    show wpAny _ _ (Builtin.SmallTypes.nextOf (.ref i3) >>= _) _ _ ⟨h3, gg, dd, tk, os⟩
    refine wpAny_bind (drawT (s := ⟨h3, gg, dd, tk, os⟩) sc3 D.l3n.2.2.2.2 hw fun h4 sc4 hs4 => wpAny_pure (wpAny_pure (wpAny_pure ?_)))
    replace hs4 : Heap.SameBut i3 h3 h4 := hs4
    have sa4 := keepIt sa3 hs4 D.n13 D.l1n.2.2.2.2
    have sb4 := keepIt sb3 hs4 D.n23 D.l2n.2.2.2.2
    show wpAny _ _ (newTuple [x1, x2, x3] >>= _) _ _ ⟨h4, gg, dd, tk, os⟩
    refine wpAny_bind (wpAny_newTuple (wpAny_pure ⟨_, rfl, ?_⟩))
    have sz : h4.objs.size = hp.objs.size := by rw [hs4.1, hs3.1, hs2.1, hs1.1]
    have kk : ∀ c o, c ≠ z → c ≠ i1 → c ≠ i2 → c ≠ i3 → hp.get? c = some o → h4.get? c = some o := fun c o c0 c1 c2 c3 e =>
      hs4.extBut _ _ c3 (hs3.extBut _ _ c2 (hs2.extBut _ _ c1 (hs1.extBut _ _ c0 e)))
    have hz4 : Zat h4 z ti to a (.bool f1) := hs4.extBut _ _ D.z3.symm (hs3.extBut _ _ D.z2.symm (hs2.extBut _ _ D.z1.symm hz1))
    have hO4 : IsTupOf3 h4 to a1 a2 a3 := kk _ _ D.toz D.to1 D.to2 D.to3 hO
    have up : ∀ c o, h4.get? c = some o → (h4.push { cls := .type "tuple", data := .seq #[x1, x2, x3] }).get? c = some o := fun c o e => Heap.get?_push_of_some _ e
    have nw : IsTupOf3 (h4.push { cls := .type "tuple", data := .seq #[x1, x2, x3] }) h4.objs.size x1 x2 x3 := Heap.get?_push_size _ rfl
    have zw : (h4.push { cls := .type "tuple", data := .seq #[x1, x2, x3] }).objs.size = h4.objs.size + 1 := Heap.size_push ..
    show Q (.ref h4.objs.size) _
    rw [sz] at nw zw ⊢
    exact hQ _ a f1 a1 a2 a3 ho (up _ _ hz4) (up _ _ hO4)
      ⟨⟨sa4.1.at fun o e => up _ o e, sa4.2.push _⟩, ⟨sb4.1.at fun o e => up _ o e, sb4.2.push _⟩, ⟨sc4.1.at fun o e => up _ o e, sc4.2.push _⟩⟩ nw zw
      fun c o c0 _ c1 c2 c3 e => up c o (kk c o c0 c1 c2 c3 e)
  | true =>
    simp only [if_true]
    refine wpAny_bind (wpAny_rule ?_)
    refine wpAny_bind (wpAny_field (s := ⟨h1, gg, dd, tk, os⟩) hz1 rfl (x := .ref to) rfl ?_)
    refine wpAny_bind (wpAny_setField_rec (s := ⟨h1, gg, dd, tk, os⟩) hz1 (by simp) fun g0 z0 s0 => ?_)
    replace z0 : Zat g0 z ti to .ellipsis (.bool f1) := z0
    replace s0 : Heap.SameBut z h1 g0 := s0
    have ta0 := keepIt sa1 s0 D.z1 D.l1n.1
    have tb0 := keepIt sb1 s0 D.z2 D.l2n.1
    have tc0 := keepIt sc1 s0 D.z3 D.l3n.1
    have o0 : IsTupOf3 g0 to a1 a2 a3 := s0.extBut _ _ D.toz hO1
    refine wpAny_bind ?_
    simp only [List.zipIdx_cons, List.zipIdx_nil, List.forIn_cons, List.forIn_nil]
    refine wpAny_bind (wpAny_bind (wpAny_onRaise ?_))
    show wpAny _ _ (Builtin.SmallTypes.nextOf (.ref i1) >>= _) _ _ ⟨g0, gg, dd, tk, os⟩
    refine wpAny_bind (drawT (s := ⟨g0, gg, dd, tk, os⟩) ta0 D.l1n.2.2.1 hx fun p1 ta1 s1 => wpAny_pure ?_)
    replace s1 : Heap.SameBut i1 g0 p1 := s1
    have o1 : IsTupOf3 p1 to a1 a2 a3 := s1.extBut _ _ D.to1 o0
    refine wpAny_bind (wpAny_seqItems (s := ⟨p1, gg, dd, tk, os⟩) o1 rfl ?_)
    refine wpAny_bind (updateSeq_IsTupOf3 (s := ⟨p1, gg, dd, tk, os⟩) o1 fun q1 u1 r1 => wpAny_bind (wpAny_letGo (wpAny_pure ?_)))
    replace u1 : IsTupOf3 q1 to x1 a2 a3 := u1
    replace r1 : Heap.SameBut to p1 q1 := r1
    have ta2 := keepIt ta1 r1 D.to1.symm D.l1n.2.1
    have tb2 := keepIt (keepIt tb0 s1 D.n12.symm D.l2n.2.2.1) r1 D.to2.symm D.l2n.2.1
    have tc2 := keepIt (keepIt tc0 s1 D.n13.symm D.l3n.2.2.1) r1 D.to3.symm D.l3n.2.1
    refine wpAny_bind (wpAny_bind (wpAny_onRaise ?_))
    show wpAny _ _ (Builtin.SmallTypes.nextOf (.ref i2) >>= _) _ _ ⟨q1, gg, dd, tk, os⟩
    refine wpAny_bind (drawT (s := ⟨q1, gg, dd, tk, os⟩) tb2 D.l2n.2.2.2.1 hy fun p2 tb3 s2 => wpAny_pure ?_)
    replace s2 : Heap.SameBut i2 q1 p2 := s2
    have o2 : IsTupOf3 p2 to x1 a2 a3 := s2.extBut _ _ D.to2 u1
    refine wpAny_bind (wpAny_seqItems (s := ⟨p2, gg, dd, tk, os⟩) o2 rfl ?_)
    refine wpAny_bind (updateSeq_IsTupOf3 (s := ⟨p2, gg, dd, tk, os⟩) o2 fun q2 u2 r2 => wpAny_bind (wpAny_letGo (wpAny_pure ?_)))
    replace u2 : IsTupOf3 q2 to x1 x2 a3 := u2
    replace r2 : Heap.SameBut to p2 q2 := r2
    have ta4 := keepIt (keepIt ta2 s2 D.n12 D.l1n.2.2.2.1) r2 D.to1.symm D.l1n.2.1
    have tb4 := keepIt tb3 r2 D.to2.symm D.l2n.2.1
    have tc4 := keepIt (keepIt tc2 s2 D.n23.symm D.l3n.2.2.2.1) r2 D.to3.symm D.l3n.2.1
    refine wpAny_bind (wpAny_bind (wpAny_onRaise ?_))
    show wpAny _ _ (Builtin.SmallTypes.nextOf (.ref i3) >>= _) _ _ ⟨q2, gg, dd, tk, os⟩
    refine wpAny_bind (drawT (s := ⟨q2, gg, dd, tk, os⟩) tc4 D.l3n.2.2.2.2 hw fun p3 tc5 s3 => wpAny_pure ?_)
    replace s3 : Heap.SameBut i3 q2 p3 := s3
    have o3 : IsTupOf3 p3 to x1 x2 a3 := s3.extBut _ _ D.to3 u2
    refine wpAny_bind (wpAny_seqItems (s := ⟨p3, gg, dd, tk, os⟩) o3 rfl ?_)
    refine wpAny_bind (updateSeq_IsTupOf3 (s := ⟨p3, gg, dd, tk, os⟩) o3 fun q3 u3 r3 => wpAny_bind (wpAny_letGo (wpAny_pure (wpAny_pure ?_))))
    replace u3 : IsTupOf3 q3 to x1 x2 x3 := u3
    replace r3 : Heap.SameBut to p3 q3 := r3
    have ta6 := keepIt (keepIt ta4 s3 D.n13 D.l1n.2.2.2.2) r3 D.to1.symm D.l1n.2.1
    have tb6 := keepIt (keepIt tb4 s3 D.n23 D.l2n.2.2.2.2) r3 D.to2.symm D.l2n.2.1
    have tc6 := keepIt tc5 r3 D.to3.symm D.l3n.2.1
    refine wpAny_bind (wpAny_seqItems (s := ⟨q3, gg, dd, tk, os⟩) u3 rfl (wpAny_bind (wpAny_newTuple ?_)))
    have sz : q3.objs.size = hp.objs.size := by rw [r3.1, s3.1, r2.1, s2.1, r1.1, s1.1, s0.1, hs1.1]
    have hz3 : Zat q3 z ti to .ellipsis (.bool f1) := r3.extBut _ _ D.toz.symm (s3.extBut _ _ D.z3.symm (r2.extBut _ _ D.toz.symm (s2.extBut _ _ D.z2.symm (r1.extBut _ _ D.toz.symm (s1.extBut _ _ D.z1.symm z0)))))
    have kk : ∀ c o, c ≠ z → c ≠ to → c ≠ i1 → c ≠ i2 → c ≠ i3 → hp.get? c = some o → q3.get? c = some o := fun c o c0 ct c1 c2 c3 e =>
      r3.extBut _ _ ct (s3.extBut _ _ c3 (r2.extBut _ _ ct (s2.extBut _ _ c2 (r1.extBut _ _ ct (s1.extBut _ _ c1 (s0.extBut _ _ c0 (hs1.extBut _ _ c0 e)))))))
    have zlt : z < q3.objs.size := Heap.lt_size hz3
    show wpAny _ _ (Builtin.SmallTypes.ownedTupleHandOut (.ref z) (.ref q3.objs.size) >>= _) _ _ ⟨q3.push { cls := .type "tuple", data := .seq #[x1, x2, x3] }, gg, dd, tk, os⟩
    refine wpAny_bind ?_
    unfold Builtin.SmallTypes.ownedTupleHandOut
    have z5 : Zat (q3.push { cls := .type "tuple", data := .seq #[x1, x2, x3] }) z ti to .ellipsis (.bool f1) := Heap.get?_push_of_some _ hz3
    refine wpAny_bind (wpAny_setField_rec z5 (by simp) fun h7 z7 s7 => ?_)
    replace z7 : Zat h7 z ti to (rawInt q3.objs.size) (.bool f1) := z7
    replace s7 : Heap.SameBut z (q3.push { cls := .type "tuple", data := .seq #[x1, x2, x3] }) h7 := s7
    refine wpAny_setField_rec z7 (by simp) fun h8 z8 s8 => ?_
    replace z8 : Zat h8 z ti to (rawInt q3.objs.size) (.bool false) := z8
    replace s8 : Heap.SameBut z h7 h8 := s8
    have up : ∀ c o, c ≠ z → q3.get? c = some o → h8.get? c = some o := fun c o c1 e => s8.extBut _ _ c1 (s7.extBut _ _ c1 (Heap.get?_push_of_some _ e))
    have nw : IsTupOf3 h8 q3.objs.size x1 x2 x3 := s8.extBut _ _ (Nat.ne_of_gt zlt) (s7.extBut _ _ (Nat.ne_of_gt zlt) (Heap.get?_push_size _ rfl))
    have zw : h8.objs.size = q3.objs.size + 1 := by rw [s8.1, s7.1, Heap.size_push]
    have fin : ∀ {it l : Addr} {k : Nat} {vs : Array Value}, (q3.IsTupleIter it l k ∧ q3.IsTuple l vs) → it ≠ z → l ≠ z → h8.IsTupleIter it l k ∧ h8.IsTuple l vs := fun {it l k vs} st n1 n2 =>
      keepIt (keepIt ⟨st.1.at fun o e => Heap.get?_push_of_some _ e, st.2.push _⟩ s7 n1 n2) s8 n1 n2
    refine wpAny_pure ⟨_, rfl, ?_⟩
    show Q (.ref q3.objs.size) _
    rw [sz] at nw zw z8 ⊢
    exact hQ h8 _ false x1 x2 x3 (.inr ⟨_, rfl⟩) z8 (up _ _ D.toz u3) ⟨fin ta6 D.z1 D.l1n.1, fin tb6 D.z2 D.l2n.1, fin tc6 D.z3 D.l3n.1⟩ nw zw
      fun c o c0 ct c1 c2 c3 e => up c o c0 (kk c o c0 ct c1 c2 c3 e)

theorem end3 {Q : Fin → Shared → Prop} (hh : A.handled = none) (D : Far3 z ti to i1 i2 i3 l1 l2 l3) (ho : Out a) (hz : Zat s.heap z ti to a (.bool f))
    (hI : IsTupOf3 s.heap ti (.ref i1) (.ref i2) (.ref i3)) (st : s.heap.IsTupleIter i1 l1 i ∧ s.heap.IsTuple l1 xs) (hx : xs[i]? = none)
    (hE : ∀ h' e, (∀ c o, c ≠ z → c ≠ to → c ≠ i1 → c ≠ i2 → c ≠ i3 → s.heap.get? c = some o → h'.get? c = some o) → (∃ o, h'.get? e = some o ∧ o.cls = .type "StopIteration") → E (.ref e) { s with heap := h' }) :
    wpAny (model prog w) A (Builtin.«zip.__next__» ⟨[.ref z], []⟩) Q E s := by
  obtain ⟨hp, gg, dd, tk, os⟩ := s
  show wpAny _ _ (field (.ref z) 2 >>= _) _ _ _
  refine wpAny_bind (wpAny_field hz rfl (x := .bool false) rfl ?_)
  show wpAny _ _ (field (.ref z) 3 >>= _) _ _ _
  refine wpAny_bind (wpAny_field hz rfl (x := .ref ti) rfl ?_)
  refine wpAny_bind (wpAny_seqItems hI rfl ?_)
  show wpAny _ _ (Builtin.SmallTypes.ownedTupleIsFree (.ref z) >>= _) _ _ _
  refine wpAny_bind (freeOr ho hz fun b h1 f1 hz1 hs1 => ?_)
  replace hs1 : Heap.SameBut z hp h1 := hs1
  have sa1 := keepIt st hs1 D.z1 D.l1n.1
  cases b with
  | false =>
    simp only [Bool.false_eq_true, if_false]
    refine wpAny_bind ?_
    rw [← Array.forIn_toList]
    simp only [List.forIn_cons, List.forIn_nil]
    refine wpAny_bind (wpAny_bind (wpAny_holding ?_))
    show wpAny _ _ (Builtin.SmallTypes.nextOf (.ref i1) >>= _) _ _ ⟨h1, gg, dd, tk, os⟩
    refine wpAny_bind (RZ.nextOf_tuple_end (s := ⟨h1, gg, dd, tk, os⟩) hh sa1.1 sa1.2 hx fun h2 e hs2 he => ?_)
    exact hE h2 e (fun c o c0 _ c1 _ _ q => hs2 _ _ c1 (hs1.extBut _ _ c0 q)) he
  | true =>
    simp only [if_true]
    refine wpAny_bind (wpAny_rule ?_)
    refine wpAny_bind (wpAny_field (s := ⟨h1, gg, dd, tk, os⟩) hz1 rfl (x := .ref to) rfl ?_)
    refine wpAny_bind (wpAny_setField_rec (s := ⟨h1, gg, dd, tk, os⟩) hz1 (by simp) fun g0 z0 s0 => ?_)
    replace z0 : Zat g0 z ti to .ellipsis (.bool f1) := z0
    replace s0 : Heap.SameBut z h1 g0 := s0
    have ta0 := keepIt sa1 s0 D.z1 D.l1n.1
    refine wpAny_bind ?_
    simp only [List.zipIdx_cons, List.zipIdx_nil, List.forIn_cons, List.forIn_nil]
    refine wpAny_bind (wpAny_bind (wpAny_onRaise ?_))
    show wpAny _ _ (Builtin.SmallTypes.nextOf (.ref i1) >>= _) _ _ ⟨g0, gg, dd, tk, os⟩
    refine wpAny_bind (RZ.nextOf_tuple_end (s := ⟨g0, gg, dd, tk, os⟩) hh ta0.1 ta0.2 hx fun h2 e hs2 he => ?_)
    obtain ⟨oe, hoe, hce⟩ := he
    replace hs2 : Heap.ExtBut i1 g0 h2 := hs2
    replace hoe : h2.get? e = some oe := hoe
    have z2 : Zat h2 z ti to .ellipsis (.bool f1) := hs2 _ _ D.z1.symm z0
    have ne : e ≠ z := fun q => by subst q; rw [z2] at hoe; cases hoe; simp at hce
    refine wpAny_setField_rec (s := ⟨h2, gg, dd, tk, os⟩) z2 (by simp) fun h3 _ s3 => ?_
    replace s3 : Heap.SameBut z h2 h3 := s3
    exact hE h3 e (fun c o c0 _ c1 _ _ q => s3.extBut _ _ c0 (hs2 _ _ c1 (s0.extBut _ _ c0 (hs1.extBut _ _ c0 q)))) ⟨oe, s3.extBut _ _ ne hoe, hce⟩
end
end NB

set_option Elab.async false
set_option linter.all false
set_option maxRecDepth 100000
set_option maxHeartbeats 1000000
namespace NB
open PySem PySem.Spec PyProof.Rows L2

section
variable {prog : Program} {w : World} {A : Around} {E : Value → Shared → Prop} {s : Shared} {z ti to i1 i2 i3 l1 l2 l3 : Addr} {a a1 a2 a3 : Value} {f : Bool} {xs ys zs : Array Value} {i : Nat}

theorem pyNext3 {x1 x2 x3 : Value} {Q : Option Value → Shared → Prop} (D : Far3 z ti to i1 i2 i3 l1 l2 l3) (ho : Out a) (hz : Zat s.heap z ti to a (.bool f))
    (hI : IsTupOf3 s.heap ti (.ref i1) (.ref i2) (.ref i3)) (hO : IsTupOf3 s.heap to a1 a2 a3) (st : St3 s.heap i1 i2 i3 l1 l2 l3 xs ys zs i)
    (hx : xs[i]? = some x1) (hy : ys[i]? = some x2) (hw : zs[i]? = some x3)
    (hQ : ∀ (h' : Heap) (a' : Value) (g : Bool) (b1 b2 b3 : Value), Out a' → Zat h' z ti to a' (.bool g) → IsTupOf3 h' to b1 b2 b3 → St3 h' i1 i2 i3 l1 l2 l3 xs ys zs (i + 1) → IsTupOf3 h' s.heap.objs.size x1 x2 x3 → h'.objs.size = s.heap.objs.size + 1 →
      (∀ c o, c ≠ z → c ≠ to → c ≠ i1 → c ≠ i2 → c ≠ i3 → s.heap.get? c = some o → h'.get? c = some o) → Q (some (.ref s.heap.objs.size)) { s with heap := h' }) :
    wpAny (model prog w) A (pyNext (.ref z)) Q E s := by
  have ty : s.TypeIs (.ref z) "zip" := ⟨_, hz, rfl⟩
  unfold pyNext
  refine wpAny_bind (wpAny_attempt (wpAny_callSpecial?_slot (name := Str.ofString "__next__") ty F.slot_zip_next ?_))
  refine wpAny_call_entry F.slot_zip_next ty F.entry_zip_next ?_ (F.args_zip_next_1 _)
  exact next3 D ho hz hI hO st hx hy hw fun h' a' g b1 b2 b3 c1 c2 c3 c4 c5 c6 c7 => wpAny_pure (hQ h' a' g b1 b2 b3 c1 c2 c3 c4 c5 c6 c7)

theorem pyEnd3 {Q : Option Value → Shared → Prop} (hh : A.handled = none) (D : Far3 z ti to i1 i2 i3 l1 l2 l3) (ho : Out a) (hz : Zat s.heap z ti to a (.bool f))
    (hI : IsTupOf3 s.heap ti (.ref i1) (.ref i2) (.ref i3)) (st : s.heap.IsTupleIter i1 l1 i ∧ s.heap.IsTuple l1 xs) (hx : xs[i]? = none)
    (hQ : ∀ h', (∀ c o, c ≠ z → c ≠ to → c ≠ i1 → c ≠ i2 → c ≠ i3 → s.heap.get? c = some o → h'.get? c = some o) → Q none { s with heap := h' }) :
    wpAny (model prog w) A (pyNext (.ref z)) Q E s := by
  have ty : s.TypeIs (.ref z) "zip" := ⟨_, hz, rfl⟩
  unfold pyNext
  refine wpAny_bind (wpAny_attempt (wpAny_callSpecial?_slot (name := Str.ofString "__next__") ty F.slot_zip_next ?_))
  refine wpAny_call_entry F.slot_zip_next ty F.entry_zip_next (end3 hh D ho hz hI st hx fun h' e hk he => ?_) (F.args_zip_next_1 _)
  obtain ⟨o, h1, h2⟩ := he
  exact wpAny_bind (wpAny_isInstance (T := "StopIteration") (b := true) ⟨o, h1, h2⟩ isSubtype_stop (wpAny_pure (hQ _ hk)))

/-- ahead of the target's store: a target of several names lets the tuple go -/
theorem letGo3 {tg : Expr} {T : Addr} {Q : Unit → Shared → Prop} (ho : Out a) (hz : Zat s.heap z ti to a (.bool f))
    (h : ∀ (h' : Heap) (a' : Value), Out a' → Zat h' z ti to a' (.bool f) → Heap.SameBut z s.heap h' → Q () { s with heap := h' }) :
    wpAny (model prog w) A (letOwnedTupleGo tg (.ref z) (.ref T)) Q E s := by
  have same : Q () s := h s.heap a ho hz (Heap.SameBut.refl _ _)
  have main : wpAny (model prog w) A (do
      let o ← load z
      match o.cls, o.data with
      | .type n, .fields vs =>
        if ["enumerate", "zip", "dict_itemiterator", "dict_reverseitemiterator", "odict_iterator", "itertools.zip_longest", "itertools.pairwise"].contains n && vs[0]? == some (rawInt T) then
          rule "for.unpacks-the-owned-tuple"
          updateField z 0 .none
      | _, _ => pure ()) Q E s := by
    refine wpAny_bind (wpAny_load hz ?_)
    dsimp only
    split
    · refine wpAny_bind (wpAny_rule ?_)
      show wpAny _ _ (setField (.ref z) 0 .none) Q E s
      exact wpAny_setField_rec hz (by simp) fun h' z' s' => h h' .none (.inl rfl) z' s'
    · exact wpAny_pure same
  unfold letOwnedTupleGo
  cases tg <;> first
    | exact wpAny_pure same
    | exact main

theorem iter3 {Q : Value → Shared → Prop} (hz : Zat s.heap z ti to a (.bool f)) (h : Q (.ref z) s) : wpAny (model prog w) A (pyIter (.ref z)) Q E s := by
  have ty : s.TypeIs (.ref z) "zip" := ⟨_, hz, rfl⟩
  refine wpAny_pyIter_slot ty F.slot_zip_iter (wpAny_call_entry F.slot_zip_iter ty F.entry_zip_iter ?_ (F.args_zip_iter_1 _))
  show wpAny _ _ (ret (.ref z)) _ _ s
  exact wpAny_pure ⟨_, rfl, "zip", _, ty, F.slot_zip_next.lookup, h⟩
end

/-- three tuples of one length, turn by turn: a new tuple of the three items -/
def It3 (K : PySem.W.Frag) (a b c : Addr) : It :=
  ⟨fun i H => ∃ (xs ys zs : List V) (x y z : V), SqT K H a xs ∧ SqT K H b ys ∧ SqT K H c zs ∧ xs[i]? = some x ∧ ys[i]? = some y ∧ zs[i]? = some z,
    fun i H v H' => ∃ T x y z, v = .ref T ∧ H T = none ∧ H' = upd H T (.tup [x, y, z]) ∧ (∀ xs, SqT K H a xs → xs[i]? = some x) ∧ (∀ ys, SqT K H b ys → ys[i]? = some y) ∧ ∀ zs, SqT K H c zs → zs[i]? = some z,
    fun i H => ∃ xs : List V, SqT K H a xs ∧ xs.length ≤ i⟩

theorem turn3 {P : Program} {w : World} {K : PySem.W.Frag} {tg : Expr} {a b c z ti to i1 i2 i3 : Addr} (D : Far3 z ti to i1 i2 i3 a b c) :
    Turn P w K tg (It3 K a b c) [z, ti, to, i1, i2, i3] z (fun i h => (∃ v f, Out v ∧ Zat h z ti to v (.bool f)) ∧ IsTupOf3 h ti (.ref i1) (.ref i2) (.ref i3) ∧ (∃ b1 b2 b3, IsTupOf3 h to b1 b2 b3) ∧
      h.IsTupleIter i1 a i ∧ h.IsTupleIter i2 b i ∧ h.IsTupleIter i3 c i) where
  mem := by simp
  obj := fun i h st q hq => by
    obtain ⟨⟨v, f, _, hz⟩, hI, ⟨b1, b2, b3, hO⟩, ⟨o1, e1, _, d1⟩, ⟨o2, e2, _, d2⟩, ⟨o3, e3, _, d3⟩⟩ := st
    have e' : q = z ∨ q = ti ∨ q = to ∨ q = i1 ∨ q = i2 ∨ q = i3 := by simpa using hq
    rcases e' with r | r | r | r | r | r
    · rw [r]; exact ⟨_, hz, fun v q => nomatch q⟩
    · rw [r]; exact ⟨_, hI, fun v q => nomatch q⟩
    · rw [r]; exact ⟨_, hO, fun v q => nomatch q⟩
    · rw [r]; exact ⟨o1, e1, fun v q => by rw [d1] at q; cases q⟩
    · rw [r]; exact ⟨o2, e2, fun v q => by rw [d2] at q; cases q⟩
    · rw [r]; exact ⟨o3, e3, fun v q => by rw [d3] at q; cases q⟩
  keep := fun i h h' st k => by
    obtain ⟨⟨v, f, ho, hz⟩, hI, ⟨b1, b2, b3, hO⟩, h1, h2, h3⟩ := st
    exact ⟨⟨v, f, ho, k z (by simp) _ hz⟩, k ti (by simp) _ hI, ⟨b1, b2, b3, k to (by simp) _ hO⟩, h1.at fun o q => k i1 (by simp) o q, h2.at fun o q => k i2 (by simp) o q, h3.at fun o q => k i3 (by simp) o q⟩
  item := by
    intro X hP hw hK hc i pins s σ H E I hf st hg
    subst hP hw hK
    obtain ⟨⟨v, f, ho, hz⟩, hI, ⟨b1, b2, b3, hO⟩, h1, h2, h3⟩ := st
    obtain ⟨xs, ys, zs, x, y, u, qx, qy, qu, hx, hy, hu⟩ := hg
    obtain ⟨t1, r1, p1, _⟩ := I.tuple qx
    obtain ⟨t2, r2, p2, _⟩ := I.tuple qy
    obtain ⟨t3, r3, p3, _⟩ := I.tuple qu
    obtain ⟨v1, g1, rv1⟩ := r1.get hx
    obtain ⟨v2, g2, rv2⟩ := r2.get hy
    obtain ⟨v3, g3, rv3⟩ := r3.get hu
    have zl : z < s.heap.objs.size := Heap.lt_size hz
    refine pyNext3 D ho hz hI hO ⟨⟨h1, p1⟩, ⟨h2, p2⟩, ⟨h3, p3⟩⟩ (x1 := v1) (x2 := v2) (x3 := v3) (by simpa using g1) (by simpa using g2) (by simpa using g3) fun h' v' f' c1 c2 c3 ho' hz' hO' st' hT hsz hk => ?_
    refine ⟨_, rfl, letGo3 (s := { s with heap := h' }) ho' hz' fun h'' v'' ho'' hz'' sb => ?_⟩
    have hT2 : h''.get? s.heap.objs.size = some { cls := .type "tuple", data := .seq #[v1, v2, v3] } := (sb.2 _ (Nat.ne_of_gt zl)).trans hT
    have new : ObjOk X.prog X.w (upd H s.heap.objs.size (.tup [x, y, u])) h'' s.heap.objs.size (.tup [x, y, u]) :=
      ⟨by show 3 ≤ sizeLine; decide, [v1, v2, v3], .cons rv1 (.cons rv2 (.cons rv3 .nil)), ⟨_, hT2, rfl, _, rfl⟩⟩
    have I1 : Inv X pins σ (upd H s.heap.objs.size (.tup [x, y, u])) { s with heap := h'' } :=
      I.turnedNew (t' := s.toks) (ch := [z, ti, to, i1, i2, i3]) (fun q o hb e => (sb.2 q (fun q' => hb (by simp [q']))).trans
        (hk q o (fun q' => hb (by simp [q'])) (fun q' => hb (by simp [q'])) (fun q' => hb (by simp [q'])) (fun q' => hb (by simp [q'])) (fun q' => hb (by simp [q'])) e)) hf (Nat.le_refl _) new
    refine ⟨.ref s.heap.objs.size, _, I1, rfl, ⟨_, x, y, u, rfl, I.hok.fresh (Nat.le_refl _), rfl, fun l hl => by rw [I.tuple_inj hl qx]; exact hx, fun l hl => by rw [I.tuple_inj hl qy]; exact hy, fun l hl => by rw [I.tuple_inj hl qu]; exact hu⟩,
      ⟨⟨v'', f', ho'', hz''⟩, ?_, ⟨c1, c2, c3, (sb.2 _ D.toz).trans hO'⟩, st'.1.1.at fun o q => (sb.2 _ D.z1).trans q, st'.2.1.1.at fun o q => (sb.2 _ D.z2).trans q, st'.2.2.1.at fun o q => (sb.2 _ D.z3).trans q⟩, fun q hq => ?_⟩
    · exact (sb.2 _ D.tiz).trans (hk _ _ D.tiz D.tito D.ti1 D.ti2 D.ti3 hI)
    · have lt : q < s.heap.objs.size := by
        have e' : q = z ∨ q = ti ∨ q = to ∨ q = i1 ∨ q = i2 ∨ q = i3 := by simpa using hq
        rcases e' with r | r | r | r | r | r
        · rw [r]; exact zl
        · rw [r]; exact Heap.lt_size hI
        · rw [r]; exact Heap.lt_size hO
        · rw [r]; obtain ⟨_, e1, _⟩ := h1; exact Heap.lt_size e1
        · rw [r]; obtain ⟨_, e1, _⟩ := h2; exact Heap.lt_size e1
        · rw [r]; obtain ⟨_, e1, _⟩ := h3; exact Heap.lt_size e1
      rw [upd_ne (Nat.ne_of_lt lt)]
      exact (hf q hq).1
  done := by
    intro X hP hw hK hc i pins s σ H E I hf st hg
    subst hP hw hK
    obtain ⟨⟨v, f, ho, hz⟩, hI, ⟨b1, b2, b3, hO⟩, h1, h2, h3⟩ := st
    obtain ⟨xs, qx, hlen⟩ := hg
    obtain ⟨t1, r1, p1, _⟩ := I.tuple qx
    have le := r1.length
    refine pyEnd3 (I.ok.hd hc) D ho hz hI ⟨h1, p1⟩ (by simp; omega) fun h' hk => ⟨rfl, I.turnedL (t' := s.toks) (ch := [z, ti, to, i1, i2, i3]) (fun q o hb e => ?_) hf⟩
    exact hk q o (fun q' => hb (by simp [q'])) (fun q' => hb (by simp [q'])) (fun q' => hb (by simp [q'])) (fun q' => hb (by simp [q'])) (fun q' => hb (by simp [q'])) e
  self := fun A i s Q E st h => by
    obtain ⟨⟨v, f, _, hz⟩, _⟩ := st
    exact iter3 hz h

theorem far_at (n a b c : Nat) (ha : a < n) (hb : b < n) (hc : c < n) : Far3 (n + 5) (n + 3) (n + 4) n (n + 1) (n + 2) a b c := by
  constructor <;> first | (show (_ : Nat) ≠ _; omega) | (refine ⟨?_, ?_, ?_, ?_, ?_⟩ <;> (show (_ : Nat) ≠ _; omega))

def iZip3 (K : PySem.W.Frag) (ta : TA) : TI := fun σ H R => ta σ H fun vs H1 => ∃ a b c xs ys zs, vs = [.ref a, .ref b, .ref c] ∧ SqT K H1 a xs ∧ SqT K H1 b ys ∧ SqT K H1 c zs ∧ R (It3 K a b c) H1
/-- zip(e, e2, e3), tuples of one length; any target -/
theorem pi_zip3 {X : Cx} {tg e e2 e3 : Expr} {ta : TA} {p pos : Pos} (hg : Gl X "zip") (hm : X.mg "zip" = none) (ha : PA X [e, e2, e3] ta)
    (hs : starEach [e, e2, e3] X.env = (false, eval e X.env) :: starEach [e2, e3] X.env := by rfl) (hpl : (backTo pos (starEach [e2, e3] X.env)).any (·.1) = false := by rfl) :
    PI X tg (.Call (.Name "zip" p) [e, e2, e3] [] pos) (iZip3 X.K ta) := by
  refine ⟨fun pins s σ H R I h => ?_⟩
  refine Call_ (ld_blt I hg hm PyProof.Rows.boot_zip (PyProof.Rows.callWith_type1 (thn (ha.run pos pins s σ H _ I h) fun us s1 q => ?_) hs hpl))
  obtain ⟨vs, H1, I1, r1, a, b, c, xs, ys, zs, ex, q1, q2, q3, q⟩ := q
  subst ex
  cases r1 with
  | cons ra rr =>
    cases rr with
    | cons rb rr =>
      cases rr with
      | cons rc rr =>
        cases rr
        cases ra
        cases rb
        cases rc
        obtain ⟨t1, r1, p1, _⟩ := I1.tuple q1
        obtain ⟨t2, r2, p2, _⟩ := I1.tuple q2
        obtain ⟨t3, r3, p3, _⟩ := I1.tuple q3
        obtain ⟨o1, g1, _⟩ := id p1
        obtain ⟨o2, g2, _⟩ := id p2
        obtain ⟨o3, g3, _⟩ := id p3
        refine zip_begins3 (begins_tuple a t1.toArray) (begins_tuple b t2.toArray) (begins_tuple c t3.toArray) p1 p2 p3 fun h' hz hI hO e1 e2 e3 hsz hk => iter3 hz ?_
        have I2 : Inv X pins σ H1 { s1 with heap := h' } := I1.kept (t' := s1.toks) hk
        refine ⟨s1.heap.objs.size + 5, [s1.heap.objs.size + 5, s1.heap.objs.size + 3, s1.heap.objs.size + 4, s1.heap.objs.size, s1.heap.objs.size + 1, s1.heap.objs.size + 2], _, _, H1, rfl, I2, turn3 (far_at s1.heap.objs.size a b c (Heap.lt_size g1) (Heap.lt_size g2) (Heap.lt_size g3)),
          ⟨⟨.none, false, .inl rfl, hz⟩, hI, ⟨_, _, _, hO⟩, ⟨_, e1, rfl, rfl⟩, ⟨_, e2, rfl, rfl⟩, ⟨_, e3, rfl, rfl⟩⟩, fun q hq => ?_, q⟩
        have le : s1.heap.objs.size ≤ q := by
          have e' : q = s1.heap.objs.size + 5 ∨ q = s1.heap.objs.size + 3 ∨ q = s1.heap.objs.size + 4 ∨ q = s1.heap.objs.size ∨ q = s1.heap.objs.size + 1 ∨ q = s1.heap.objs.size + 2 := by simpa using hq
          rcases e' with r | r | r | r | r | r <;> rw [r] <;> first | exact Nat.le_add_right _ _ | exact Nat.le_refl _
        exact I1.fpOk le (I1.hok.fresh le)

/-- a new triple of the i-th ones -/
def Y3 (xs ys zs : List V) : Nat → Hp → V → Hp → Prop := fun i H v H' => ∃ T x y z, v = .ref T ∧ H T = none ∧ H' = upd H T (.tup [x, y, z]) ∧ xs[i]? = some x ∧ ys[i]? = some y ∧ zs[i]? = some z
theorem walk_zip3 {K : PySem.W.Frag} {a b c : Addr} {xs ys zs : List V} (h2 : ys.length = xs.length) (h3 : zs.length = xs.length) :
    Walk (It3 K a b c) xs.length (fun H => SqT K H a xs ∧ SqT K H b ys ∧ SqT K H c zs) (Y3 xs ys zs) := by
  refine ⟨fun i _ hi q => ?_, fun _ q => ⟨xs, q.1, Nat.le_refl _⟩, fun i H v H' _ q y => ?_⟩
  · exact ⟨xs, ys, zs, xs[i], ys[i]'(by omega), zs[i]'(by omega), q.1, q.2.1, q.2.2, by simp [hi], by simp [show i < ys.length by omega], by simp [show i < zs.length by omega]⟩
  · obtain ⟨T, x, y, z, e1, e2, e3, f1, f2, f3⟩ := y
    exact ⟨T, x, y, z, e1, e2, e3, f1 xs q.1, f2 ys q.2.1, f3 zs q.2.2⟩
theorem walk_zipT {K : PySem.W.Frag} {a b : Addr} {xs ys : List V} (h2 : ys.length = xs.length) :
    Walk (RZ.ItzT K a b) xs.length (fun H => SqT K H a xs ∧ SqT K H b ys) (YPair (fun i => xs[i]?) (fun i => ys[i]?)) := by
  refine ⟨fun i _ hi q => ?_, fun _ q => ⟨xs, ys, q.1, q.2, by omega⟩, fun i H v H' _ q y => ?_⟩
  · exact ⟨xs, ys, xs[i], ys[i]'(by omega), q.1, q.2, by simp [hi], by simp [show i < ys.length by omega]⟩
  · obtain ⟨T, x, u, e1, e2, e3, f1, f2⟩ := y
    exact ⟨T, x, u, e1, e2, e3, f1 xs q.1, f2 ys q.2⟩
end NB

set_option Elab.async false
set_option linter.all false
set_option maxRecDepth 100000
set_option maxHeartbeats 1000000
namespace NB
open PySem PySem.Spec PyProof.Rows L2

/-- the law's own call, its def kept to its promise where nothing is being shown -/
theorem law_end {P : Program} {w : World} {K : PySem.W.Frag} {mg mb : Str → Option Value} {k : Nat} {fa a : Addr} {fd : FuncData} {x : Str} {sp : Sp} {s : Shared} {vs : List Value} {ns : List Int}
    (hK : K.In s.heap) (hN : s.heap.Ns mainGlobals mg) (hB : s.heap.Ns builtinsNs mb) (hbb : ∀ x : Str, x ≠ "__name__" → mb x = bootBuiltins x) (lim : s.heap.NoLimit) (hg : s.gens = #[])
    (ha : s.heap.get? a = some { cls := .type "list", data := .seq vs.toArray }) (hi : IntsAre vs ns) (hl : ns.length ≤ sizeLine) (hr : Room k callerA)
    (F : ∀ base : Heap, K.In base → base.Ns mainGlobals mg → FnG P w K mg base k fa fd [x] sp) (hb : ∀ (s : Shared) (u : Value), BindsTo s fd ⟨[u], []⟩ [(x, u)])
    (hsp : ∀ H : Hp, SqL K H a (ns.map V.int) → sp [.ref a] H (fun v _ => v = .bl true) E0) :
    codeAny (model P w) callerA (.call (.ref fa) ⟨[.ref a], []⟩) (fun r s' => r = .ok (.ret (.bool true)) ∧ OldK s.heap s'.heap ∧ s'.os = s.os ∧ AllBare s'.gens) s := by
  have rv := vals_ints hi
  have lv := hi.length
  -- H: the script alone is tracked, or nothing
  suffices go : ∀ H : Hp, (∀ b, H b ≠ none → b = a ∧ K.lookup a = none ∧ ∃ o xs, H b = some (.frz o (.lst xs))) → SqL K H a (ns.map V.int) → HOk P w H s.heap →
      codeAny (model P w) callerA (.call (.ref fa) ⟨[.ref a], []⟩) (fun r s' => r = .ok (.ret (.bool true)) ∧ OldK s.heap s'.heap ∧ s'.os = s.os ∧ AllBare s'.gens) s by
    cases hk : K.lookup a with
    | some o =>
      have e := hK a o hk
      rw [ha] at e
      cases e
      refine go (fun _ => none) (fun b q => absurd rfl q) (.inr ⟨_, vs.toArray, _, hk, rfl, rfl, rfl, ?_, by simpa using rv⟩) (fun b u q => by cases (show (none : Option HO) = some u from q))
      rw [List.size_toArray, lv]
      exact hl
    | none =>
      refine go (fun b => if b = a then some (.frz { cls := .type "list", data := .seq vs.toArray } (.lst (ns.map V.int))) else none) (fun b q => ?_) (.inl (.inr ⟨_, if_pos rfl⟩)) (fun b u q => ?_)
      · by_cases h : b = a
        · exact ⟨h, hk, _, _, if_pos h⟩
        · exact absurd (if_neg h) q
      · by_cases h : b = a
        · have q' := (if_pos h).symm.trans q
          cases q'
          subst h
          exact ⟨ha, by rw [List.length_map]; exact hl, vs, _, rv, ha⟩
        · have q' := (if_neg h).symm.trans q
          cases q'
  intro H hO hS ok
  have dictFree : ∀ {b : Addr} {o : Obj} {es : Array DictEntry} {ep : Nat}, s.heap.get? b = some o → o.data = .dict es ep → H b = none := by
    intro b o es ep e d
    cases q : H b with
    | none => rfl
    | some u =>
      obtain ⟨e', _⟩ := hO b (by rw [q]; simp)
      subst e'
      rw [ha] at e
      cases e
      cases (show Data.seq vs.toArray _ = Data.dict es ep from d)
  have ns' : ∀ {b : Addr} {m : Str → Option Value}, s.heap.Ns b m → (hidT s.heap H).Ns b m := by
    rintro b m ⟨o, es, ep, e, d, r⟩
    exact ⟨o, es, ep, hidT_get e (dictFree e d), d, r⟩
  have kB : K.In (hidT s.heap H) := by
    intro b o e
    refine hidT_get (hK b o e) ?_
    cases q : H b with
    | none => rfl
    | some u =>
      obtain ⟨e', n, _⟩ := hO b (by rw [q]; simp)
      subst e'
      rw [n] at e
      cases e
  have md : Mod K mg (hidT s.heap H) := by
    obtain ⟨mc, h1, h2⟩ := lim
    exact ⟨kB, ns' hN, ⟨mb, ns' hB, hbb⟩, ⟨mc, ns' h1, h2⟩⟩
  have e0 : Env0 P w K mg (hidT s.heap H) callerA [] s H :=
    ⟨rfl, md, fun b o e => of_hidT e, Nat.le_of_eq (hidT_size _ _), trivial, fun b q => absurd (show b ∈ ([] : List Addr) from q) (by simp), ok, .of_eq hg⟩
  refine codeAny_mono ((F _ kB (ns' hN)).go callerA [] s H ⟨[.ref a], []⟩ [.ref a] [.ref a] _ _ rfl hr e0 (hb s (.ref a)) (.cons rfl .nil) (hsp H hS)) ?_
  intro r s' q
  cases r with
  | error e => exact False.elim q
  | ok fl =>
    cases fl with
    | next => exact False.elim q
    | brk => exact False.elim q
    | cont => exact False.elim q
    | ret u =>
      obtain ⟨v, H', os, bare, un, ok', r', q'⟩ := q
      have q2 : v = .bl true := q'
      subst q2
      obtain rfl : u = Value.bool true := r'
      refine ⟨rfl, OldK.of_keep fun b o e => ?_, os, bare⟩
      cases q : H b with
      | none => exact un.keep b o e q (fun z => absurd (show b ∈ ([] : List Addr) from z) (by simp)) (by simp)
      | some u =>
        obtain ⟨_, _, ob, xs, z⟩ := hO b (by rw [q]; simp)
        obtain ⟨e1, _⟩ := ok b _ z
        obtain ⟨e2, _⟩ := ok' b _ (un.frzs b ob _ z)
        rw [e] at e1
        cases e1
        exact e2

/-- what k_head leaves, from the promise of the law's def -/
theorem walkG {l : PySem.W.OpenLaw} {n k : Nat} {q : Program} {loose : List Str} {XP : (Str → Option Value) → Heap → Prop} {YP : World → Heap → Prop} {d : DefRec} {K : Params → PySem.W.Frag} {sp : World → Sp} {x : Str}
    (hn : l.most = some n) (hn2 : n ≤ sizeLine) (hdf : d.params.defaults = []) (hr : Room k callerA) (hY : ∀ (w : World) (h : Heap), YP w h → (K w.params).In h)
    (F : ∀ (w : World) (mg : Str → Option Value) (fa : Addr) (h : Heap), (K w.params).In h → h.Ns mainGlobals mg → mg d.name = some (.ref fa) →
      ∃ fd : FuncData, (∀ (s : Shared) (u : Value), BindsTo s fd ⟨[u], []⟩ [(x, u)]) ∧
        ∀ base : Heap, (K w.params).In base → base.Ns mainGlobals mg → FnG l.prog w (K w.params) mg base k fa fd [x] (sp w))
    (hsp : ∀ (w : World) (H : Hp) (a : Addr) (ns : List Int), ns.length ≤ n → SqL (K w.params) H a (ns.map V.int) → sp w [.ref a] H (fun v _ => v = .bl true) E0) :
    PySem.W.WalkO q loose XP YP l.row.toRowW d [] (fun f vs => PySem.call f vs) := by
  refine Att.attach_call hn hdf ?_
  intro w s₀ s₁ mg mb fa o pm cd doc a vs ns G Y ho hd hcd hmg hobj hints hlen hg
  have kX := hY w _ Y
  obtain ⟨fd, hb, hF⟩ := F w mg fa _ kX G.T.g hmg
  exact law_end kX G.T.g G.T.b G.T.builtins G.T.nolimit hg hobj hints (Nat.le_trans hlen hn2) hr hF hb fun H hS => hsp w H a ns hlen hS
end NB

set_option Elab.async false
set_option linter.all false
set_option maxRecDepth 100000
set_option maxHeartbeats 1000000
namespace NB
open PySem PySem.Spec PyProof.Rows L2
section
variable {prog : Program} {w : World} {A : Around} {E : Value → Shared → Prop} {s : Shared}
theorem sortedTuple {t : Addr} {vs : List Value} {ns : List Int} {Q : Value → Shared → Prop} (hl : s.heap.IsTuple t vs.toArray) (hI : IntsAre vs ns) (h64 : vs.length < 64)
    (h : ∀ (h1 h' : Heap) (p : Addr) (out : Array Value) (ep : Nat) (ns' : List Int), IntsAre out.toList ns' → ns'.Perm ns → ns'.Pairwise (· ≤ ·) → (∀ b o, s.heap.get? b = some o → h1.get? b = some o) → (∀ b o, h1.get? b = some o → h'.get? b = some o) → h1.objs.size ≤ p →
      h'.get? p = some (seqObj "list" out ep) → Q (.ref p) { s with heap := h' }) :
    wpAny (model prog w) A (call (.builtin "sorted") [.ref t]) Q E s := by
  obtain ⟨o, ho, hc, n, hd⟩ := hl
  refine Calls.call_function_entry kind_sorted plain_sorted entry_sorted (args_sorted1 _) ?_
  unfold Builtin.«sorted»
  refine wpAny_bind (m := checkCount "sorted" 1 1 _) (wpAny_pure ?_)
  refine wpAny_bind (wpAny_collect_seq t (.inr rfl) ho hc hd (fun h1 hk => ?_) (by rw [List.size_toArray, sizeLine_eq]; omega))
  refine wpAny_bind (wpAny_newList ?_)
  have e0 : (vs.toArray.toList) = vs := rfl
  have hoL : (h1.push (seqObj "list" vs.toArray 0)).get? h1.objs.size = some (seqObj "list" vs.toArray 0) := Heap.get?_push_size _ rfl
  show wpAny _ _ _ _ _ { s with heap := h1.push (seqObj "list" vs.toArray 0) }
  refine wpAny_bind (wpAny_holding (wpAny_call_entry slot_list_sort ⟨_, hoL, rfl⟩ entry_list_sort (list_sort_tree hoL hI h64 fun out ns' q1 q2 q3 => ⟨_, rfl, ?_⟩) (args_list_sort _)))
  refine wpAny_pure ⟨_, rfl, ?_⟩
  obtain ⟨ep, hat⟩ := sortedHeap_at (vs := vs) (out := out) hoL
  refine h h1 _ h1.objs.size out ep ns' q1 q2 q3 hk (fun b o q => ?_) (Nat.le_refl _) hat
  have lt := Heap.lt_size q
  rw [sortedHeap_old (Nat.ne_of_lt lt) (by rw [size_push']; exact Nat.lt_succ_of_lt lt)]
  exact Heap.get?_push_of_some _ q
end
section
variable {X : Cx}
/-- sorted(t), t a tuple of few ints -/
def rSortT (K : PySem.W.Frag) : List V → Hp → VK → Prop := fun vs H Q => ∃ (a : Addr) (ns : List Int), vs = [V.ref a] ∧ SqT K H a (ns.map V.int) ∧ ns.length < 64 ∧
  ∀ (ns' : List Int) (p : Addr), ns'.Perm ns → ns'.Pairwise (· ≤ ·) → H p = none → Q (.ref p) (upd H p (.lst (ns'.map V.int)))
theorem cr_sortT : CallR X (.builtin "sorted") (rSortT X.K) := by
  intro pins s σ H vs us Q I r h
  obtain ⟨a, ns, rfl, hs, h64, q⟩ := h
  obtain ⟨its, rv, hl, _⟩ := I.tuple hs
  rw [Vals.ref1 r]
  have hi := rv.ints
  refine sortedTuple hl hi (by rw [hi.length]; exact h64) fun h1 h' p out ep ns' q1 q2 q3 k1 k2 hp hat => ?_
  have I1 : Inv X pins σ H { s with heap := h1 } := I.kept (t' := s.toks) k1
  have hlen : (ns'.map V.int).length ≤ sizeLine := by rw [List.length_map, q2.length_eq]; exact small64 h64
  exact ⟨.ref p, upd H p (.lst (ns'.map V.int)), I1.laid (t' := s.toks) k2 hp ⟨hlen, out.toList, ep, vals_of_ints q1, hat⟩, rfl, q ns' p q2 q3 (I1.hok.fresh hp)⟩

theorem perm_sum {l l' : List Int} (h : l.Perm l') : l.sum = l'.sum := by
  induction h with
  | nil => rfl
  | cons x _ ih => simp only [List.sum_cons, ih]
  | swap x y l => simp only [List.sum_cons]; omega
  | trans _ _ i1 i2 => exact i1.trans i2
/-- the middle one of three -/
def mid3 (a b c : Int) : Int := if a ≤ b then (if b ≤ c then b else if a ≤ c then c else a) else (if a ≤ c then a else if b ≤ c then c else b)
theorem mid_of_sorted {a b c x y z : Int} (p : [x, y, z].Perm [a, b, c]) (s : [x, y, z].Pairwise (· ≤ ·)) : y = mid3 a b c := by
  have h1 : x ≤ y ∧ y ≤ z := by
    rw [List.pairwise_cons, List.pairwise_cons] at s
    exact ⟨s.1 y (by simp), s.2.1 z (by simp)⟩
  have ha : a ∈ [x, y, z] := p.symm.subset (by simp)
  have hb : b ∈ [x, y, z] := p.symm.subset (by simp)
  have hc : c ∈ [x, y, z] := p.symm.subset (by simp)
  have hs : x + y + z = a + b + c := by
    have e := perm_sum p
    simp only [List.sum_cons, List.sum_nil] at e
    omega
  simp only [List.mem_cons, List.not_mem_nil, or_false] at ha hb hc
  unfold mid3
  rcases ha with e | e | e <;> rcases hb with f | f | f <;> rcases hc with g | g | g <;> split <;> split <;> (try split) <;> omega
theorem max3 (hc : X.calm = true) : CallR X (.builtin "max") (fun xs H Q => ∃ i j k : Int, xs = [.int i, .int j, .int k] ∧ Q (.int (max (max i j) k)) H) := by
  intro pins s σ H xs us Q I r h
  obtain ⟨i, j, k, rfl, q⟩ := h
  refine call_max3Nu hc pins s σ H _ us Q I r ⟨_, _, _, _, rfl, ?_, q⟩
  have two : ∀ a b : Int, nuMax2 (.int a) (.int b) = some (.int (max a b)) := fun a b => by
    show some (if decide (a < b) = true then V.int b else V.int a) = _
    by_cases h : a < b
    · rw [if_pos (decide_eq_true h), Int.max_eq_right (Int.le_of_lt h)]
    · rw [if_neg (by simpa using h), Int.max_eq_left (by omega)]
  show (nuMax2 (.int i) (.int j)).bind (fun m => nuMax2 m (.int k)) = _
  rw [two]
  exact two _ _
theorem min3 (hc : X.calm = true) : CallR X (.builtin "min") (fun xs H Q => ∃ i j k : Int, xs = [.int i, .int j, .int k] ∧ Q (.int (min (min i j) k)) H) := by
  intro pins s σ H xs us Q I r h
  obtain ⟨i, j, k, rfl, q⟩ := h
  refine call_min3Nu hc pins s σ H _ us Q I r ⟨_, _, _, _, rfl, ?_, q⟩
  have two : ∀ a b : Int, nuMin2 (.int a) (.int b) = some (.int (min a b)) := fun a b => by
    show some (if decide (b < a) = true then V.int b else V.int a) = _
    by_cases h : b < a
    · rw [if_pos (decide_eq_true h), Int.min_eq_right (Int.le_of_lt h)]
    · rw [if_neg (by simpa using h), Int.min_eq_left (by omega)]
  show (nuMin2 (.int i) (.int j)).bind (fun m => nuMin2 m (.int k)) = _
  rw [two]
  exact two _ _
/-- a ** b: the result within 2 ^ 27 bits -/
def CPowW (i j : Int) : Prop := 0 ≤ j ∧ (Builtin.Int.intBits i : Int) * j ≤ 2 ^ 27
theorem op_powW : OpR X (binaryOp .Pow) (rI CPowW fun i j => .int (i ^ j.toNat)) := opI fun _ _ _ _ _ _ _ hc q => pow_int hc.1 hc.2 q
end
end NB

set_option Elab.async false
set_option linter.all false
set_option maxRecDepth 100000
set_option maxHeartbeats 1000000
/-! enumerate of a tuple -/
namespace NB
open PySem PySem.Spec PyProof.Rows L2

theorem enumNewT (l : Addr) (items : Array Value) : Meets (Builtin.«enumerate.__new__» ⟨[.type "enumerate", .ref l], []⟩) (fun _ R s => s.heap.IsTuple l items ∧
      R (.ok (.ret (.ref (s.heap.push { cls := .type "tuple_iterator", data := .fields #[.ref l, .int 0 0] }).objs.size)))
        { s with heap := (s.heap.push { cls := .type "tuple_iterator", data := .fields #[.ref l, .int 0 0] }).push { cls := .type "enumerate", data := .fields #[.none, .bool false, .ref s.heap.objs.size, rawInt 0, .none, .none] } }) :=
  .of_wp fun prog w A R s h => by
    obtain ⟨hp, g, d, tk, os⟩ := s
    obtain ⟨hl, h⟩ := h
    have hsub := sub_enumerate
    have hL : Heap.IsTuple (Shared.heap ⟨hp, g, d, tk, os⟩) l items := hl
    wp_walk
    refine wpAny_stack_any fun st => wpAny_pure ?_
    split
    · rename_i c _ _ _ _ _
      cases (c == Value.type "enumerate")
      · wp_walk using wpAny_pyIter_tuple hL
        exact ⟨_, rfl, h⟩
      · wp_walk using wpAny_pyIter_tuple hL
        exact ⟨_, rfl, h⟩
    · wp_walk using wpAny_pyIter_tuple hL
      exact ⟨_, rfl, h⟩
section
variable {prog : Program} {w : World} {A : Around} {E : Value → Shared → Prop} {s : Shared}
theorem enumT {l : Addr} {items : Array Value} {Q : Value → Shared → Prop} (hL : s.heap.IsTuple l items)
    (h : ∀ h', IsEnum h' (s.heap.objs.size + 1) s.heap.objs.size 0 .none → h'.IsTupleIter s.heap.objs.size l 0 → (∀ b o, s.heap.get? b = some o → h'.get? b = some o) → Q (.ref (s.heap.objs.size + 1)) { s with heap := h' }) :
    wpAny (model prog w) A (call (.type "enumerate") [.ref l]) Q E s := by
  refine callType_new F.called_enumerate (by decide) (F.typeCall_enumerate_1 _) (F.newCall_enumerate_1 _) (fun obj => F.args_object_init_2 obj _) F.entry_enumerate_new (enumNewT l items) ⟨hL, ?_⟩
  have z : (s.heap.push { cls := .type "tuple_iterator", data := .fields #[.ref l, .int 0 0] }).objs.size = s.heap.objs.size + 1 := Heap.size_push ..
  have he := Heap.get?_push_size (s.heap.push { cls := .type "tuple_iterator", data := .fields #[.ref l, .int 0 0] }) (o := { cls := .type "enumerate", data := .fields #[.none, .bool false, .ref s.heap.objs.size, rawInt 0, .none, .none] }) rfl
  show _ ∧ _
  rw [z] at he ⊢
  exact ⟨⟨_, he, rfl⟩, h _ he ⟨_, Heap.get?_push_of_some _ (Heap.get?_push_size _ rfl), rfl, rfl⟩ fun b o x => Heap.get?_push_of_some _ (Heap.get?_push_of_some _ x)⟩
end
/-- a tuple's items with their numbers, in new pairs -/
def ItE (K : PySem.W.Frag) (a : Addr) : It :=
  ⟨fun i H => ∃ (xs : List V) (x : V), SqT K H a xs ∧ xs[i]? = some x,
    fun i H v H' => ∃ T x, v = .ref T ∧ H T = none ∧ H' = upd H T (.tup [.int (i : Nat), x]) ∧ ∀ xs, SqT K H a xs → xs[i]? = some x,
    fun i H => ∃ xs : List V, SqT K H a xs ∧ xs.length = i⟩
theorem turnE {P : Program} {w : World} {K : PySem.W.Frag} {elts : List Expr} {kk : Nat} {tpos : Pos} (a e it : Addr) (n1 : e ≠ it) (n2 : a ≠ it) (n3 : e ≠ a) :
    Turn P w K (.Tuple elts kk tpos) (ItE K a) [e, it] e (fun i h => (∃ old, IsEnum h e it ((i : Nat) : Int) old) ∧ h.IsTupleIter it a i) where
  mem := by simp
  obj := fun i h st b hb => by
    obtain ⟨⟨old, he⟩, ⟨o, ho, hc, hd⟩⟩ := st
    have e' : b = e ∨ b = it := by simpa using hb
    rcases e' with z | z
    · rw [z]; exact ⟨_, he, fun v q => nomatch q⟩
    · rw [z]; exact ⟨o, ho, fun v q => by rw [hd] at q; cases q⟩
  keep := fun i h h' st k => by
    obtain ⟨⟨old, he⟩, hi⟩ := st
    exact ⟨⟨old, k e (by simp) _ he⟩, hi.at fun o q => k it (by simp) o q⟩
  item := by
    intro X hP hw hK hc i pins s σ H E I hf st hg
    subst hP hw hK
    obtain ⟨⟨old, he⟩, hit⟩ := st
    obtain ⟨xs, x, hq, hx⟩ := hg
    obtain ⟨its, rv, p, hz⟩ := I.tuple hq
    obtain ⟨u, hu, ru⟩ := rv.get hx
    have hel : e < s.heap.objs.size := Heap.lt_size he
    have hil : it < s.heap.objs.size := by obtain ⟨_, q, _⟩ := hit; exact Heap.lt_size q
    have lt : i < its.toArray.size := by
      have : i < its.length := by
        rcases Nat.lt_or_ge i its.length with q | q
        · exact q
        · rw [List.getElem?_eq_none q] at hu
          cases hu
      simpa using this
    have hD := I.ok.hd hc
    refine wpAny_pyNext_enum_itemD (Draws.tuple (A := X.A.in1) hD it a n2 its.toArray) he ⟨hit, p⟩ lt n1 (by simp; exact ⟨n1, n3⟩) fun y h' tk hy ho st' hT hsz hk => ?_
    have ey : y = u := by
      have q : its.toArray[i]? = some u := by simpa using hu
      exact Option.some.inj (hy.symm.trans q)
    subst ey
    refine ⟨_, rfl, wpAny_letOwnedTupleGo_enum (s := { s with heap := h', toks := tk + 1 }) ho fun h'' he' sb => ?_⟩
    have hT2 : h''.get? s.heap.objs.size = some { cls := .type "tuple", data := .seq #[.int i tk, y] } := (sb.2 _ (Nat.ne_of_gt hel)).trans hT
    have new : ObjOk X.prog X.w (upd H s.heap.objs.size (.tup [.int (i : Nat), x])) h'' s.heap.objs.size (.tup [.int (i : Nat), x]) :=
      ⟨by show 2 ≤ sizeLine; decide, [.int i tk, y], .cons ⟨_, rfl⟩ (.cons ru .nil), ⟨_, hT2, rfl, _, rfl⟩⟩
    have I1 : Inv X pins σ (upd H s.heap.objs.size (.tup [.int (i : Nat), x])) { s with heap := h'', toks := tk + 1 } :=
      I.turnedNew (ch := [e, it]) (fun b ob hb q => (sb.2 b (fun z => hb (by simp [z]))).trans (hk b ob (fun z => hb (by simp [z])) (fun z => hb (by simp [z])) q)) hf (Nat.le_refl _) new
    refine ⟨.ref s.heap.objs.size, _, I1, rfl, ⟨_, x, rfl, I.hok.fresh (Nat.le_refl _), rfl, fun ys hy => by rw [I.tuple_inj hy hq]; exact hx⟩, ⟨⟨y, ?_⟩, st'.1.at fun o q => (sb.2 it n1.symm).trans q⟩, fun b hb => ?_⟩
    · rw [show ((i + 1 : Nat) : Int) = (i : Int) + 1 by omega]
      exact he'
    · have hb' : b < s.heap.objs.size := by
        have e' : b = e ∨ b = it := by simpa using hb
        rcases e' with z | z
        · rw [z]; exact hel
        · rw [z]; exact hil
      rw [upd_ne (Nat.ne_of_lt hb')]
      exact (hf b hb).1
  done := by
    intro X hP hw hK hc i pins s σ H E I hf st hg
    subst hP hw hK
    obtain ⟨⟨old, he⟩, hit⟩ := st
    obtain ⟨xs, hq, hx⟩ := hg
    obtain ⟨its, rv, p, hz⟩ := I.tuple hq
    obtain ⟨f0, f1, f2, f3, f4, f5⟩ := hf it (by simp)
    have le : i = its.toArray.size := by
      have := rv.length
      simp
      omega
    subst le
    exact wpAny_pyNext_enum_endD (Draws.tuple (A := X.A.in1) (I.ok.hd hc) it a n2 its.toArray) he ⟨hit, p⟩ fun h' eb => ⟨rfl, I.turned (t' := s.toks) (fun b o hb q => eb b o hb q) f0 f1 f3 f4 f5⟩
  self := fun A i s Q E st h => by
    obtain ⟨⟨_, he⟩, _⟩ := st
    exact wpAny_pyIter_enum he h
def iEnumT (K : PySem.W.Frag) (ta : TA) : TI := fun σ H R => ta σ H fun vs H1 => ∃ a xs, vs = [.ref a] ∧ SqT K H1 a xs ∧ R (ItE K a) H1
theorem pi_enumT {X : Cx} {e : Expr} {ta : TA} {p pos tpos : Pos} {elts : List Expr} {kk : Nat} (hg : Gl X "enumerate") (hm : X.mg "enumerate" = none) (ha : PA X [e] ta) (hs : starEach [e] X.env = [(false, eval e X.env)] := by rfl) :
    PI X (.Tuple elts kk tpos) (.Call (.Name "enumerate" p) [e] [] pos) (iEnumT X.K ta) := by
  refine ⟨fun pins s σ H R I h => ?_⟩
  refine Call_ (ld_blt I hg hm boot_enumerate (PyProof.Rows.callWith_type1 (thn (ha.run pos pins s σ H _ I h) ?_) hs rfl))
  rintro us s1 ⟨vs, H1, I1, r1, a, xs, ex, hq, q⟩
  subst ex
  cases r1 with
  | cons r rr =>
    cases rr
    cases r
    obtain ⟨its, rv, p', hz⟩ := I1.tuple hq
    obtain ⟨o, g, _⟩ := id p'
    have la : a < s1.heap.objs.size := Heap.lt_size g
    refine enumT (items := its.toArray) p' fun h' he hit hk => wpAny_pyIter_enum he ?_
    have I2 : Inv X pins σ H1 { s1 with heap := h' } := I1.kept (t' := s1.toks) hk
    refine ⟨s1.heap.objs.size + 1, [s1.heap.objs.size + 1, s1.heap.objs.size], _, _, H1, rfl, I2, turnE a (s1.heap.objs.size + 1) s1.heap.objs.size (Nat.succ_ne_self _) (Nat.ne_of_lt la) (Nat.ne_of_gt (Nat.lt_succ_of_lt la)), ⟨⟨.none, he⟩, hit⟩, fun b hb => ?_, q⟩
    have e' : b = s1.heap.objs.size + 1 ∨ b = s1.heap.objs.size := by simpa using hb
    have hle : s1.heap.objs.size ≤ b := by
      rcases e' with z | z
      · rw [z]; exact Nat.le_add_right _ _
      · rw [z]; exact Nat.le_refl _
    exact I1.fpOk hle (I1.hok.fresh hle)
theorem walk_enumT {K : PySem.W.Frag} {a : Addr} {xs : List V} : Walk (ItE K a) xs.length (fun H => SqT K H a xs) (YPair (fun i => some (.int (i : Nat))) (fun i => xs[i]?)) := by
  refine ⟨fun i _ hi q => ⟨xs, xs[i], q, by simp [hi]⟩, fun _ q => ⟨xs, q, rfl⟩, fun i H v H' _ q y => ?_⟩
  obtain ⟨T, x, h1, h2, h3, h4⟩ := y
  exact ⟨T, .int (i : Nat), x, h1, h2, h3, rfl, h4 xs q⟩
end NB

set_option Elab.async false
set_option linter.all false
set_option maxRecDepth 100000
/-! t[::-1] of a tuple; repr of a truth. -/
namespace NB
open PySem PySem.Spec PyProof.Rows L2 HT

section
variable {prog : Program} {w : World} {A : Around} {E : Value → Shared → Prop} {s : Shared}
theorem adjust_back (n : Nat) : Builtin.Slice.sliceAdjust none none (-1) (n : Int) = ((n : Int) - 1, -1) := by
  unfold Builtin.Slice.sliceAdjust
  first
  | rfl
  | simp
theorem places_back (n : Nat) : Builtin.Slice.slicePlaces ((n : Int) - 1) (-1) (-1) = n := by
  unfold Builtin.Slice.slicePlaces
  have h1 : ¬ ((-1 : Int) > 0) := by decide
  simp only [h1, if_false]
  split <;> simp <;> omega
theorem sliceBack {sl : Addr} {vl vu vk : Value} {n : Nat} {Q : Int × Int × Nat → Shared → Prop} (hs : s.heap.IsSliceOf sl vl vu vk) (pl : IsPart vl none) (pu : IsPart vu none) (pk : IsPart vk (some (-1)))
    (h : Q ((n : Int) - 1, -1, n) s) : wpAny (model prog w) A (Builtin.Slice.sliceApplied (.ref sl) (pure (n : Int))) Q E s := by
  obtain ⟨os, hos, hcs, hds⟩ := id hs
  unfold Builtin.Slice.sliceApplied Builtin.Slice.sliceFields
  refine wpAny_bind (wpAny_bind (wpAny_field hos hds (x := vl) rfl (wpAny_bind (wpAny_field hos hds (x := vu) rfl (wpAny_bind (wpAny_field hos hds (x := vk) rfl (wpAny_pure ?_)))))))
  refine wpAny_bind (slicePart_ pk ?_)
  show wpAny _ _ (if ((-1 : Int) == 0) = true then _ else _) _ _ s
  rw [if_neg (by decide)]
  refine wpAny_bind (slicePart_ pl (wpAny_bind (slicePart_ pu (wpAny_bind (wpAny_pure ?_)))))
  show wpAny _ _ (match Builtin.Slice.sliceAdjust none none (-1) (n : Int) with | (lo, hi) => pure (lo, (-1 : Int), Builtin.Slice.slicePlaces lo hi (-1))) _ _ s
  rw [adjust_back n]
  show wpAny _ _ (pure ((n : Int) - 1, (-1 : Int), Builtin.Slice.slicePlaces ((n : Int) - 1) (-1) (-1))) _ _ s
  rw [places_back]
  exact wpAny_pure h
theorem pick_back (xs : Array Value) : ((List.range xs.size).filterMap fun (m : Nat) => xs[(((xs.size : Int) - 1) + (m : Int) * -1).toNat]?).toArray = xs.toList.reverse.toArray := by
  have e : ((List.range xs.size).filterMap fun (m : Nat) => xs[(((xs.size : Int) - 1) + (m : Int) * -1).toNat]?) = ((List.range xs.size).map fun k => xs.size - 1 - k).filterMap (xs[·]?) := by
    rw [List.filterMap_map]
    congr 1
    funext m
    have : (((xs.size : Int) - 1) + (m : Int) * -1).toNat = xs.size - 1 - m := by omega
    rw [this]
    rfl
  rw [e, PySem.W.krv_range, List.filterMap_reverse, PySem.W.krv_all]
theorem getItem_tuple_back {t sl : Addr} {items : Array Value} {vl vu vk : Value} {Q : Value → Shared → Prop} (ht : IsTup s.heap t items) (hs : s.heap.IsSliceOf sl vl vu vk) (pl : IsPart vl none) (pu : IsPart vu none) (pk : IsPart vk (some (-1)))
    (h : Q (.ref s.heap.objs.size) { s with heap := s.heap.push { cls := .type "tuple", data := .seq items.toList.reverse.toArray } })
    (hsz : items.size ≤ sizeLine) : wpAny (model prog w) A (getItem (.ref t) (.ref sl)) Q E s := by
  have htake : sizeOk (.seq items.toList.reverse.toArray) := by
    show items.toList.reverse.toArray.size ≤ sizeLine
    rw [List.size_toArray, List.length_reverse, Array.length_toList]
    exact hsz
  obtain ⟨os, hos, hcs, hds⟩ := id hs
  have hTs : s.TypeIs (.ref sl) "slice" := ⟨os, hos, hcs⟩
  unfold getItem
  try with_reducible refine wpAny_holding ?_
  first | refine wpAny_bind (wpAny_pure ?_) | skip
  refine wpAny_bind (wpAny_sequenceKey ht.typeIs (by decide) ?_)
  refine wpAny_bind (wpAny_callSpecial?_slot (name := Str.ofString "__getitem__") ht.typeIs PyProof.Rows.slot_tuple_getitem
    (wpAny_call_entry PyProof.Rows.slot_tuple_getitem ht.typeIs entry_tuple_getitem ?_ (args_tuple_getitem _ _)))
  show wpAny _ _ (Builtin.Tuple.tupleItemsOf (.ref t) >>= _) _ _ s
  refine wpAny_bind (tupleItemsOf_ ht ?_)
  refine wpAny_bind (wpAny_typeOf hTs ?_)
  rw [if_pos (by decide)]
  refine wpAny_bind (sliceBack hs pl pu pk ?_)
  have hno : ¬ ((((items.size : Int) - 1) == 0 && (-1 : Int) == 1 && items.size == items.size) = true) := by
    intro q
    rw [Bool.and_eq_true, Bool.and_eq_true] at q
    exact absurd q.1.2 (by decide)
  show wpAny _ _ (if (((items.size : Int) - 1) == 0 && (-1 : Int) == 1 && items.size == items.size) = true then _ else _) _ _ s
  rw [if_neg hno, pick_back]
  first
    | exact wpAny_bind (m := Builtin.Tuple.tupleExact _) (wpAny_newObj_type (wpAny_pure ⟨_, rfl, wpAny_pure h⟩) htake)
    | exact wpAny_bind (m := Builtin.Tuple.tupleExact _) (wpAny_newObj_type (wpAny_bind (wpAny_pure (wpAny_pure ⟨_, rfl, wpAny_pure h⟩))) htake)
    | exact wpAny_bind (wpAny_bind (m := Builtin.Tuple.tupleExact _) (wpAny_newObj_type (wpAny_pure (wpAny_pure ⟨_, rfl, wpAny_pure h⟩)) htake))
    | exact wpAny_bind (wpAny_bind (m := Builtin.Tuple.tupleExact _) (wpAny_newObj_type (wpAny_pure ⟨_, rfl, wpAny_pure h⟩) htake))
end

section
variable {X : Cx}
def tRevT (K : PySem.W.Frag) (te : TE) : TE := fun σ H Q => te σ H fun x H1 => ∃ a xs, x = .ref a ∧ SqT K H1 a xs ∧ ∀ p, H1 p = none → Q (.ref p) (upd H1 p (.tup xs.reverse))
theorem pe_revT {e : Expr} {te : TE} {k : Nat} {p1 p2 p3 pos : Pos} (he : PE X e te) : PE X (.Subscript e (.Slice none none (some (.UnaryOp .USub (.Constant (.int 1) k p1) p2)) p3) pos) (tRevT X.K te) := by
  refine ⟨fun pins s σ H Q I h => ?_⟩
  refine Subscript_ (thn (he.run pins s σ H _ I h) fun v s1 ⟨x, H1, I1, r1, q1⟩ => ?_)
  obtain ⟨a, xs, ex, hx, q⟩ := q1
  subst ex
  cases r1
  have hst : PO X (some (.UnaryOp .USub (.Constant (.int 1) k p1) p2)) (tPart (tUn (rU fun i => .int (-i)) (tC (.int 1)))) := po_some (pe_un un_neg pe_int)
  refine wpAny_Slice (thn (po_none.run pins s1 σ H1 (fun o H2 => o = none ∧ H2 = H1) I1 ⟨rfl, rfl⟩) fun vl s2 ⟨l, H2, I2, pl, el, e2⟩ => ?_)
  subst el e2
  refine thn (po_none.run pins s2 σ H2 (fun o H3 => o = none ∧ H3 = H2) I2 ⟨rfl, rfl⟩) fun vu s3 ⟨u, H3, I3, pu, eu, e3⟩ => ?_
  subst eu e3
  refine thn (hst.run pins s3 σ H3 (fun o H4 => o = some (-1) ∧ H4 = H3) I3 ⟨1, rfl, -1, rfl, rfl, rfl⟩) fun vs s4 ⟨o, H4, I4, ps, eo, e4⟩ => ?_
  subst eo e4
  have I5 : Inv X pins σ H4 { s4 with heap := s4.heap.push { cls := .type "slice", data := .fields #[vl, vu, vs] } } := I4.kept (t' := s4.toks) fun b ob q => Heap.get?_push_of_some _ q
  obtain ⟨its, r, ht, hz⟩ := I5.tuple hx
  have hlen := r.length
  show wpAny (model X.prog X.w) X.A (subscriptTail e (.Slice none none (some (.UnaryOp .USub (.Constant (.int 1) k p1) p2)) p3) (.ref a) (.ref s4.heap.objs.size)) (EP X pins σ Q) X.xe { s4 with heap := s4.heap.push { cls := .type "slice", data := .fields #[vl, vu, vs] } }
  refine tail_any (ops := [.ref a, .ref s4.heap.objs.size]) ht.typeIs (PyProof.Rows.slot_tuple_getitem.lookup) ?_ (by with_unfolding_all rfl)
  refine getItem_tuple_back ht (Heap.IsSliceOf.new _ vl vu vs) pl pu ps ?_ (by rw [List.size_toArray]; omega)
  refine ⟨.ref _, _, I5.laid (t' := s4.toks) (o := .tup xs.reverse) (fun b ob q => Heap.get?_push_of_some _ q) (Nat.le_refl _) ?_, rfl, q _ (I5.hok.fresh (Nat.le_refl _))⟩
  exact ⟨by rw [List.length_reverse]; exact hz, _, r.reverse, IsTup.new _ _⟩

/-- how a truth is written -/
def shB (b : Bool) : Str := if b then "True" else "False"
/-- repr(b), b a truth -/
theorem call_reprB : CallR X (.builtin "repr") (fun xs H Q => ∃ b, xs = [.bl b] ∧ Q (.str (shB b)) H) := by
  intro pins s σ H xs us Q I r h
  obtain ⟨b, rfl, q⟩ := h
  obtain ⟨u, rfl, r1⟩ := vals1 r
  cases r1
  exact P.repr_of_bool ⟨.str (shB b), H, I.tok _, ⟨_, rfl⟩, q⟩
end
end NB

set_option Elab.async false
set_option linter.all false
set_option maxRecDepth 100000
namespace NB
open PySem PySem.Spec PyProof.Rows L2
/-- data that repr writes: at most w by weight, nested at most n deep -/
structure Small (d : PyData) (w n : Nat) : Prop where
  sh : d.showable = true
  nd : d.hasDict = false
  dp : d.depth ≤ n
  lv : d.leavesShort 100 = true
  wt : d.weight ≤ w
structure SmallAll (ds : List PyData) (w n : Nat) : Prop where
  sh : PyData.showableAll ds = true
  nd : PyData.hasDictAll ds = false
  dp : PyData.depthAll ds ≤ n
  lv : PyData.leavesShortAll 100 ds = true
  wt : PyData.weightAll ds ≤ w
theorem Small.int {i : Int} (h : i.natAbs < 10 ^ 90) : Small (.int i) 310 0 := by
  have lg : i.natAbs.log2 < 300 := by
    have h2 : i.natAbs < 2 ^ 300 := Nat.lt_of_lt_of_le h (by decide)
    by_cases e : i.natAbs = 0
    · rw [e]; decide
    · exact (Nat.log2_lt e).mpr h2
  refine ⟨?_, rfl, Nat.le_refl _, ?_, ?_⟩
  · simp only [PyData.showable, decide_eq_true_eq]
    omega
  · simp only [PyData.leavesShort, decide_eq_true_eq]
    have e := int_text_length_le10 (k := 90) (by decide) h
    show (Str.ofString (toString i)).length ≤ 100
    rw [PySem.ofString_length]
    omega
  · show (if i == 0 then 0 else i.natAbs.log2 + 1) ≤ 310
    split <;> omega
theorem Small.bool (b : Bool) : Small (.bool b) 0 0 := ⟨rfl, rfl, Nat.le_refl _, rfl, Nat.le_refl _⟩
theorem Small.none : Small .none 0 0 := ⟨rfl, rfl, Nat.le_refl _, rfl, Nat.le_refl _⟩
theorem SmallAll.nil : SmallAll [] 0 0 := ⟨rfl, rfl, Nat.le_refl _, rfl, Nat.le_refl _⟩
theorem SmallAll.cons {d : PyData} {ds : List PyData} {w v n m : Nat} (h : Small d w n) (h' : SmallAll ds v m) : SmallAll (d :: ds) (w + 1 + v) (max n m) := by
  obtain ⟨a1, a2, a3, a4, a5⟩ := h
  obtain ⟨b1, b2, b3, b4, b5⟩ := h'
  refine ⟨?_, ?_, ?_, ?_, ?_⟩
  · simp only [PyData.showableAll, a1, b1, Bool.and_self]
  · simp only [PyData.hasDictAll, a2, b2, Bool.or_self]
  · simp only [PyData.depthAll]
    omega
  · simp only [PyData.leavesShortAll, a4, b4, Bool.and_self]
  · simp only [PyData.weightAll]
    omega
theorem Small.list {ds : List PyData} {w n : Nat} (h : SmallAll ds w n) : Small (.list ds) w (n + 1) := by
  obtain ⟨a1, a2, a3, a4, a5⟩ := h
  refine ⟨?_, ?_, ?_, ?_, ?_⟩
  · simpa only [PyData.showable] using a1
  · simpa only [PyData.hasDict] using a2
  · simp only [PyData.depth]
    omega
  · simpa only [PyData.leavesShort] using a4
  · simpa only [PyData.weight] using a5
theorem Small.tuple {ds : List PyData} {w n : Nat} (h : SmallAll ds w n) : Small (.tuple ds) w (n + 1) := by
  obtain ⟨a1, a2, a3, a4, a5⟩ := h
  refine ⟨?_, ?_, ?_, ?_, ?_⟩
  · simpa only [PyData.showable] using a1
  · simpa only [PyData.hasDict] using a2
  · simp only [PyData.depth]
    omega
  · simpa only [PyData.leavesShort] using a4
  · simpa only [PyData.weight] using a5
theorem SmallAll.ints : ∀ {xs : List Int}, (∀ x ∈ xs, x.natAbs < 10 ^ 90) → SmallAll (xs.map PyData.int) (311 * xs.length) 0
  | [], _ => .nil
  | x :: xs, h => by
    have c := SmallAll.cons (Small.int (h x List.mem_cons_self)) (SmallAll.ints fun y hy => h y (List.mem_cons_of_mem _ hy))
    refine ⟨c.sh, c.nd, c.dp, c.lv, Nat.le_trans c.wt ?_⟩
    rw [List.length_cons]
    omega
theorem Small.ok {d : PyData} {w n : Nat} (h : Small d w n) (hw : w ≤ 150000) (hn : n ≤ 60) : Showable d := by
  refine ⟨h.sh, h.nd, Nat.le_trans h.dp hn, ?_⟩
  have e := PyData.shown_le 100 (by decide) d h.lv
  have := h.wt
  rw [sizeLine_eq]
  have : (100 + 2) * d.weight ≤ (100 + 2) * 150000 := Nat.mul_le_mul_left _ (Nat.le_trans h.wt hw)
  omega
/-- what Dp reads of a tuple of ints -/
theorem dp_ints {K : PySem.W.Frag} {H : Hp} : ∀ xs : List Int, DpAll K H (xs.map V.int) (xs.map PyData.int)
  | [] => .nil
  | x :: xs => .cons (.int x) (dp_ints xs)
theorem dp_tup {K : PySem.W.Frag} {H : Hp} {p : Addr} {xs : List Int} (h : SqT K H p (xs.map V.int)) : Dp K H (.ref p) (.tuple (xs.map PyData.int)) := .tup h (dp_ints xs)
end NB

set_option Elab.async false
set_option linter.all false
set_option maxRecDepth 100000
set_option maxHeartbeats 1000000
/-! Data of any kind: None, truths, whole numbers, texts, lists, tuples, dicts. -/
namespace NB
open PySem PySem.Spec PyProof.Rows L2

def kD : Key → PyData
  | .inl i => .int i
  | .inr x => .str x
mutual
/-- the value v is the data d; its lists stand apart from n -/
inductive Da (n : Addr) (H : Hp) : V → PyData → Prop
  | non : Da n H .non .none
  | bl (b : Bool) : Da n H (.bl b) (.bool b)
  | int (i : Int) : Da n H (.int i) (.int i)
  | str (x : Str) : Da n H (.str x) (.str x)
  | lst {a : Addr} {xs : List V} {ds : List PyData} : H a = some (.lst xs) → a ≠ sysModules → a ≠ n → DaAll n H xs ds → Da n H (.ref a) (.list ds)
  | tup {a : Addr} {xs : List V} {ds : List PyData} : H a = some (.tup xs) → DaAll n H xs ds → Da n H (.ref a) (.tuple ds)
  | dct {a : Addr} {kvs : List (Key × V)} {ds : List (PyData × PyData)} : H a = some (.dK kvs) → DaKv n H kvs ds → Da n H (.ref a) (.dict ds)
inductive DaAll (n : Addr) (H : Hp) : List V → List PyData → Prop
  | nil : DaAll n H [] []
  | cons {v : V} {vs : List V} {d : PyData} {ds : List PyData} : Da n H v d → DaAll n H vs ds → DaAll n H (v :: vs) (d :: ds)
inductive DaKv (n : Addr) (H : Hp) : List (Key × V) → List (PyData × PyData) → Prop
  | nil : DaKv n H [] []
  | cons {k : Key} {v : V} {kvs : List (Key × V)} {d : PyData} {ds : List (PyData × PyData)} : Da n H v d → DaKv n H kvs ds → DaKv n H ((k, v) :: kvs) ((kD k, d) :: ds)
end
mutual
theorem Da.keep {n : Addr} {H H' : Hp} (hn : ∃ zs, H n = some (.lst zs)) (k : ∀ b o, b ≠ n → H b = some o → H' b = some o) : ∀ (d : PyData) (v : V), Da n H v d → Da n H' v d
  | .none, _, h => by cases h; exact .non
  | .bool b, _, h => by cases h; exact .bl b
  | .int i, _, h => by cases h; exact .int i
  | .str x, _, h => by cases h; exact .str x
  | .list ds, _, h => by
    cases h with
    | lst e n1 n2 ha => exact .lst (k _ _ n2 e) n1 n2 (DaAll.keep hn k ds _ ha)
  | .tuple ds, _, h => by
    cases h with
    | tup e ha =>
      refine .tup (k _ _ (fun z => ?_) e) (DaAll.keep hn k ds _ ha)
      obtain ⟨zs, q⟩ := hn
      rw [z, q] at e
      cases e
  | .dict ds, _, h => by
    cases h with
    | dct e ha =>
      refine .dct (k _ _ (fun z => ?_) e) (DaKv.keep hn k ds _ ha)
      obtain ⟨zs, q⟩ := hn
      rw [z, q] at e
      cases e
theorem DaAll.keep {n : Addr} {H H' : Hp} (hn : ∃ zs, H n = some (.lst zs)) (k : ∀ b o, b ≠ n → H b = some o → H' b = some o) : ∀ (ds : List PyData) (vs : List V), DaAll n H vs ds → DaAll n H' vs ds
  | [], _, h => by cases h; exact .nil
  | d :: ds, _, h => by
    cases h with
    | cons h1 h2 => exact .cons (Da.keep hn k d _ h1) (DaAll.keep hn k ds _ h2)
theorem DaKv.keep {n : Addr} {H H' : Hp} (hn : ∃ zs, H n = some (.lst zs)) (k : ∀ b o, b ≠ n → H b = some o → H' b = some o) : ∀ (ds : List (PyData × PyData)) (kvs : List (Key × V)), DaKv n H kvs ds → DaKv n H' kvs ds
  | [], _, h => by cases h; exact .nil
  | (_, d) :: ds, _, h => by
    cases h with
    | cons h1 h2 => exact .cons (Da.keep hn k d _ h1) (DaKv.keep hn k ds _ h2)
end
mutual
theorem Da.sameD {n : Addr} {H H' : Hp} (k : Same H H') : ∀ (d : PyData) (v : V), Da n H v d → Da n H' v d
  | .none, _, h => by cases h; exact .non
  | .bool b, _, h => by cases h; exact .bl b
  | .int i, _, h => by cases h; exact .int i
  | .str x, _, h => by cases h; exact .str x
  | .list ds, _, h => by
    cases h with
    | lst e n1 n2 ha => exact .lst (k _ _ e) n1 n2 (DaAll.sameD k ds _ ha)
  | .tuple ds, _, h => by
    cases h with
    | tup e ha => exact .tup (k _ _ e) (DaAll.sameD k ds _ ha)
  | .dict ds, _, h => by
    cases h with
    | dct e ha => exact .dct (k _ _ e) (DaKv.sameD k ds _ ha)
theorem DaAll.sameD {n : Addr} {H H' : Hp} (k : Same H H') : ∀ (ds : List PyData) (vs : List V), DaAll n H vs ds → DaAll n H' vs ds
  | [], _, h => by cases h; exact .nil
  | d :: ds, _, h => by
    cases h with
    | cons h1 h2 => exact .cons (Da.sameD k d _ h1) (DaAll.sameD k ds _ h2)
theorem DaKv.sameD {n : Addr} {H H' : Hp} (k : Same H H') : ∀ (ds : List (PyData × PyData)) (kvs : List (Key × V)), DaKv n H kvs ds → DaKv n H' kvs ds
  | [], _, h => by cases h; exact .nil
  | (_, d) :: ds, _, h => by
    cases h with
    | cons h1 h2 => exact .cons (Da.sameD k d _ h1) (DaKv.sameD k ds _ h2)
end
theorem Da.same {n : Addr} {H H' : Hp} {v : V} {d : PyData} (h : Da n H v d) (k : Same H H') : Da n H' v d := Da.sameD k d v h
theorem DaAll.same {n : Addr} {H H' : Hp} {vs : List V} {ds : List PyData} (h : DaAll n H vs ds) (k : Same H H') : DaAll n H' vs ds := DaAll.sameD k ds vs h
theorem DaAll.len {n : Addr} {H : Hp} {vs : List V} {ds : List PyData} (h : DaAll n H vs ds) : vs.length = ds.length := by
  induction ds generalizing vs with
  | nil => cases h; rfl
  | cons d ds ih =>
    cases h with
    | cons h1 h2 => rw [List.length_cons, List.length_cons, ih h2]
theorem DaAll.get {n : Addr} {H : Hp} {vs : List V} {ds : List PyData} (h : DaAll n H vs ds) (i : Nat) (v : V) (e : vs[i]? = some v) : ∃ d, ds[i]? = some d ∧ Da n H v d := by
  induction ds generalizing vs i with
  | nil => cases h; simp at e
  | cons d ds ih =>
    cases h with
    | cons h1 h2 =>
      cases i with
      | zero => exact ⟨d, rfl, by cases e; exact h1⟩
      | succ i => exact ih h2 i e
theorem DaAll.mem {n : Addr} {H : Hp} {vs : List V} {ds : List PyData} (h : DaAll n H vs ds) {v : V} (hv : v ∈ vs) : ∃ d ∈ ds, Da n H v d := by
  obtain ⟨i, hi, e⟩ := List.getElem_of_mem hv
  obtain ⟨d, e1, e2⟩ := h.get i v (by rw [List.getElem?_eq_getElem hi, e])
  exact ⟨d, List.mem_of_getElem? e1, e2⟩
theorem DaAll.app {n : Addr} {H : Hp} {vs us : List V} {ds es : List PyData} (h : DaAll n H vs ds) (h' : DaAll n H us es) : DaAll n H (vs ++ us) (ds ++ es) := by
  induction ds generalizing vs with
  | nil => cases h; exact h'
  | cons d ds ih =>
    cases h with
    | cons h1 h2 => exact .cons h1 (ih h2)
theorem DaAll.take {n : Addr} {H : Hp} {vs : List V} {ds : List PyData} (h : DaAll n H vs ds) (i : Nat) : DaAll n H (vs.take i) (ds.take i) := by
  induction ds generalizing vs i with
  | nil => cases h; simp only [List.take_nil]; exact .nil
  | cons d ds ih =>
    cases h with
    | cons h1 h2 =>
      cases i with
      | zero => simp only [List.take_zero]; exact .nil
      | succ i => simp only [List.take_succ_cons]; exact .cons h1 (ih h2 i)
theorem DaAll.drop {n : Addr} {H : Hp} {vs : List V} {ds : List PyData} (h : DaAll n H vs ds) (i : Nat) : DaAll n H (vs.drop i) (ds.drop i) := by
  induction ds generalizing vs i with
  | nil => cases h; simp only [List.drop_nil]; exact .nil
  | cons d ds ih =>
    cases h with
    | cons h1 h2 =>
      cases i with
      | zero => simp only [List.drop_zero]; exact .cons h1 h2
      | succ i => simp only [List.drop_succ_cons]; exact ih h2 i
theorem DaAll.ints {n : Addr} {H : Hp} : ∀ xs : List Int, DaAll n H (xs.map V.int) (xs.map PyData.int)
  | [] => .nil
  | x :: xs => .cons (.int x) (DaAll.ints xs)
/-- of which kind it is -/
def tyD : PyData → String
  | .none => "NoneType"
  | .bool _ => "bool"
  | .int _ => "int"
  | .str _ => "str"
  | .list _ => "list"
  | .tuple _ => "tuple"
  | .dict _ => "dict"
theorem Da.ty {K : PySem.W.Frag} {n : Addr} {H : Hp} {v : V} {d : PyData} (h : Da n H v d) : TyX K H v (.type (tyD d)) := by
  cases h with
  | non => exact .base .non
  | bl b => exact .base (.bl b)
  | int i => exact .base (.int i)
  | str x => exact .base (.str x)
  | lst e _ _ _ => exact .base (.lst e)
  | tup e _ => exact .base (.tup e)
  | dct e _ => exact .base (.dK e)
def isTupD : PyData → Bool
  | .tuple _ => true
  | _ => false
def isIntD : PyData → Bool
  | .int _ => true
  | .bool _ => true
  | _ => false
def isBoolD : PyData → Bool
  | .bool _ => true
  | _ => false
def isStrD : PyData → Bool
  | .str _ => true
  | _ => false
theorem kit_tup (d : PyData) : kitB (tyD d) "tuple" = some (isTupD d) := by cases d <;> (simp only [tyD, isTupD, isIntD, isBoolD, isStrD]; decide +kernel)
theorem kit_int (d : PyData) : kitB (tyD d) "int" = some (isIntD d) := by cases d <;> (simp only [tyD, isTupD, isIntD, isBoolD, isStrD]; decide +kernel)
theorem kit_bool (d : PyData) : kitB (tyD d) "bool" = some (isBoolD d) := by cases d <;> (simp only [tyD, isTupD, isIntD, isBoolD, isStrD]; decide +kernel)
theorem kit_str (d : PyData) : kitB (tyD d) "str" = some (isStrD d) := by cases d <;> (simp only [tyD, isTupD, isIntD, isBoolD, isStrD]; decide +kernel)
section
variable {X : Cx} {pins : List (Addr × Obj)} {σ : L2.St} {H : Hp} {s : Shared}
theorem key_reads {h : Heap} {k : Key} {u : Value} (e : keyIs k u = true) : Reads h u (kD k) [] := by
  rcases keyIs_shape e with ⟨i, t, rfl, rfl⟩ | ⟨x, t, rfl, rfl⟩
  · exact .int i t
  · exact .str x t
mutual
theorem Da.reads {n : Addr} (I : Inv X pins σ H s) : ∀ (d : PyData) (v : V) (u : Value), Da n H v d → RelV v u → ∃ as, Reads s.heap u d as ∧ sysModules ∉ as
  | .none, _, _, h, r => by
    cases h
    cases r
    exact ⟨_, Reads.none, List.not_mem_nil⟩
  | .bool b, _, _, h, r => by
    cases h
    cases r
    exact ⟨_, Reads.bool b, List.not_mem_nil⟩
  | .int i, _, _, h, r => by
    cases h
    obtain ⟨t, rfl⟩ := r
    exact ⟨_, Reads.int i t, List.not_mem_nil⟩
  | .str x, _, _, h, r => by
    cases h
    obtain ⟨t, rfl⟩ := r
    exact ⟨_, Reads.str x t, List.not_mem_nil⟩
  | .list ds, _, _, h, r => by
    cases h with
    | lst e n1 n2 ha =>
      cases r
      obtain ⟨its, rv, ⟨o, m, ho, hc, _, hd⟩, _⟩ := I.list (.inl (.inl e))
      obtain ⟨as, hr, hm⟩ := Da.readsAll I ds _ its ha rv
      refine ⟨_, Reads.list ho hc hd hr, fun z => ?_⟩
      rcases List.mem_cons.mp z with q | q
      · exact n1 q.symm
      · exact hm q
  | .tuple ds, _, _, h, r => by
    cases h with
    | tup e ha =>
      cases r
      obtain ⟨its, rv, ⟨o, ho, hc, m, hd⟩, _⟩ := I.tuple (.inl (.inl e))
      obtain ⟨as, hr, hm⟩ := Da.readsAll I ds _ its ha rv
      exact ⟨_, Reads.tuple ho hc hd hr, hm⟩
  | .dict ds, _, _, h, r => by
    cases h with
    | dct e ha =>
      rename_i a kvs
      cases r
      obtain ⟨_, hsys, vs, rel, o, es, ep, h1, h2, h3, _, pr, _⟩ := (show ObjOk X.prog X.w H s.heap a (.dK kvs) from I.hok a _ e)
      obtain ⟨as, bs, q1, m1, q2, m2⟩ := Da.readsKv I ds kvs vs es.toList ha rel pr
      refine ⟨_, Reads.dict h1 h2.1 h3 q1 q2, fun z => ?_⟩
      rw [List.cons_append] at z
      rcases List.mem_cons.mp z with q | q
      · exact beq_eq_false_iff_ne.mp hsys q.symm
      · rcases List.mem_append.mp q with q | q
        · exact m1 q
        · exact m2 q
theorem Da.readsAll {n : Addr} (I : Inv X pins σ H s) : ∀ (ds : List PyData) (vs : List V) (us : List Value), DaAll n H vs ds → Vals vs us → ∃ as, ReadsAll s.heap us ds as ∧ sysModules ∉ as
  | [], _, _, h, r => by
    cases h
    cases r
    exact ⟨_, ReadsAll.nil, List.not_mem_nil⟩
  | d :: ds, _, _, h, r => by
    cases h with
    | cons h1 h2 =>
      cases r with
      | cons r1 r2 =>
        obtain ⟨as, q1, m1⟩ := Da.reads I d _ _ h1 r1
        obtain ⟨bs, q2, m2⟩ := Da.readsAll I ds _ _ h2 r2
        refine ⟨_, ReadsAll.cons q1 q2, fun z => ?_⟩
        rcases List.mem_append.mp z with q | q
        · exact m1 q
        · exact m2 q
theorem Da.readsKv {n : Addr} (I : Inv X pins σ H s) : ∀ (ds : List (PyData × PyData)) (kvs : List (Key × V)) (vs : List (Key × Value)) (es : List DictEntry), DaKv n H kvs ds → KV kvs vs → Pairs (mixKind X.prog X.w) es vs →
    ∃ as bs, ReadsAll s.heap (es.map (·.key)) (ds.map (·.1)) as ∧ sysModules ∉ as ∧ ReadsAll s.heap (es.map (·.val)) (ds.map (·.2)) bs ∧ sysModules ∉ bs
  | [], _, _, _, h, r, p => by
    cases h
    cases r
    cases p
    exact ⟨_, _, ReadsAll.nil, List.not_mem_nil, ReadsAll.nil, List.not_mem_nil⟩
  | (_, d) :: ds, _, _, _, h, r, p => by
    cases h with
    | cons h1 h2 =>
      cases r with
      | cons r1 r2 =>
        cases p with
        | cons p1 p2 p3 =>
          obtain ⟨as, bs, q1, m1, q2, m2⟩ := Da.readsKv I ds _ _ _ h2 r2 p3
          obtain ⟨cs, q3, m3⟩ := Da.reads I d _ _ h1 r1.2
          refine ⟨_, _, ReadsAll.cons (key_reads (by have e := r1.1; simp only at e; show keyIs _ _ = true; rw [e]; exact p1)) q1, ?_, ReadsAll.cons (by show Reads s.heap (DictEntry.val _) d _; rw [p2]; exact q3) q2, fun z => ?_⟩
          · rw [List.nil_append]
            exact m1
          · rcases List.mem_append.mp z with q | q
            · exact m3 q
            · exact m2 q
end
end
/-- data that repr writes: at most w by weight, nested at most k deep -/
structure Sm (d : PyData) (w k : Nat) : Prop where
  sh : d.showable = true
  dp : d.depth ≤ k
  lv : d.leavesShort 100 = true
  wt : d.weight ≤ w
theorem Sm.mono {d : PyData} {w v k m : Nat} (h : Sm d w k) (hw : w ≤ v) (hk : k ≤ m) : Sm d v m := ⟨h.sh, Nat.le_trans h.dp hk, h.lv, Nat.le_trans h.wt hw⟩
/-- each of them -/
def SmE (ds : List PyData) (k : Nat) : Prop := ∀ d ∈ ds, d.showable = true ∧ d.depth ≤ k ∧ d.leavesShort 100 = true
theorem smE_iff : ∀ (ds : List PyData) (k : Nat), SmE ds k ↔ PyData.showableAll ds = true ∧ PyData.depthAll ds ≤ k ∧ PyData.leavesShortAll 100 ds = true
  | [], k => by
    refine ⟨fun _ => ⟨rfl, Nat.zero_le _, rfl⟩, fun _ d h => absurd h List.not_mem_nil⟩
  | d :: ds, k => by
    have ih := smE_iff ds k
    constructor
    · intro h
      have h1 := h d List.mem_cons_self
      have h2 := ih.mp fun e he => h e (List.mem_cons_of_mem _ he)
      refine ⟨?_, ?_, ?_⟩
      · simp only [PyData.showableAll, h1.1, h2.1, Bool.and_self]
      · simp only [PyData.depthAll]
        omega
      · simp only [PyData.leavesShortAll, h1.2.2, h2.2.2, Bool.and_self]
    · rintro ⟨h1, h2, h3⟩ e he
      simp only [PyData.showableAll, Bool.and_eq_true] at h1
      simp only [PyData.depthAll] at h2
      simp only [PyData.leavesShortAll, Bool.and_eq_true] at h3
      rcases List.mem_cons.mp he with rfl | he
      · exact ⟨h1.1, by omega, h3.1⟩
      · exact ih.mpr ⟨h1.2, by omega, h3.2⟩ e he
theorem smE_iff_depth : ∀ (ds : List PyData) (k : Nat), PyData.depthAll ds ≤ k ↔ ∀ d ∈ ds, d.depth ≤ k
  | [], k => ⟨fun _ d h => absurd h List.not_mem_nil, fun _ => Nat.zero_le _⟩
  | d :: ds, k => by
    have ih := smE_iff_depth ds k
    simp only [PyData.depthAll]
    constructor
    · intro h e he
      rcases List.mem_cons.mp he with rfl | he
      · omega
      · exact ih.mp (by omega) e he
    · intro h
      have h1 := h d List.mem_cons_self
      have h2 := ih.mpr fun e he => h e (List.mem_cons_of_mem _ he)
      omega
theorem wt_app : ∀ xs ys : List PyData, PyData.weightAll (xs ++ ys) = PyData.weightAll xs + PyData.weightAll ys
  | [], ys => by simp [PyData.weightAll]
  | x :: xs, ys => by
    rw [List.cons_append]
    simp only [PyData.weightAll, wt_app xs ys]
    omega
theorem wt_len : ∀ xs : List PyData, xs.length ≤ PyData.weightAll xs
  | [] => by simp [PyData.weightAll]
  | x :: xs => by
    have := wt_len xs
    simp only [PyData.weightAll, List.length_cons]
    omega
theorem wt_mem : ∀ {xs : List PyData} {d : PyData}, d ∈ xs → d.weight + 1 ≤ PyData.weightAll xs
  | [], d, h => absurd h List.not_mem_nil
  | x :: xs, d, h => by
    simp only [PyData.weightAll]
    rcases List.mem_cons.mp h with rfl | h
    · omega
    · have := wt_mem h
      omega
theorem Sm.tup {ds : List PyData} {w k : Nat} (h : SmE ds k) (hw : PyData.weightAll ds ≤ w) : Sm (.tuple ds) w (k + 1) := by
  obtain ⟨a, b, c⟩ := (smE_iff ds k).mp h
  refine ⟨?_, ?_, ?_, ?_⟩
  · simpa only [PyData.showable] using a
  · simp only [PyData.depth]
    omega
  · simpa only [PyData.leavesShort] using c
  · simpa only [PyData.weight] using hw
theorem Sm.lst {ds : List PyData} {w k : Nat} (h : SmE ds k) (hw : PyData.weightAll ds ≤ w) : Sm (.list ds) w (k + 1) := by
  obtain ⟨a, b, c⟩ := (smE_iff ds k).mp h
  refine ⟨?_, ?_, ?_, ?_⟩
  · simpa only [PyData.showable] using a
  · simp only [PyData.depth]
    omega
  · simpa only [PyData.leavesShort] using c
  · simpa only [PyData.weight] using hw
theorem Sm.of_tup {ds : List PyData} {w k : Nat} (h : Sm (.tuple ds) w k) : ∃ j, k = j + 1 ∧ SmE ds j ∧ PyData.weightAll ds ≤ w := by
  obtain ⟨a, b, c, e⟩ := h
  simp only [PyData.showable] at a
  simp only [PyData.depth] at b
  simp only [PyData.leavesShort] at c
  simp only [PyData.weight] at e
  refine ⟨k - 1, by omega, (smE_iff ds _).mpr ⟨a, by omega, c⟩, e⟩
theorem Sm.int {i : Int} (h : i.natAbs < 10 ^ 90) : Sm (.int i) 310 0 := by
  have s := Small.int h
  exact ⟨s.sh, s.dp, s.lv, s.wt⟩
theorem Sm.bool (b : Bool) : Sm (.bool b) 0 0 := ⟨rfl, Nat.le_refl _, rfl, Nat.le_refl _⟩
theorem Sm.none : Sm .none 0 0 := ⟨rfl, Nat.le_refl _, rfl, Nat.le_refl _⟩
theorem Sm.e {d : PyData} {w k : Nat} (h : Sm d w k) : d.showable = true ∧ d.depth ≤ k ∧ d.leavesShort 100 = true := ⟨h.sh, h.dp, h.lv⟩
theorem Sm.dict0 : Sm (.dict []) 0 1 := ⟨rfl, by decide, rfl, Nat.le_refl _⟩
theorem Sm.dict1 {x : Str} {d : PyData} {w v k : Nat} (hx : Sm (.str x) v k) (h : Sm d w k) : Sm (.dict [(.str x, d)]) (v + w + 2) (k + 1) := by
  have a := hx.wt
  have b := h.wt
  have c := hx.dp
  have e := h.dp
  refine ⟨?_, ?_, ?_, ?_⟩
  · simp only [PyData.showable, PyData.showableKv, h.sh, Bool.and_self]
  · simp only [PyData.depth, PyData.depthKv]
    omega
  · have e1 := hx.lv
    simp only [PyData.leavesShort, PyData.leavesShortKv] at e1 ⊢
    rw [e1, h.lv]
    rfl
  · simp only [PyData.weight, PyData.weightKv] at a ⊢
    omega
theorem Sm.long {d : PyData} {w k : Nat} (h : Sm d w k) (hw : w ≤ 150000) : d.shown.length ≤ sizeLine := by
  have e := PyData.shown_le 100 (by decide) d h.lv
  have := h.wt
  rw [sizeLine_eq]
  have : (100 + 2) * d.weight ≤ (100 + 2) * 150000 := Nat.mul_le_mul_left _ (Nat.le_trans h.wt hw)
  omega
section
variable {X : Cx}
/-- isinstance(x, T), x data -/
theorem call_isiD : CallR X (.builtin "isinstance") (fun xs H Q => ∃ n v d T b, xs = [v, .ty T] ∧ Da n H v d ∧ kitB (tyD d) T = some b ∧ Q (.bl b) H) := by
  intro pins s σ H xs us Q I r h
  obtain ⟨n, v, d, T, b, rfl, hd, hk, q⟩ := h
  exact call_isi pins s σ H _ us Q I r ⟨v, .ty T, _, _, b, rfl, .ty T, hd.ty, kit_ty hk, q⟩
/-- repr(x), x data -/
theorem call_reprA (hG : X.A.guards = some []) (hu : X.A.units + 64 < cLine) : CallR X (.builtin "repr") (fun xs H Q => ∃ n v d w k, xs = [v] ∧ Da n H v d ∧ Sm d w k ∧ w ≤ 150000 ∧ k ≤ 60 ∧ Q (.str d.shown) H) := by
  intro pins s σ H xs us Q I r h
  obtain ⟨n, v, d, w, k, rfl, hd, S, hw, hk, q⟩ := h
  obtain ⟨u, rfl, ru⟩ := vals1 r
  have hz := S.long hw
  have hsh := S.sh
  cases v with
  | ref a =>
    obtain ⟨as, rd, nm⟩ := Da.reads I d _ u hd ru
    cases ru
    have hn := S.dp
    exact repr_of_reads' rd S.sh (fun _ => nm) hG (by omega) (fun _ _ z => z) (fun h' u tk hk => ⟨.str _, H, I.kept hk, ⟨_, rfl⟩, q⟩) hz
  | non =>
    cases hd
    cases ru
    exact P.repr_of_none ⟨.str "None", H, I.tok _, ⟨_, rfl⟩, q⟩
  | bl b =>
    cases hd
    cases ru
    exact P.repr_of_bool ⟨.str (if b then "True" else "False"), H, I.tok _, ⟨_, rfl⟩, q⟩
  | int i =>
    cases hd
    obtain ⟨t, rfl⟩ := ru
    simp only [PyData.showable, decide_eq_true_eq] at hsh
    exact P.repr_of_int hsh ⟨.str (toString i), H, I.tok _, ⟨_, rfl⟩, q⟩
  | str x =>
    cases hd
    obtain ⟨t, rfl⟩ := ru
    exact P.repr_of_str ⟨.str (reprText x), H, I.tok _, ⟨_, rfl⟩, q⟩ hz
  | _ => cases hd
/-- t == (), t any tuple -/
theorem op_eq0 (hu : X.A.units < cLine) : OpR X (compareOp .Eq) (fun x y H Q => ∃ a b xs, x = .ref a ∧ y = .ref b ∧ SqT X.K H a xs ∧ SqT X.K H b [] ∧ Q (.bl xs.isEmpty) H) := by
  intro pins s σ H x y v u Q I rx ry h
  obtain ⟨a, b, xs, rfl, rfl, ha, hb, q⟩ := h
  cases rx
  cases ry
  obtain ⟨i1, r1, p1, _⟩ := I.tuple ha
  obtain ⟨i2, r2, p2, _⟩ := I.tuple hb
  cases r2
  refine SeqAt.eq_tupleAt (e := fun _ => true) p1 p2 hu (fun j h1 h2 => absurd h2 (by simp)) ?_
  refine ⟨.bl xs.isEmpty, H, I, ?_, q⟩
  have e := r1.length
  cases xs with
  | nil =>
    cases r1
    rfl
  | cons z zs =>
    cases r1
    simp [L2.RelV]
/-- x is y, x is not y, of truths -/
theorem op_isB : OpR X (compareOp .Is) (fun x y H Q => ∃ a b, x = .bl a ∧ y = .bl b ∧ Q (.bl (a == b)) H) := by
  intro pins s σ H x y v u Q I rx ry h
  obtain ⟨a, b, rfl, rfl, q⟩ := h
  cases rx
  cases ry
  exact wpAny_pure ⟨.bl (a == b), H, I, by cases a <;> cases b <;> rfl, q⟩
theorem op_isnotB : OpR X (compareOp .IsNot) (fun x y H Q => ∃ a b, x = .bl a ∧ y = .bl b ∧ Q (.bl (!(a == b))) H) := by
  intro pins s σ H x y v u Q I rx ry h
  obtain ⟨a, b, rfl, rfl, q⟩ := h
  cases rx
  cases ry
  exact wpAny_pure ⟨.bl (!(a == b)), H, I, by cases a <;> cases b <;> rfl, q⟩
/-- t != (), t any tuple -/
theorem op_ne0 (hu : X.A.units < cLine) : OpR X (compareOp .NotEq) (fun x y H Q => ∃ a b xs, x = .ref a ∧ y = .ref b ∧ SqT X.K H a xs ∧ SqT X.K H b [] ∧ Q (.bl (!xs.isEmpty)) H) := by
  intro pins s σ H x y v u Q I rx ry h
  obtain ⟨a, b, xs, rfl, rfl, ha, hb, q⟩ := h
  cases rx
  cases ry
  obtain ⟨i1, r1, p1, _⟩ := I.tuple ha
  obtain ⟨i2, r2, p2, _⟩ := I.tuple hb
  cases r2
  refine SeqAt.RcNeAt.tuples (e := fun _ => true) p1 p2 hu (fun j h1 h2 => absurd h2 (by simp)) X.prog X.w X.xe _ ?_
  refine ⟨.bl (!xs.isEmpty), H, I, ?_, q⟩
  cases xs with
  | nil =>
    cases r1
    rfl
  | cons z zs =>
    cases r1
    simp [L2.RelV]
/-- a written list stands apart from what the machine keeps by itself -/
def tLstN (t : TA) : TE := fun σ H Q => t σ H fun xs H1 => xs.length ≤ sizeLine ∧ ∀ p, H1 p = none → p ≠ sysModules → Q (.ref p) (upd H1 p (.lst xs))
theorem pe_lstN {es : List Expr} {pos : Pos} {t : TA} (h : PA X es t) : PE X (.List es pos) (tLstN t) := by
  refine ⟨fun pins s σ H Q I hq => ?_⟩
  refine wpAny_List_spliced (thn (h.run pos pins s σ H _ I hq) fun us s1 ⟨xs, H1, I1, r, z, q⟩ => ⟨by rw [← r.length]; exact z, ?_⟩)
  have hf : H1 s1.heap.objs.size = none := I1.hok.fresh (Nat.le_refl _)
  refine ⟨.ref s1.heap.objs.size, upd H1 s1.heap.objs.size (.lst xs), I1.laid (t' := s1.toks) (fun b u e => Heap.get?_push_of_some _ e) (Nat.le_refl _) ?_, rfl, q _ hf (Nat.ne_of_gt I1.big)⟩
  exact ⟨z, us, 0, r, Heap.get?_push_size _ rfl⟩
/-- list(t), t a tuple -/
theorem call_list_ofN : CallR X (.type "list") (fun xs H Q => ∃ p ys, xs = [.ref p] ∧ SqT X.K H p ys ∧ ∀ l, H l = none → l ≠ sysModules → Q (.ref l) (upd H l (.lst ys))) := by
  intro pins s σ H xs us Q I r h
  obtain ⟨p, ys, rfl, hq, q⟩ := h
  obtain ⟨u, rfl, rx⟩ := vals1 r
  cases rx
  have fin : ∀ (its : List Value), Vals ys its → ys.length ≤ sizeLine → ∀ (h' : Heap) (c' : Nat), (∀ b o', s.heap.get? b = some o' → h'.get? b = some o') →
      h'.get? s.heap.objs.size = some { cls := .type "list", dict := none, data := .seq its.toArray c', slots := #[] } → EP X pins σ Q (.ref s.heap.objs.size) { s with heap := h' } := fun its r' hz h' c' kp e =>
    ⟨.ref s.heap.objs.size, _, I.laid (t' := s.toks) kp (Nat.le_refl _) (show ObjOk X.prog X.w _ h' _ (.lst ys) from ⟨hz, its, c', r', e⟩), rfl, q _ (I.hok.fresh (Nat.le_refl _)) (Nat.ne_of_gt I.big)⟩
  obtain ⟨its, r', pl, hz⟩ := I.tuple hq
  have hlen := r'.length
  obtain ⟨o, ho, hc, n, hd⟩ := pl
  exact call_list_seq p (.inr rfl) ho hc hd (fun h' c' kp e => fin its r' hz h' c' kp e) (by simp only [List.size_toArray] <;> omega)
end
/-- two ways that come to the same -/
theorem join2 {c : Bool} {A B : VK → Prop} {Q : VK} (R : V → Hp → Prop) (hA : ∀ Q' : VK, (∀ v H, R v H → Q' v H) → A Q') (hB : ∀ Q' : VK, (∀ v H, R v H → Q' v H) → B Q') (hQ : ∀ v H, R v H → Q v H) : if c = true then A Q else B Q := by
  cases c
  · exact iteF (hB Q hQ)
  · exact iteT (hA Q hQ)
theorem inV_int2 (i j k : Int) : inV (V.int i) [V.int j, V.int k] = (decide (i = j) || decide (i = k)) := by
  rw [Bool.eq_iff_iff]
  simp only [inV, eqV, List.any_cons, List.any_nil, Bool.or_false, Bool.or_eq_true, beq_iff_eq, decide_eq_true_eq]
  constructor
  · rintro (h | h)
    · exact .inl h.symm
    · exact .inr h.symm
  · rintro (h | h)
    · exact .inl h.symm
    · exact .inr h.symm
theorem inV_str2 (z x y : Str) : inV (V.str z) [V.str x, V.str y] = (decide (z = x) || decide (z = y)) := by
  rw [Bool.eq_iff_iff]
  simp only [inV, eqV, List.any_cons, List.any_nil, Bool.or_false, Bool.or_eq_true, beq_iff_eq, decide_eq_true_eq]
  constructor
  · rintro (h | h)
    · exact .inl h.symm
    · exact .inr h.symm
  · rintro (h | h)
    · exact .inl h.symm
    · exact .inr h.symm
theorem wipe1 {σ : L2.St} {k : Nat} {v : Option V} {n : Str} : wipe ((wipe σ ([(n, k)].map (·.2))).set k v) ([(n, k)].map (·.2)) = wipe σ ([(n, k)].map (·.2)) := by
  show ((σ.set k none).set k v).set k none = σ.set k none
  rw [List.set_set, List.set_set]
end NB

set_option Elab.async false
set_option linter.all false
set_option maxRecDepth 100000
namespace K49
open PySem PySem.Spec PyProof.Rows L2 NB
def topS (i : Nat) : Stmt := PySem.Challenge.pw_notbothout_k49_whole_chains_hold_in_any.main.body.getD i (.Pass ⟨0, 0, 0, 0⟩)

/-- all that was tracked stands, but for what is at a -/
def But (a : Addr) (H H' : Hp) : Prop := ∀ b o, b ≠ a → H b = some o → H' b = some o
theorem But.of {a : Addr} {H H' : Hp} (h : Same H H') : But a H H' := fun b o _ e => h b o e
theorem But.trans {a : Addr} {H H1 H2 : Hp} (h : But a H H1) (h' : But a H1 H2) : But a H H2 := fun b o n e => h' b o n (h b o n e)
theorem But.seq {K : PySem.W.Frag} {a l : Addr} {H H' : Hp} {xs : List V} (h : But a H H') (n : l ≠ a) (q : SqL K H l xs) : SqL K H' l xs := by
  rcases q with (q | ⟨o, q⟩) | q
  · exact .inl (.inl (h _ _ n q))
  · exact .inl (.inr ⟨o, h _ _ n q⟩)
  · exact .inr q
theorem But.tup {K : PySem.W.Frag} {a l : Addr} {H H' : Hp} {xs : List V} (h : But a H H') (n : l ≠ a) (q : SqT K H l xs) : SqT K H' l xs := by
  rcases q with (q | ⟨o, q⟩) | q
  · exact .inl (.inl (h _ _ n q))
  · exact .inl (.inr ⟨o, h _ _ n q⟩)
  · exact .inr q
theorem sameT {K : PySem.W.Frag} {l : Addr} {H H' : Hp} {xs : List V} (h : Same H H') (q : SqT K H l xs) : SqT K H' l xs := by
  rcases q with (q | ⟨o, q⟩) | q
  · exact .inl (.inl (h _ _ q))
  · exact .inl (.inr ⟨o, h _ _ q⟩)
  · exact .inr q
theorem same_new {H : Hp} {p : Addr} {o : HO} (h : H p = none) : Same H (upd H p o) := fun b x e => by
  rw [upd_ne (ne_of_none e h)]
  exact e
/-- a cell that was free and is written stands apart from what was -/
theorem same_over {H H' : Hp} {p : Addr} {o : HO} (h : Same H H') (n : H p = none) : Same H (upd H' p o) := fun b x e => by
  rw [upd_ne (ne_of_none e n)]
  exact h b x e

theorem mapGet {α β : Type} {f : α → β} {xs : List α} {i : Nat} {y : β} (h : (xs.map f)[i]? = some y) : ∃ x, xs[i]? = some x ∧ y = f x := by
  rw [List.getElem?_map] at h
  cases e : xs[i]? with
  | none => rw [e] at h; cases h
  | some x => rw [e] at h; exact ⟨x, rfl, (Option.some.inj h).symm⟩

theorem take_map {α β : Type} (f : α → β) (xs : List α) (i : Nat) (y : α) (h : xs[i]? = some y) : (xs.take (i + 1)).map f = (xs.take i).map f ++ [f y] := by
  rw [List.take_add_one, h, List.map_append]
  rfl
theorem take_small {α : Type} {xs : List α} {i : Nat} (h : xs.length ≤ 1000) {β : Type} (f : α → β) : ((xs.take i).map f).length < sizeLine := by
  rw [List.length_map, List.length_take]
  exact Nat.lt_of_le_of_lt (Nat.min_le_right _ _) (small1000 h)

abbrev sPot : Stmt := topS 58
abbrev sTake : Stmt := topS 59
abbrev sOf : Stmt := topS 60
abbrev sStand : Stmt := topS 61
theorem scPot : FnScope ["_law_script", "_law_k", "_law_cell", "_law_great"] ["_law_script", "_law_k"] (defScope sPot) := ⟨rfl, rfl, rfl, by decide +kernel, rfl, by decide +kernel, by decide +kernel⟩
theorem scTake : FnScope ["_law_pot_here", "_law_many", "_law_digit", "_law_prime", "_law_mixed"] ["_law_pot_here", "_law_many"] (defScope sTake) := ⟨rfl, rfl, rfl, by decide +kernel, rfl, by decide +kernel, by decide +kernel⟩
theorem scOf : FnScope ["_law_pot_here", "_law_some"] ["_law_pot_here", "_law_some"] (defScope sOf) := ⟨rfl, rfl, rfl, by decide +kernel, rfl, by decide +kernel, by decide +kernel⟩
theorem scStand : FnScope ["_law_pot_here", "_law_tops", "_law_top"] ["_law_pot_here", "_law_tops"] (defScope sStand) := ⟨rfl, rfl, rfl, by decide +kernel, rfl, by decide +kernel, by decide +kernel⟩

/-- a pot out of which at most c numbers were taken by reckoning -/
def PotAt (H : Hp) (a : Addr) (c : Nat) : Prop := ∃ p q r : Int, H a = some (.lst [.int p, .int q, .int r]) ∧ 0 ≤ p ∧ 0 ≤ r ∧ r ≤ c
theorem PotAt.mono {H : Hp} {a : Addr} {c d : Nat} (h : PotAt H a c) (le : c ≤ d) : PotAt H a d := by
  obtain ⟨p, q, r, e, h1, h2, h3⟩ := h
  exact ⟨p, q, r, e, h1, h2, by omega⟩
theorem PotAt.keep {H H' : Hp} {a : Addr} {c : Nat} (h : PotAt H a c) (s : Same H H') : PotAt H' a c := by
  obtain ⟨p, q, r, e, h1, h2, h3⟩ := h
  exact ⟨p, q, r, s _ _ e, h1, h2, h3⟩
theorem PotAt.ne {H : Hp} {a b : Addr} {c : Nat} (h : PotAt H a c) (n : H b = none) : b ≠ a := by
  obtain ⟨p, q, r, e, _⟩ := h
  exact (ne_of_none e n).symm
theorem But.free {a b : Addr} {H H' : Hp} (h : But a H H') (ne : b ≠ a) (n : H' b = none) : H b = none := by
  cases e : H b with
  | none => rfl
  | some o =>
    rw [h b o ne e] at n
    cases n
theorem but_new {a p : Addr} {H H' : Hp} {o : HO} (h : But a H H') (n : H p = none) : But a H (upd H' p o) := fun b x ne e => by
  rw [upd_ne (ne_of_none e n)]
  exact h b x ne e
theorem but_at {a : Addr} {H H' : Hp} {o : HO} (h : But a H H') : But a H (upd H' a o) := fun b x ne e => by
  rw [upd_ne ne]
  exact h b x ne e

theorem prime_at (j : Int) (h0 : 0 ≤ j) (h4 : j < 4) : ∃ pr : Int, atI [V.int 2305843009213693951, V.int 999999999989, V.int 1000000000039, V.int 67280421310721] j = some (.int pr) ∧ 0 < pr ∧ pr < 2 ^ 62 := by
  have : j = 0 ∨ j = 1 ∨ j = 2 ∨ j = 3 := by omega
  rcases this with rfl | rfl | rfl | rfl
  · exact ⟨_, atI_nat (j := 0) rfl, by decide, by decide⟩
  · exact ⟨_, atI_nat (j := 1) rfl, by decide, by decide⟩
  · exact ⟨_, atI_nat (j := 2) rfl, by decide, by decide⟩
  · exact ⟨_, atI_nat (j := 3) rfl, by decide, by decide⟩

section
variable {P : Program} {w : World} {K : PySem.W.Frag} {mg : Str → Option Value} {base : Heap}

def spPot (K : PySem.W.Frag) : Sp := fun vs H Q _ => ∃ (a : Addr) (ns : List Int) (k : Nat), vs = [.ref a, .int k] ∧ SqL K H a (ns.map V.int) ∧ k ≤ 1000 ∧
  ∀ H' p, Same H H' → H p = none → PotAt H' p 0 → Q (.ref p) H'
theorem ok_pot {f : Addr} {fd : FuncData} {k : Nat} (F : Fun K "_law_pot" "_law_pot" sPot f fd) (ml : mg "len" = none) (ma : mg "abs" = none) (mi : mg "int" = none) : FnOk P w K mg base CX0 (k + 1) f fd ["_law_script", "_law_k"] (spPot K) := by
  refine F.ok scPot (fun vs H Q E h => ?_) (fun cdv A outer s H vs Q E hr h => ?_)
  · obtain ⟨a, ns, k, rfl, _⟩ := h
    rfl
  · obtain ⟨a, ns, k, rfl, hS, hk, q⟩ := h
    refine ⟨_, pss_cons (ps_set (i := 2) scPot.nd rfl (.inl rfl) (pe_ifExp (pt_cmpR op_lt (pv 1) (pe_callB call_len_seq (by rfl) ml PySem.boot_len (pa_cons (pv 0) pa_nil)) (nomark _)) (pe_ix ix_list (pv 0) (pv 1) (fun _ _ => rfl)) (pe_op op_add (pe_op op_mul pe_int (pv 1)) pe_int)))
      (pss_cons (ps_set (i := 3) scPot.nd rfl (.inl rfl) (pe_op op_mul (pe_op op_mod (pe_callB call_abs (by rfl) ma (by decide +kernel) (pa_cons (pv 2) pa_nil)) (pe_op op_powW (pe_op op_pow pe_int pe_int) pe_int))
          (pe_callTy call_int1 (by rfl) mi (by decide +kernel) (pa_cons (pe_cmpR op_ge (pe_callB call_abs (by rfl) ma (by decide +kernel) (pa_cons (pv 2) pa_nil)) (pe_op op_pow pe_int pe_int) (nomark _)) pa_nil))))
      (pss_one (ps_ret (pe_lst (pa_cons (pv 3) (pa_cons (pe_op op_mod (pe_op op_mul (pe_op op_add (pe_op op_add (pe_op op_mod (pv 2) pe_int) (pe_op op_mul (pe_op op_mul pe_int (pv 1)) (pv 1))) pe_int) pe_int) pe_int) (pa_cons pe_int pa_nil))))))), ?_⟩
    have k1 : -(2 ^ 64) < (k : Int) ∧ (k : Int) < 2 ^ 64 := by omega
    have big : (0 : Int) < (10 ^ (60 : Int).toNat) ^ (5 : Int).toNat := by decide +kernel
    have one : ∀ b : Bool, -(2 ^ 64) < (if b = true then (1 : Int) else 0) ∧ (if b = true then (1 : Int) else 0) < 2 ^ 64 := fun b => by cases b <;> decide
    have nn : ∀ (x : Int) (b : Bool), 0 ≤ x % (10 ^ (60 : Int).toNat) ^ (5 : Int).toNat * (if b = true then (1 : Int) else 0) := fun x b => Int.mul_nonneg (Int.emod_nonneg _ (Int.ne_of_gt big)) (by cases b <;> decide)
    refine ⟨.int k, rfl, .ref a, rfl, a, _, rfl, .inl hS, _, _, rfl, rfl, _, rfl, ite2 (fun c => ?_) (fun c => ?_)⟩
    · have c' := of_decide_eq_true c
      rw [List.length_map] at c'
      have lt : k < ns.length := by omega
      refine ⟨.ref a, rfl, .int k, rfl, a, _, k, .int ns[k], rfl, rfl, hS, atI_nat (by rw [List.getElem?_map, List.getElem?_eq_getElem lt]; rfl), ?_⟩
      refine ⟨.int ns[k], rfl, _, rfl, 10, 60, rfl, rfl, ⟨by decide, by decide, by decide⟩, _, 5, rfl, rfl, ⟨by decide, by decide +kernel⟩, _, _, rfl, rfl, big, .int ns[k], rfl, _, rfl, 10, 18, rfl, rfl, ⟨by decide, by decide, by decide⟩, _, _, rfl, rfl, .inr ⟨_, rfl, _, _, rfl, rfl, .inr (one _), ?_⟩⟩
      refine ⟨_, rfl, .int ns[k], rfl, _, 2305843009213693951, rfl, rfl, (show (0 : Int) < 2305843009213693951 by decide), .int k, rfl, 7919, k, rfl, rfl, .inl ⟨by decide, by decide⟩, .int k, rfl, _, k, rfl, rfl, .inr k1, _, _, rfl, rfl, _, 17, rfl, rfl, _, 48271, rfl, rfl, .inr ⟨by decide, by decide⟩, _, 2305843009213693921, rfl, rfl, (show (0 : Int) < 2305843009213693921 by decide), (show 3 ≤ sizeLine by decide), fun p np => ?_⟩
      exact q _ p (same_new np) np ⟨_, _, 0, upd_same, nn _ _, Int.le_refl _, Int.le_refl _⟩
    · refine ⟨.int k, rfl, 7, _, rfl, rfl, .inl ⟨by decide, by decide⟩, _, 3, rfl, rfl, ?_⟩
      refine ⟨_, rfl, _, rfl, 10, 60, rfl, rfl, ⟨by decide, by decide, by decide⟩, _, 5, rfl, rfl, ⟨by decide, by decide +kernel⟩, _, _, rfl, rfl, big, _, rfl, _, rfl, 10, 18, rfl, rfl, ⟨by decide, by decide, by decide⟩, _, _, rfl, rfl, .inr ⟨_, rfl, _, _, rfl, rfl, .inr (one _), ?_⟩⟩
      refine ⟨_, rfl, _, rfl, _, 2305843009213693951, rfl, rfl, (show (0 : Int) < 2305843009213693951 by decide), .int k, rfl, 7919, k, rfl, rfl, .inl ⟨by decide, by decide⟩, .int k, rfl, _, k, rfl, rfl, .inr k1, _, _, rfl, rfl, _, 17, rfl, rfl, _, 48271, rfl, rfl, .inr ⟨by decide, by decide⟩, _, 2305843009213693921, rfl, rfl, (show (0 : Int) < 2305843009213693921 by decide), (show 3 ≤ sizeLine by decide), fun p np => ?_⟩
      exact q _ p (same_new np) np ⟨_, _, 0, upd_same, nn _ _, Int.le_refl _, Int.le_refl _⟩

/-- a drawn number -/
def spTake : Sp := fun vs H Q _ => ∃ (a : Addr) (m : Int) (c : Nat), vs = [.ref a, .int m] ∧ PotAt H a c ∧ 1 ≤ m ∧ m < 2 ^ 200 ∧ c < 1000000 ∧
  ∀ (d : Int) H', But a H H' → PotAt H' a (c + 1) → 0 ≤ d → d < m → Q (.int d) H'
theorem ok_take {f : Addr} {fd : FuncData} {k : Nat} (F : Fun K "_law_take" "_law_take" sTake f fd) : FnOk P w K mg base CX0 (k + 1) f fd ["_law_pot_here", "_law_many"] spTake := by
  refine F.ok scTake (fun vs H Q E h => ?_) (fun cdv A outer s H vs Q E hr h => ?_)
  · obtain ⟨a, m, c, rfl, _⟩ := h
    rfl
  · obtain ⟨a, m, c, rfl, ⟨p0, p1, p2, ea, n0, n2, l2⟩, m1, m2, hc, q⟩ := h
    refine ⟨_, pss_cons (ps_if (pt_cmpR op_gt (pe_ix ix_list (pv 0) pe_int (fun _ _ => rfl)) pe_int (nomark _))
        (pss_cons (ps_set (i := 2) scTake.nd rfl (.inl rfl) (pe_op op_mod (pe_ix ix_list (pv 0) pe_int (fun _ _ => rfl)) (pv 1)))
        (pss_cons (ps_asg (pe_op op_fdivW (pe_ix ix_list (pv 0) pe_int (fun _ _ => rfl)) (pv 1)) (pg_sub (pv 0) pe_int set_list))
        (pss_one (ps_ret (pv 2))))) pss_nil)
      (pss_cons (ps_asg (pe_op op_add (pe_ix ix_list (pv 0) pe_int (fun _ _ => rfl)) pe_int) (pg_sub (pv 0) pe_int set_list))
      (pss_cons (ps_set (i := 3) scTake.nd rfl (.inl rfl) (pe_ix ix_list (pe_lst (pa_cons pe_int (pa_cons pe_int (pa_cons pe_int (pa_cons pe_int pa_nil))))) (pe_op op_mod (pe_ix ix_list (pv 0) pe_int (fun _ _ => rfl)) pe_int) (fun _ _ => rfl)))
      (pss_cons (ps_set (i := 4) scTake.nd rfl (.inl rfl) (pe_op op_mod (pe_op op_add (pe_op op_add (pe_ix ix_list (pv 0) pe_int (fun _ _ => rfl)) (pe_op op_mul (pe_op op_mul pe_int (pe_ix ix_list (pv 0) pe_int (fun _ _ => rfl))) (pe_ix ix_list (pv 0) pe_int (fun _ _ => rfl)))) (pe_op op_mul pe_int (pe_ix ix_list (pv 0) pe_int (fun _ _ => rfl)))) (pv 3)))
      (pss_cons (ps_set (i := 4) scTake.nd rfl (.inl rfl) (pe_op op_mod (pe_op op_pow (pv 4) pe_int) (pv 3)))
      (pss_one (ps_ret (pe_op op_mod (pe_op op_add (pe_op op_fdiv (pv 4) pe_int) (pe_op op_mul (pe_op op_fdiv (pv 4) pe_int) pe_int)) (pv 1)))))))), ?_⟩
    have mpos : (0 : Int) < m := by omega
    refine ⟨.ref a, rfl, a, _, 0, .int p0, rfl, rfl, .inl (.inl ea), atI_nat (j := 0) rfl, _, 0, rfl, rfl, _, rfl, ite2 (fun _ => ?_) (fun _ => ?_)⟩
    · refine ⟨.ref a, rfl, a, _, 0, .int p0, rfl, rfl, .inl (.inl ea), atI_nat (j := 0) rfl, .int m, rfl, p0, m, rfl, rfl, mpos, ?_⟩
      refine ⟨.ref a, rfl, a, _, 0, .int p0, rfl, rfl, .inl (.inl ea), atI_nat (j := 0) rfl, .int m, rfl, p0, m, rfl, rfl, wide_div (b := 200) mpos (by omega) (by decide) (by decide), ?_⟩
      refine ⟨.ref a, rfl, a, _, 0, 0, rfl, rfl, ea, rfl, ?_⟩
      refine ⟨.int (p0 % m), rfl, ?_⟩
      refine q _ _ (but_at (fun _ _ _ e => e)) ⟨p0 / m, p1, p2, upd_same, Int.ediv_nonneg n0 (by omega), n2, by omega⟩ (Int.emod_nonneg _ (by omega)) (Int.emod_lt_of_pos _ mpos)
    · refine ⟨.ref a, rfl, a, _, 2, .int p2, rfl, rfl, .inl (.inl ea), atI_nat (j := 2) rfl, p2, 1, rfl, rfl, ?_⟩
      refine ⟨.ref a, rfl, a, _, 2, 2, rfl, rfl, ea, rfl, ?_⟩
      obtain ⟨pr, epr, pp, pl⟩ := prime_at ((p2 + 1) % 4) (Int.emod_nonneg _ (by decide)) (Int.emod_lt_of_pos _ (by decide))
      have ea2 : (upd H a (.lst [.int p0, .int p1, .int (p2 + 1)])) a = some (.lst [.int p0, .int p1, .int (p2 + 1)]) := upd_same
      refine ⟨(show 4 ≤ sizeLine by decide), fun l nl => ?_⟩
      have nla : a ≠ l := ne_of_none ea2 nl
      have ea3 : (upd (upd H a (.lst [.int p0, .int p1, .int (p2 + 1)])) l (.lst [V.int 2305843009213693951, V.int 999999999989, V.int 1000000000039, V.int 67280421310721])) a = some (.lst [.int p0, .int p1, .int (p2 + 1)]) := (upd_ne nla).trans ea2
      refine ⟨.ref a, rfl, a, _, 2, .int (p2 + 1), rfl, rfl, .inl (.inl ea3), atI_nat (j := 2) rfl, p2 + 1, 4, rfl, rfl, (show (0 : Int) < 4 by decide), l, _, (p2 + 1) % 4, .int pr, rfl, rfl, .inl (.inl upd_same), epr, ?_⟩
      have b2 : -(2 ^ 64) < p2 + 1 ∧ p2 + 1 < 2 ^ 64 := by omega
      refine ⟨.ref a, rfl, a, _, 1, .int p1, rfl, rfl, .inl (.inl ea3), atI_nat (j := 1) rfl, .ref a, rfl, a, _, 2, .int (p2 + 1), rfl, rfl, .inl (.inl ea3), atI_nat (j := 2) rfl, 7919, p2 + 1, rfl, rfl, .inl ⟨by decide, by decide⟩, .ref a, rfl, a, _, 2, .int (p2 + 1), rfl, rfl, .inl (.inl ea3), atI_nat (j := 2) rfl, _, p2 + 1, rfl, rfl, .inr b2, _, _, rfl, rfl,
        .ref a, rfl, a, _, 2, .int (p2 + 1), rfl, rfl, .inl (.inl ea3), atI_nat (j := 2) rfl, 65537, p2 + 1, rfl, rfl, .inl ⟨by decide, by decide⟩, _, _, rfl, rfl, .int pr, rfl, _, pr, rfl, rfl, pp, ?_⟩
      have mx : ∀ e : Int, (e % pr).natAbs < 2 ^ 64 := fun e => by
        have h1 := Int.emod_nonneg e (Int.ne_of_gt pp)
        have h2 := Int.emod_lt_of_pos e pp
        omega
      refine ⟨_, rfl, _, 5, rfl, rfl, ⟨by decide, by decide, mx _⟩, .int pr, rfl, _, pr, rfl, rfl, pp, ?_⟩
      refine ⟨_, rfl, _, 4099, rfl, rfl, ⟨by decide, by decide⟩, _, rfl, _, 1000003, rfl, rfl, ⟨by decide, by decide⟩, _, 7, rfl, rfl, .inr ⟨by decide, by decide⟩, _, _, rfl, rfl, .int m, rfl, _, m, rfl, rfl, mpos, ?_⟩
      refine q _ _ ?_ ⟨p0, p1, p2 + 1, ea3, n0, by omega, by omega⟩ (Int.emod_nonneg _ (by omega)) (Int.emod_lt_of_pos _ mpos)
      exact but_new (but_at (fun _ _ _ e => e)) (by rw [upd_ne nla.symm] at nl; exact nl)
end

/-- a def that is known by its promise -/
structure Kn (P : Program) (w : World) (K : PySem.W.Frag) (mg : Str → Option Value) (base : Heap) (k : Nat) (x : Str) (ps : List Str) (sp : Sp) (f : Addr) (fd : FuncData) : Prop where
  ok : FnOk P w K mg base CX0 k f fd ps sp
  gl : mg x = some (.ref f)
  kp : PySem.W.keepIn K (.ref f) = true
  bi : Binds K fd ps []
theorem pe_kn {X : Cx} {k j : Nat} {x : Str} {ps : List Str} {sp : Sp} {f : Addr} {fd : FuncData} {p pos : Pos} {e : Expr} {es : List Expr} {t : TA} (C : Kn X.prog X.w X.K X.mg X.base k x ps sp f fd) (hr : Room j X.A) (hj : k ≤ j) (ha : PA X (e :: es) t) (hg : Gl X x := by rfl) (hdb : (x == ("__debug__" : Str)) = false := by decide)
    (he : starEach (e :: es) X.env = (false, eval e X.env) :: starEach es X.env := by rfl) (hpl : (backTo pos (starEach es X.env)).any (·.1) = false := by rfl) :
    PE X (.Call (.Name x p) (e :: es) [] pos) (tCall sp [] E0 t) := pe_call C.ok (hr.mono hj) hg C.gl C.kp C.bi .nil pass0 ha hdb he hpl

theorem But.tupP {K : PySem.W.Frag} {a t : Addr} {H H' : Hp} {c : Nat} {xs : List V} (b : But a H H') (p : PotAt H a c) (q : SqT K H t xs) : SqT K H' t xs := by
  obtain ⟨_, _, _, e, _⟩ := p
  rcases q with (q | ⟨o, q⟩) | q
  · exact .inl (.inl (b _ _ (ne_of q e (by intro z; cases z)) q))
  · exact .inl (.inr ⟨o, b _ _ (ne_of q e (by intro z; cases z)) q⟩)
  · exact .inr q
/-- places, or tops -/
def Pl (xs : List Int) : Prop := ∀ x ∈ xs, 0 ≤ x ∧ x < 10 ^ 30
theorem Pl.snoc {xs : List Int} {x : Int} (h : Pl xs) (h0 : 0 ≤ x) (h1 : x < 10 ^ 30) : Pl (xs ++ [x]) := fun y hy => by
  rcases List.mem_append.mp hy with q | q
  · exact h y q
  · rw [List.mem_singleton.mp q]
    exact ⟨h0, h1⟩

section
variable {P : Program} {w : World} {K : PySem.W.Frag} {mg : Str → Option Value} {base : Heap}

/-- one of some -/
def spOf (K : PySem.W.Frag) : Sp := fun vs H Q _ => ∃ (a l : Addr) (xs : List V) (c : Nat), vs = [.ref a, .ref l] ∧ PotAt H a c ∧ l ≠ a ∧ (SqL K H l xs ∨ SqT K H l xs) ∧ 1 ≤ xs.length ∧ xs.length ≤ 1000000 ∧ c < 1000000 ∧
  ∀ x H', x ∈ xs → But a H H' → PotAt H' a (c + 1) → Q x H'
theorem ok_of {f fT : Addr} {fd fdT : FuncData} {k : Nat} (F : Fun K "_law_of" "_law_of" sOf f fd) (T : Kn P w K mg base 1 "_law_take" ["_law_pot_here", "_law_many"] spTake fT fdT) (ml : mg "len" = none) : FnOk P w K mg base CX0 (k + 2) f fd ["_law_pot_here", "_law_some"] (spOf K) := by
  refine F.ok scOf (fun vs H Q E h => ?_) (fun cdv A outer s H vs Q E hr h => ?_)
  · obtain ⟨a, l, xs, c, rfl, _⟩ := h
    rfl
  · obtain ⟨a, l, xs, c, rfl, pa, ne, hl, l1, l2, hc, q⟩ := h
    refine ⟨_, pss_one (ps_ret (pe_ix ix_seq (pv 1) (pe_kn T hr (Nat.le_add_left 1 k) (pa_cons (pv 0) (pa_cons (pe_callB call_len_seq (by rfl) ml PySem.boot_len (pa_cons (pv 1) pa_nil)) pa_nil))) (fun _ _ => rfl))), ?_⟩
    refine ⟨.ref l, rfl, .ref a, rfl, .ref l, rfl, l, xs, rfl, hl, a, _, c, rfl, pa, by omega, ?_, hc, fun d H' b p' d0 dm => ?_⟩
    · have : (xs.length : Int) ≤ 1000000 := by omega
      exact Int.lt_of_le_of_lt this (by decide)
    have lt : d.toNat < xs.length := by omega
    have ei : atI xs d = some xs[d.toNat] := by
      have := atI_nat (xs := xs) (j := d.toNat) (List.getElem?_eq_getElem lt)
      rwa [Int.toNat_of_nonneg d0] at this
    have fin := q xs[d.toNat] H' (List.getElem_mem lt) b p'
    rcases hl with h | h
    · exact .inl ⟨l, xs, d, _, rfl, rfl, b.seq ne h, ei, fin⟩
    · exact .inr (.inl ⟨l, xs, d, _, rfl, rfl, b.tup ne h, ei, fin⟩)

/-- none beyond its top -/
def Le (st tops : List Int) : Prop := ∀ (i : Nat) (x t : Int), st[i]? = some x → tops[i]? = some t → x ≤ t
theorem Le.snoc {st tops : List Int} {x t : Int} (h : Le st tops) (e : tops[st.length]? = some t) (l : x ≤ t) : Le (st ++ [x]) tops := fun i y u h1 h2 => by
  rcases Nat.lt_or_ge i st.length with q | q
  · rw [List.getElem?_append_left q] at h1
    exact h i y u h1 h2
  · rw [List.getElem?_append_right q] at h1
    have e0 : i - st.length = 0 := by
      rcases Nat.eq_zero_or_pos (i - st.length) with z | z
      · exact z
      · rw [List.getElem?_eq_none (by simp only [List.length_cons, List.length_nil]; omega)] at h1
        cases h1
    have ei : i = st.length := by omega
    subst ei
    rw [e0] at h1
    cases h1
    rw [e] at h2
    cases h2
    exact l
/-- a standing -/
def spStand (K : PySem.W.Frag) : Sp := fun vs H Q _ => ∃ (a t : Addr) (tops : List Int) (c : Nat), vs = [.ref a, .ref t] ∧ PotAt H a c ∧ SqT K H t (tops.map V.int) ∧ Pl tops ∧ tops.length ≤ 12 ∧ c < 900000 ∧
  ∀ H' p st, But a H H' → PotAt H' a (c + 12) → H p = none → H' p = some (.tup (st.map V.int)) → st.length = tops.length → Pl st → Le st tops → Q (.ref p) H'
theorem ok_stand {f fT : Addr} {fd fdT : FuncData} {k : Nat} (F : Fun K "_law_standing" "_law_standing" sStand f fd) (T : Kn P w K mg base 1 "_law_take" ["_law_pot_here", "_law_many"] spTake fT fdT) (mt : mg "tuple" = none) : FnOk P w K mg base CX0 (k + 2) f fd ["_law_pot_here", "_law_tops"] (spStand K) := by
  refine F.ok scStand (fun vs H Q E h => ?_) (fun cdv A outer s H vs Q E hr h => ?_)
  · obtain ⟨a, t, tops, c, rfl, _⟩ := h
    rfl
  · obtain ⟨a, t, tops, c, rfl, pa, ht, pl, l12, hc, q⟩ := h
    refine ⟨_, pss_one (ps_ret (pe_callTy call_tuple_of (by rfl) mt (by decide +kernel) (pa_cons
      (pe_lc (own := [("_law_top", 2)]) (g := gName 2) (tt := tYes) rfl scStand.nd (pi_tup (pv 1)) (blkOk_by (N := ["_law_pot_here", "_law_tops", "_law_top"]) (sc := defScope sStand) (by decide +kernel))
        (fun _ _ _ _ _ => pg_name (i := 2) scStand.nd rfl (.inl rfl) (hf := .inr rfl)) (fun _ _ _ _ _ => pts_nil)
        (fun _ _ _ _ _ => pe_kn T hr (Nat.le_add_left 1 k) (pa_cons (pv 0) (pa_cons (pe_op op_add (pv 2) pe_int) pa_nil)))) pa_nil))), ?_⟩
    refine ⟨.ref t, rfl, t, rfl, ⟨_, ht⟩, fun D nD => lc_it (walk_tup (xs := tops.map V.int)) (fun i H' => But a H H' ∧ PotAt H' a (c + i) ∧ ∃ st : List Int, H' D = some (.lst (st.map V.int)) ∧ st.length = i ∧ Pl st ∧ Le st tops)
      ⟨but_new (fun _ _ _ e => e) nD, pa.keep (same_new nD), [], upd_same, rfl, fun _ h => absurd h List.not_mem_nil, fun i x t h => by simp at h⟩ (fun i H' _ p => p.1.tupP pa ht) (fun i v H1 H2 hi p y => ?_) (fun H' p => ?_)⟩
    · obtain ⟨b, p1, st, eD, sl, sp, sle⟩ := p
      obtain ⟨rfl, gv⟩ := y
      obtain ⟨x, ex, rfl⟩ := mapGet gv
      have hx := pl x (List.mem_of_getElem? ex)
      have hi' : i < tops.length := by simpa using hi
      refine ⟨rfl, .ref a, rfl, .int x, rfl, x, 1, rfl, rfl, a, x + 1, c + i, rfl, p1, by omega, ?_, by omega, fun d H3 b3 p3 d0 dm => ?_⟩
      · have : x + 1 ≤ 10 ^ 30 := by omega
        exact Int.lt_of_le_of_lt this (by decide)
      have nDa : D ≠ a := pa.ne nD
      refine ⟨_, b3 _ _ nDa eD, ?_, but_new (b.trans b3) nD, ?_, st ++ [d], ?_, ?_, sp.snoc d0 (by omega), sle.snoc (by rw [sl]; exact ex) (by omega)⟩
      · rw [List.length_map]
        exact small1000 (by omega)
      · obtain ⟨u, v, r, e, z⟩ := p3
        exact ⟨u, v, r, (upd_ne nDa.symm).trans e, z⟩
      · rw [upd_same, List.map_append]
        rfl
      · rw [List.length_append, sl]
        rfl
    · obtain ⟨b, p1, st, eD, sl, sp, sle⟩ := p
      rw [List.length_map] at p1 sl
      refine ⟨D, _, rfl, .inl ⟨.inl (.inl eD), fun l nl => ?_⟩⟩
      have nla : l ≠ a := p1.ne nl
      have nlH : H l = none := b.free nla nl
      refine q _ l st (but_new b nlH) (((p1.mono (by omega)).keep (same_new nl))) nlH upd_same sl sp sle
end

section
variable {P : Program} {w : World} {K : PySem.W.Frag} {mg : Str → Option Value} {base : Heap}

theorem pot_upd {H : Hp} {a p : Addr} {c : Nat} {o : HO} (h : PotAt H a c) (n : p ≠ a) : PotAt (upd H p o) a c := by
  obtain ⟨x, y, z, e, r⟩ := h
  exact ⟨x, y, z, (upd_ne n.symm).trans e, r⟩
theorem e15 : (10 : Int) ^ (15 : Int).toNat = 1000000000000000 := by decide
theorem e30 : (10 : Int) ^ (30 : Int).toNat = 10 ^ 30 := by decide

end
end K49

set_option Elab.async false
set_option linter.all false
set_option maxRecDepth 100000
namespace K49
open PySem PySem.Spec PyProof.Rows L2 NB

/-! ### what stands though lists change -/
/-- all but lists stands -/
def Keep (H H' : Hp) : Prop := ∀ b o, (∀ xs, o ≠ .lst xs) → H b = some o → H' b = some o
theorem Keep.refl (H : Hp) : Keep H H := fun _ _ _ e => e
theorem Keep.trans {H H1 H2 : Hp} (a : Keep H H1) (b : Keep H1 H2) : Keep H H2 := fun c o n e => b c o n (a c o n e)
theorem Keep.same {H H' : Hp} (h : Same H H') : Keep H H' := fun b o _ e => h b o e
theorem Keep.but {a : Addr} {H H' : Hp} {c : Nat} (h : But a H H') (p : PotAt H a c) : Keep H H' := fun b o n e => by
  obtain ⟨x, y, z, ea, _⟩ := p
  exact h b o (fun q => n _ (by rw [q, ea] at e; exact (Option.some.inj e).symm)) e
theorem Keep.upd {H : Hp} {l : Addr} {o : HO} {xs : List V} (e : H l = some (.lst xs)) : Keep H (upd H l o) := fun b x n q => by
  rw [upd_ne (fun z => n xs (by rw [z, e] at q; exact (Option.some.inj q).symm))]
  exact q
theorem Keep.tup {H H' : Hp} {p : Addr} {xs : List V} (k : Keep H H') (e : H p = some (.tup xs)) : H' p = some (.tup xs) := k _ _ (fun _ q => by cases q) e
theorem Keep.sq {K : PySem.W.Frag} {H H' : Hp} {p : Addr} {xs : List V} (k : Keep H H') (e : SqT K H p xs) : SqT K H' p xs := by
  rcases e with (q | ⟨o, q⟩) | q
  · exact .inl (.inl (k _ _ (fun _ q => by cases q) q))
  · exact .inl (.inr ⟨o, k _ _ (fun _ q => by cases q) q⟩)
  · exact .inr q

/-! ### sides, rules, plans as data and as objects -/
abbrev Sd := Nat × Bool × Int
abbrev Rl := Sd × Sd
def word (b : Bool) : Str := if b then "from" else "to"
def SideAt (H : Hp) (p : Addr) (s : Sd) : Prop := H p = some (.tup [.int s.1, .str (word s.2.1), .int s.2.2])
def RuleAt (H : Hp) (r : Addr) (q : Rl) : Prop := ∃ p1 p2, H r = some (.tup [.ref p1, .ref p2]) ∧ SideAt H p1 q.1 ∧ SideAt H p2 q.2
def RulesAt (H : Hp) (R : Addr) (rs : List Rl) : Prop := ∃ as : List Addr, H R = some (.tup (as.map V.ref)) ∧ as.length = rs.length ∧ ∀ (i : Nat) (r : Addr) (q : Rl), as[i]? = some r → rs[i]? = some q → RuleAt H r q
def PlanAt (C : Addr) (H : Hp) (x : Addr) (tops : List Int) (rs : List Rl) : Prop := ∃ dx t R, H x = some (.ins C dx [("tops", .ref t), ("rules", .ref R)]) ∧ H t = some (.tup (tops.map V.int)) ∧ RulesAt H R rs
theorem SideAt.keep {H H' : Hp} {p : Addr} {s : Sd} (h : SideAt H p s) (k : Keep H H') : SideAt H' p s := k.tup h
theorem RuleAt.keep {H H' : Hp} {p : Addr} {q : Rl} (h : RuleAt H p q) (k : Keep H H') : RuleAt H' p q := by
  obtain ⟨p1, p2, e, h1, h2⟩ := h
  exact ⟨p1, p2, k.tup e, h1.keep k, h2.keep k⟩
theorem RulesAt.keep {H H' : Hp} {R : Addr} {rs : List Rl} (h : RulesAt H R rs) (k : Keep H H') : RulesAt H' R rs := by
  obtain ⟨as, e, l, a⟩ := h
  exact ⟨as, k.tup e, l, fun i r q h1 h2 => (a i r q h1 h2).keep k⟩
theorem PlanAt.keep {C : Addr} {H H' : Hp} {x : Addr} {tops : List Int} {rs : List Rl} (h : PlanAt C H x tops rs) (k : Keep H H') : PlanAt C H' x tops rs := by
  obtain ⟨dx, t, R, e, et, er⟩ := h
  exact ⟨dx, t, R, k _ _ (fun _ q => by cases q) e, k.tup et, er.keep k⟩
/-- a side of the plan -/
def SideOk (tops : List Int) (s : Sd) : Prop := ∃ t, tops[s.1]? = some t ∧ 0 ≤ s.2.2 ∧ s.2.2 ≤ t
def RuleOk (tops : List Int) (q : Rl) : Prop := SideOk tops q.1 ∧ SideOk tops q.2
theorem word_in (b : Bool) : inV (.str (word b)) [.str "from", .str "to"] = true := by cases b <;> decide +kernel
theorem word_from : word true = "from" := rfl

abbrev kWhole : Stmt := topS 5
abbrev kPlace : Stmt := topS 6
abbrev kTops : Stmt := topS 7
abbrev kSide : Stmt := topS 8
abbrev kSides : Stmt := topS 9
abbrev kRule : Stmt := topS 10
abbrev kRules : Stmt := topS 11
abbrev kInit : Stmt := inClass (topS 49) 0
theorem scWhole : FnScope ["thing"] ["thing"] (defScope kWhole) := ⟨rfl, rfl, rfl, by decide +kernel, rfl, by decide +kernel, by decide +kernel⟩
theorem scPlace : FnScope ["top", "thing"] ["top", "thing"] (defScope kPlace) := ⟨rfl, rfl, rfl, by decide +kernel, rfl, by decide +kernel, by decide +kernel⟩
theorem scTops : FnScope ["thing", "top"] ["thing"] (defScope kTops) := ⟨rfl, rfl, rfl, by decide +kernel, rfl, by decide +kernel, by decide +kernel⟩
theorem scSide : FnScope ["tops", "thing", "number", "word", "place"] ["tops", "thing"] (defScope kSide) := ⟨rfl, rfl, rfl, by decide +kernel, rfl, by decide +kernel, by decide +kernel⟩
theorem scSides : FnScope ["tops", "thing", "side"] ["tops", "thing"] (defScope kSides) := ⟨rfl, rfl, rfl, by decide +kernel, rfl, by decide +kernel, by decide +kernel⟩
theorem scRule : FnScope ["tops", "thing"] ["tops", "thing"] (defScope kRule) := ⟨rfl, rfl, rfl, by decide +kernel, rfl, by decide +kernel, by decide +kernel⟩
theorem scRules : FnScope ["tops", "thing", "rule"] ["tops", "thing"] (defScope kRules) := ⟨rfl, rfl, rfl, by decide +kernel, rfl, by decide +kernel, by decide +kernel⟩
theorem scInit : FnScope ["self", "tops", "rules"] ["self", "tops", "rules"] (defScope kInit) := ⟨rfl, rfl, rfl, by decide +kernel, rfl, by decide +kernel, by decide +kernel⟩

section
variable {P : Program} {w : World} {K : PySem.W.Frag} {mg : Str → Option Value} {base : Heap}

def spWhole : Sp := fun vs H Q _ => ∃ i : Int, vs = [.int i] ∧ Q (.bl true) H
theorem ok_whole {f : Addr} {fd : FuncData} {k : Nat} (F : Fun K "is_whole" "is_whole" kWhole f fd) (ms : mg "isinstance" = none) (mi : mg "int" = none) (mb : mg "bool" = none) : FnOk P w K mg base CX0 (k + 1) f fd ["thing"] spWhole := by
  refine F.ok scWhole (fun vs H Q E h => ?_) (fun cdv A outer s H vs Q E hr h => ?_)
  · obtain ⟨i, rfl, _⟩ := h
    rfl
  · obtain ⟨i, rfl, q⟩ := h
    refine ⟨_, pss_one (ps_ret (pe_and (pe_callB call_isi (by rfl) ms (by decide +kernel) (pa_cons (pv 0) (pa_cons (pe_bltn (v := .ty "int") (u := .type "int") (by rfl) mi (by decide +kernel) rfl) pa_nil)))
      (pe_one (pe_not (pe_callB call_isi (by rfl) ms (by decide +kernel) (pa_cons (pv 0) (pa_cons (pe_bltn (v := .ty "bool") (u := .type "bool") (by rfl) mb (by decide +kernel) rfl) pa_nil))))))), ?_⟩
    refine ⟨.int i, rfl, _, _, _, _, true, rfl, .ty "int", .base (.int i), kit_ty (by decide +kernel), true, rfl, iteT ?_⟩
    exact ⟨.int i, rfl, _, _, _, _, false, rfl, .ty "bool", .base (.int i), kit_ty (by decide +kernel), false, rfl, q⟩

def spPlace : Sp := fun vs H Q _ => ∃ t i : Int, vs = [.int t, .int i] ∧ Q (.bl (decide (0 ≤ i) && decide (i ≤ t))) H
theorem ok_place {f fW : Addr} {fd fdW : FuncData} {k : Nat} (F : Fun K "is_place" "is_place" kPlace f fd) (W : Kn P w K mg base 1 "is_whole" ["thing"] spWhole fW fdW) : FnOk P w K mg base CX0 (k + 2) f fd ["top", "thing"] spPlace := by
  refine F.ok scPlace (fun vs H Q E h => ?_) (fun cdv A outer s H vs Q E hr h => ?_)
  · obtain ⟨t, i, rfl, _⟩ := h
    rfl
  · obtain ⟨t, i, rfl, q⟩ := h
    refine ⟨_, pss_one (ps_ret (pe_and (pe_kn W hr (by omega) (pa_cons (pv 1) pa_nil)) (pe_one (pe_chain op_le op_le pe_int (pv 1) (pv 0))))), ?_⟩
    refine ⟨.int i, rfl, i, rfl, true, rfl, iteT ?_⟩
    refine ⟨.int i, rfl, 0, i, rfl, rfl, _, rfl, ite2 (fun c => ?_) (fun c => ?_)⟩
    · rw [show decide (0 ≤ i) = true from c, Bool.true_and] at q
      exact ⟨.int t, rfl, i, t, rfl, rfl, q⟩
    · rw [Bool.eq_false_iff.mpr c, Bool.false_and] at q
      exact q

def spTops (K : PySem.W.Frag) : Sp := fun vs H Q _ => ∃ (a : Addr) (tops : List Int), vs = [.ref a] ∧ H a = some (.tup (tops.map V.int)) ∧ 1 ≤ tops.length ∧ tops.length ≤ 12 ∧ Pl tops ∧ ∀ H', Same H H' → Q (.bl true) H'
theorem ok_tops {f fP : Addr} {fd fdP : FuncData} {k : Nat} {t1 t2 : Tok} (F : Fun K "are_tops" "are_tops" kTops f fd) (Pc : Kn P w K mg base 2 "is_place" ["top", "thing"] spPlace fP fdP) (ms : mg "isinstance" = none) (mt : mg "tuple" = none) (ml : mg "len" = none) (ma : mg "all" = none)
    (g1 : mg "MOST_THINGS" = some (.int 12 t1)) (g2 : mg "BEYOND_THIRTY_FIGURES" = some (.int 1000000000000000000000000000000 t2)) : FnOk P w K mg base CX0 (k + 3) f fd ["thing"] (spTops K) := by
  refine F.ok scTops (fun vs H Q E h => ?_) (fun cdv A outer s H vs Q E hr h => ?_)
  · obtain ⟨a, tops, rfl, _⟩ := h
    rfl
  · obtain ⟨a, tops, rfl, ea, l1, l12, pl, q⟩ := h
    refine ⟨_, pss_cons (ps_if (PW.pt (pw_or (pt_not (pt_val (pe_callB call_isi (by rfl) ms (by decide +kernel) (pa_cons (pv 0) (pa_cons (pe_bltn (v := .ty "tuple") (u := .type "tuple") (by rfl) mt (by decide +kernel) rfl) pa_nil)))))
        (pw_or1 (pt_not (pt_chain op_le op_le pe_int (pe_callB call_len_seq (by rfl) ml PySem.boot_len (pa_cons (pv 0) pa_nil)) (pe_glob (v := .int 12) rfl g1 ⟨_, rfl⟩)))))) (pss_one (ps_ret pe_bl)) pss_nil)
      (pss_one (ps_ret (pe_callB (cr_all rfl) (by rfl) ma (by decide +kernel) (pa_cons
        (pe_lc (own := [("top", 1)]) (g := gName 1) (tt := tYes) (te := tCall spPlace [] E0 (tCons (tOp (rI0 fun i j => .int (i - j)) (tC (.int 1000000000000000000000000000000)) (tC (.int 1))) (tCons (tVar 1) tNil))) rfl scTops.nd (pi_tup (pv 0)) (blkOk_by (N := ["thing", "top"]) (sc := defScope kTops) (by decide +kernel))
          (fun _ _ _ _ _ => pg_name (i := 1) scTops.nd rfl (.inl rfl) (hf := .inr rfl)) (fun _ _ _ _ _ => pts_nil)
          (fun _ _ _ _ _ => pe_kn Pc hr (by omega) (pa_cons (pe_op op_sub (pe_glob (v := .int 1000000000000000000000000000000) rfl g2 ⟨_, rfl⟩) pe_int) (pa_cons (pv 1) pa_nil)))) pa_nil)))), ?_⟩
    refine ⟨.ref a, rfl, _, _, _, _, true, rfl, .ty "tuple", .base (.tup ea), kit_ty (by decide +kernel), true, rfl, iteF ?_⟩
    refine ⟨.ref a, rfl, a, _, rfl, .inr (.inl (.inl ea)), 1, _, rfl, rfl, true, ?_, iteT ⟨_, 12, rfl, rfl, true, ?_, iteF ?_⟩⟩
    · rw [List.length_map]
      exact congrArg V.bl (decide_eq_true (by omega))
    · rw [List.length_map]
      exact congrArg V.bl (decide_eq_true (by omega))
    refine ⟨.ref a, rfl, a, rfl, ⟨_, .inl (.inl ea)⟩, fun D nD => lc_it (walk_tup (xs := tops.map V.int)) (fun i H' => Same H H' ∧ H' D = some (.lst ((List.replicate i true).map V.bl))) ⟨same_new nD, upd_same⟩ (fun i H' _ p => .inl (.inl (p.1 _ _ ea))) (fun i v H1 H2 hi p y => ?_) (fun H' p => ?_)⟩
    · obtain ⟨sm, eD⟩ := p
      obtain ⟨rfl, gv⟩ := y
      obtain ⟨x, ex, rfl⟩ := mapGet gv
      have hx := pl x (List.mem_of_getElem? ex)
      have hi' : i < tops.length := by simpa using hi
      refine ⟨rfl, _, _, rfl, rfl, .int x, rfl, _, x, rfl, _, eD, by rw [List.length_map, List.length_replicate]; exact small1000 (by omega), same_over sm nD, ?_⟩
      rw [upd_same, decide_eq_true hx.1, decide_eq_true (show x ≤ 1000000000000000000000000000000 - 1 by have := hx.2; omega), List.replicate_succ', List.map_append]
      rfl
    · obtain ⟨sm, eD⟩ := p
      refine ⟨D, _, rfl, .inl (.inl eD), ?_⟩
      rw [show (List.replicate (tops.map V.int).length true).all id = true by simp]
      exact q H' sm

def spSide (K : PySem.W.Frag) : Sp := fun vs H Q _ => ∃ (t p : Addr) (tops : List Int) (sd : Sd), vs = [.ref t, .ref p] ∧ H t = some (.tup (tops.map V.int)) ∧ SideAt H p sd ∧ SideOk tops sd ∧ Q (.bl true) H
theorem ok_side {f fP wa : Addr} {fd fdP : FuncData} {k : Nat} (F : Fun K "is_side_of" "is_side_of" kSide f fd) (Pc : Kn P w K mg base 2 "is_place" ["top", "thing"] spPlace fP fdP) (ms : mg "isinstance" = none) (mt : mg "tuple" = none) (ml : mg "len" = none) (mr : mg "str" = none)
    (g1 : mg "WORDS" = some (.ref wa)) (hW : ∀ H, SqT K H wa [.str "from", .str "to"]) : FnOk P w K mg base CX0 (k + 3) f fd ["tops", "thing"] (spSide K) := by
  refine F.ok scSide (fun vs H Q E h => ?_) (fun cdv A outer s H vs Q E hr h => ?_)
  · obtain ⟨t, p, tops, sd, rfl, _⟩ := h
    rfl
  · obtain ⟨t, p, tops, ⟨n, b, pl⟩, rfl, et, ep, ⟨tp, eg, p0, p1⟩, q⟩ := h
    have ep' : H p = some (.tup [.int (n : Int), .str (word b), .int pl]) := ep
    have hn : n < tops.length := (List.getElem?_eq_some_iff.mp eg).1
    refine ⟨_, pss_cons (ps_if (PW.pt (pw_or (pt_not (pt_val (pe_callB call_isi (by rfl) ms (by decide +kernel) (pa_cons (pv 1) (pa_cons (pe_bltn (v := .ty "tuple") (u := .type "tuple") (by rfl) mt (by decide +kernel) rfl) pa_nil)))))
        (pw_or1 (pt_cmpR op_ne (pe_callB call_len_seq (by rfl) ml PySem.boot_len (pa_cons (pv 1) pa_nil)) pe_int (nomark _))))) (pss_one (ps_ret pe_bl)) pss_nil)
      (pss_cons (ps_asg (pv 1) (pg_tup (by rfl) (pgs_cons (pg_name (i := 2) scSide.nd rfl (.inl rfl)) (pgs_cons (pg_name (i := 3) scSide.nd rfl (.inl rfl)) (pgs_cons (pg_name (i := 4) scSide.nd rfl (.inl rfl)) pgs_nil)))))
      (pss_cons (ps_if (pt_not (pt_val (pe_kn Pc hr (by omega) (pa_cons (pe_op op_sub (pe_callB call_len_seq (by rfl) ml PySem.boot_len (pa_cons (pv 0) pa_nil)) pe_int) (pa_cons (pv 2) pa_nil))))) (pss_one (ps_ret pe_bl)) pss_nil)
      (pss_one (ps_ret (pe_and (pe_callB call_isi (by rfl) ms (by decide +kernel) (pa_cons (pv 3) (pa_cons (pe_bltn (v := .ty "str") (u := .type "str") (by rfl) mr (by decide +kernel) rfl) pa_nil)))
        (pe_and (pe_cmpR op_in_seq (pv 3) (pe_glob (v := .ref wa) rfl g1 rfl) (by rfl)) (pe_one (pe_kn Pc hr (by omega) (pa_cons (pe_ix ix_tup (pv 0) (pv 2) (fun _ _ => rfl)) (pa_cons (pv 4) pa_nil)))))))))), ?_⟩
    refine ⟨.ref p, rfl, _, _, _, _, true, rfl, .ty "tuple", .base (.tup ep'), kit_ty (by decide +kernel), true, rfl, iteF ?_⟩
    refine ⟨.ref p, rfl, p, _, rfl, .inr (.inl (.inl ep')), rfl, _, rfl, iteNS rfl ?_⟩
    refine ⟨.ref p, rfl, p, _, rfl, .inl (.inl ep'), rfl, _, _, rfl, _, _, rfl, _, _, rfl, rfl, ?_⟩
    refine ⟨.ref t, rfl, t, _, rfl, .inr (.inl (.inl et)), _, 1, rfl, rfl, .int n, rfl, _, n, rfl, true, ?_, iteF ?_⟩
    · rw [List.length_map, decide_eq_true (show (0 : Int) ≤ n by omega), decide_eq_true (show (n : Int) ≤ tops.length - 1 by omega)]
      rfl
    refine ⟨_, rfl, _, _, _, _, true, rfl, .ty "str", .base (.str _), kit_ty (by decide +kernel), true, rfl, iteT ?_⟩
    refine ⟨_, rfl, wa, _, rfl, .inr (hW H), rfl, by decide +kernel, true, ?_, iteT ?_⟩
    · rw [word_in]
      rfl
    refine ⟨.ref t, rfl, .int n, rfl, t, _, n, .int tp, rfl, rfl, .inl (.inl et), atI_nat (by rw [List.getElem?_map, eg]; rfl), .int pl, rfl, tp, pl, rfl, ?_⟩
    rw [decide_eq_true p0, decide_eq_true p1]
    exact q

/-- a run of truths that a comprehension makes -/
theorem all_true (n : Nat) : (List.replicate n true).all id = true := by simp
theorem more_true (n : Nat) : (List.replicate (n + 1) true).map V.bl = (List.replicate n true).map V.bl ++ [V.bl true] := by
  rw [List.replicate_succ', List.map_append]
  rfl

def spSides (K : PySem.W.Frag) : Sp := fun vs H Q _ => ∃ (t r : Addr) (tops : List Int) (as : List Addr), vs = [.ref t, .ref r] ∧ H t = some (.tup (tops.map V.int)) ∧ H r = some (.tup (as.map V.ref)) ∧ as.length ≤ 100 ∧ (∀ p ∈ as, ∃ sd, SideAt H p sd ∧ SideOk tops sd) ∧ ∀ H', Same H H' → Q (.bl true) H'
theorem ok_sides {f fP : Addr} {fd fdP : FuncData} {k : Nat} (F : Fun K "are_sides_of" "are_sides_of" kSides f fd) (Si : Kn P w K mg base 3 "is_side_of" ["tops", "thing"] (spSide K) fP fdP) (ms : mg "isinstance" = none) (mt : mg "tuple" = none) (ma : mg "all" = none) : FnOk P w K mg base CX0 (k + 4) f fd ["tops", "thing"] (spSides K) := by
  refine F.ok scSides (fun vs H Q E h => ?_) (fun cdv A outer s H vs Q E hr h => ?_)
  · obtain ⟨t, r, tops, as, rfl, _⟩ := h
    rfl
  · obtain ⟨t, r, tops, as, rfl, et, er, l, ok, q⟩ := h
    refine ⟨_, pss_one (ps_ret (pe_and (pe_callB call_isi (by rfl) ms (by decide +kernel) (pa_cons (pv 1) (pa_cons (pe_bltn (v := .ty "tuple") (u := .type "tuple") (by rfl) mt (by decide +kernel) rfl) pa_nil)))
      (pe_one (pe_callB (cr_all rfl) (by rfl) ma (by decide +kernel) (pa_cons
        (pe_lc (own := [("side", 2)]) (g := gName 2) (tt := tYes) (te := tCall (spSide K) [] E0 (tCons (tVar 0) (tCons (tVar 2) tNil))) rfl scSides.nd (pi_tup (pv 1)) (blkOk_by (N := ["tops", "thing", "side"]) (sc := defScope kSides) (by decide +kernel))
          (fun _ _ _ _ _ => pg_name (i := 2) scSides.nd rfl (.inl rfl) (hf := .inr rfl)) (fun _ _ _ _ _ => pts_nil)
          (fun _ _ _ _ _ => pe_kn Si hr (by omega) (pa_cons (pv 0) (pa_cons (pv 2) pa_nil)))) pa_nil))))), ?_⟩
    refine ⟨.ref r, rfl, _, _, _, _, true, rfl, .ty "tuple", .base (.tup er), kit_ty (by decide +kernel), true, rfl, iteT ?_⟩
    refine ⟨.ref r, rfl, r, rfl, ⟨_, .inl (.inl er)⟩, fun D nD => lc_it (walk_tup (xs := as.map V.ref)) (fun i H' => Same H H' ∧ H' D = some (.lst ((List.replicate i true).map V.bl))) ⟨same_new nD, upd_same⟩ (fun i H' _ p => .inl (.inl (p.1 _ _ er))) (fun i v H1 H2 hi p y => ?_) (fun H' p => ?_)⟩
    · obtain ⟨sm, eD⟩ := p
      obtain ⟨rfl, gv⟩ := y
      obtain ⟨x, ex, rfl⟩ := mapGet gv
      have hi' : i < as.length := by simpa using hi
      obtain ⟨sd, a1, a2⟩ := ok x (List.mem_of_getElem? ex)
      refine ⟨rfl, .ref t, rfl, .ref x, rfl, t, x, tops, sd, rfl, sm _ _ et, a1.keep (.same sm), a2, _, eD, by rw [List.length_map, List.length_replicate]; exact small1000 (by omega), same_over sm nD, ?_⟩
      rw [upd_same, more_true]
    · obtain ⟨sm, eD⟩ := p
      refine ⟨D, _, rfl, .inl (.inl eD), ?_⟩
      rw [all_true]
      exact q H' sm

def spRule (K : PySem.W.Frag) : Sp := fun vs H Q _ => ∃ (t r : Addr) (tops : List Int) (rl : Rl), vs = [.ref t, .ref r] ∧ H t = some (.tup (tops.map V.int)) ∧ RuleAt H r rl ∧ RuleOk tops rl ∧ ∀ H', Same H H' → Q (.bl true) H'
theorem ok_rule {f fP : Addr} {fd fdP : FuncData} {k : Nat} (F : Fun K "is_rule_of" "is_rule_of" kRule f fd) (Ss : Kn P w K mg base 4 "are_sides_of" ["tops", "thing"] (spSides K) fP fdP) (ml : mg "len" = none) : FnOk P w K mg base CX0 (k + 5) f fd ["tops", "thing"] (spRule K) := by
  refine F.ok scRule (fun vs H Q E h => ?_) (fun cdv A outer s H vs Q E hr h => ?_)
  · obtain ⟨t, r, tops, rl, rfl, _⟩ := h
    rfl
  · obtain ⟨t, r, tops, rl, rfl, et, ⟨p1, p2, er, h1, h2⟩, ok, q⟩ := h
    refine ⟨_, pss_one (ps_ret (pe_and (pe_kn Ss hr (by omega) (pa_cons (pv 0) (pa_cons (pv 1) pa_nil))) (pe_one (pe_cmpR op_eq (pe_callB call_len_seq (by rfl) ml PySem.boot_len (pa_cons (pv 1) pa_nil)) pe_int (nomark _))))), ?_⟩
    refine ⟨.ref t, rfl, .ref r, rfl, t, r, tops, [p1, p2], rfl, et, er, (show 2 ≤ 100 by decide), fun p hp => ?_, fun H' sm => ⟨true, rfl, iteT ?_⟩⟩
    · simp only [List.mem_cons, List.not_mem_nil, or_false] at hp
      rcases hp with e | e <;> rw [e]
      · exact ⟨_, h1, ok.1⟩
      · exact ⟨_, h2, ok.2⟩
    · exact ⟨.ref r, rfl, r, _, rfl, .inr (.inl (.inl (sm _ _ er))), rfl, q H' sm⟩

def spRules (K : PySem.W.Frag) : Sp := fun vs H Q _ => ∃ (t R : Addr) (tops : List Int) (rs : List Rl), vs = [.ref t, .ref R] ∧ H t = some (.tup (tops.map V.int)) ∧ RulesAt H R rs ∧ rs.length ≤ 40 ∧ (∀ q ∈ rs, RuleOk tops q) ∧ ∀ H', Same H H' → Q (.bl true) H'
theorem ok_rules {f fP : Addr} {fd fdP : FuncData} {k : Nat} {t1 : Tok} (F : Fun K "are_rules_of" "are_rules_of" kRules f fd) (Ru : Kn P w K mg base 5 "is_rule_of" ["tops", "thing"] (spRule K) fP fdP) (ms : mg "isinstance" = none) (mt : mg "tuple" = none) (ml : mg "len" = none) (ma : mg "all" = none)
    (g1 : mg "MOST_RULES" = some (.int 40 t1)) : FnOk P w K mg base CX0 (k + 6) f fd ["tops", "thing"] (spRules K) := by
  refine F.ok scRules (fun vs H Q E h => ?_) (fun cdv A outer s H vs Q E hr h => ?_)
  · obtain ⟨t, R, tops, rs, rfl, _⟩ := h
    rfl
  · obtain ⟨t, R, tops, rs, rfl, et, ⟨as, eR, la, ha⟩, l40, ok, q⟩ := h
    refine ⟨_, pss_cons (ps_if (PW.pt (pw_or (pt_not (pt_val (pe_callB call_isi (by rfl) ms (by decide +kernel) (pa_cons (pv 1) (pa_cons (pe_bltn (v := .ty "tuple") (u := .type "tuple") (by rfl) mt (by decide +kernel) rfl) pa_nil)))))
        (pw_or1 (pt_cmpR op_gt (pe_callB call_len_seq (by rfl) ml PySem.boot_len (pa_cons (pv 1) pa_nil)) (pe_glob (v := .int 40) rfl g1 ⟨_, rfl⟩) (nomark _))))) (pss_one (ps_ret pe_bl)) pss_nil)
      (pss_one (ps_ret (pe_callB (cr_all rfl) (by rfl) ma (by decide +kernel) (pa_cons
        (pe_lc (own := [("rule", 2)]) (g := gName 2) (tt := tYes) (te := tCall (spRule K) [] E0 (tCons (tVar 0) (tCons (tVar 2) tNil))) rfl scRules.nd (pi_tup (pv 1)) (blkOk_by (N := ["tops", "thing", "rule"]) (sc := defScope kRules) (by decide +kernel))
          (fun _ _ _ _ _ => pg_name (i := 2) scRules.nd rfl (.inl rfl) (hf := .inr rfl)) (fun _ _ _ _ _ => pts_nil)
          (fun _ _ _ _ _ => pe_kn Ru hr (by omega) (pa_cons (pv 0) (pa_cons (pv 2) pa_nil)))) pa_nil)))), ?_⟩
    refine ⟨.ref R, rfl, _, _, _, _, true, rfl, .ty "tuple", .base (.tup eR), kit_ty (by decide +kernel), true, rfl, iteF ?_⟩
    refine ⟨.ref R, rfl, R, _, rfl, .inr (.inl (.inl eR)), _, 40, rfl, rfl, false, ?_, iteF ?_⟩
    · rw [List.length_map]
      exact congrArg V.bl (decide_eq_false (by omega))
    refine ⟨.ref R, rfl, R, rfl, ⟨_, .inl (.inl eR)⟩, fun D nD => lc_it (walk_tup (xs := as.map V.ref)) (fun i H' => Same H H' ∧ H' D = some (.lst ((List.replicate i true).map V.bl))) ⟨same_new nD, upd_same⟩ (fun i H' _ p => .inl (.inl (p.1 _ _ eR))) (fun i v H1 H2 hi p y => ?_) (fun H' p => ?_)⟩
    · obtain ⟨sm, eD⟩ := p
      obtain ⟨rfl, gv⟩ := y
      obtain ⟨x, ex, rfl⟩ := mapGet gv
      have hi' : i < as.length := by simpa using hi
      have hr' : i < rs.length := by omega
      have eq : rs[i]? = some rs[i] := List.getElem?_eq_getElem hr'
      refine ⟨rfl, .ref t, rfl, .ref x, rfl, t, x, tops, rs[i], rfl, sm _ _ et, (ha i x _ ex eq).keep (.same sm), ok _ (List.getElem_mem hr'), fun H3 s3 => ?_⟩
      have sm3 := sm.trans s3
      refine ⟨_, s3 _ _ eD, by rw [List.length_map, List.length_replicate]; exact small1000 (by omega), same_over sm3 nD, ?_⟩
      rw [upd_same, more_true]
    · obtain ⟨sm, eD⟩ := p
      refine ⟨D, _, rfl, .inl (.inl eD), ?_⟩
      rw [all_true]
      exact q H' sm

/-- what is asked of the class as the top has made it -/
structure PlanTxt (K : PySem.W.Frag) (mg : Str → Option Value) (C : Addr) : Prop where
  cl : Cls K C
  nT : NoAttr K C "tops"
  nR : NoAttr K C "rules"
  mgC : mg "Plan" = some (.ref C)
theorem put_two (t R : Addr) : putF "rules" (V.ref R) (putF "tops" (V.ref t) []) = ([("tops", V.ref t), ("rules", V.ref R)] : List (Str × V)) := by
  have n : ¬ (("tops" : Str) = "rules") := by decide +kernel
  show (if ("tops" : Str) = "rules" then [(("tops" : Str), V.ref R)] else (("tops" : Str), V.ref t) :: putF "rules" (V.ref R) []) = _
  rw [if_neg n]
  rfl
def spInit (C : Addr) : Sp := fun vs H Q _ => ∃ (x dx t R : Addr) (tops : List Int) (rs : List Rl), vs = [.ref x, .ref t, .ref R] ∧ H x = some (.ins C dx []) ∧ H t = some (.tup (tops.map V.int)) ∧ RulesAt H R rs ∧ 1 ≤ tops.length ∧ tops.length ≤ 12 ∧ Pl tops ∧ rs.length ≤ 40 ∧ (∀ q ∈ rs, RuleOk tops q) ∧
  ∀ H', (∀ b o, b ≠ x → H b = some o → H' b = some o) → H' x = some (.ins C dx [("tops", .ref t), ("rules", .ref R)]) → Q .non H'
theorem ok_init {f C fT fR : Addr} {fd fdT fdR : FuncData} {k : Nat} {dvs : List V} {kws : List (Str × V)} (F : FunD K "__init__" "Plan.__init__" (defArgs kInit) (defBody kInit) (defScope kInit) dvs kws f fd) (T : PlanTxt K mg C) (To : Kn P w K mg base 3 "are_tops" ["thing"] (spTops K) fT fdT) (Ru : Kn P w K mg base 6 "are_rules_of" ["tops", "thing"] (spRules K) fR fdR) :
    FnOk P w K mg base CX0 (k + 7) f fd ["self", "tops", "rules"] (spInit C) := by
  refine F.ok scInit (fun vs H Q E h => ?_) (fun cdv A outer s H vs Q E hr h => ?_)
  · obtain ⟨x, dx, t, R, tops, rs, rfl, _⟩ := h
    rfl
  · obtain ⟨x, dx, t, R, tops, rs, rfl, ex, et, eR, l1, l12, pl, l40, ok, q⟩ := h
    refine ⟨_, pss_cons (ps_if (pt_not (pt_val (pe_kn To hr (by omega) (pa_cons (pv 1) pa_nil)))) (pss_one ps_never) pss_nil)
      (pss_cons (ps_if (pt_not (pt_val (pe_kn Ru hr (by omega) (pa_cons (pv 1) (pa_cons (pv 2) pa_nil))))) (pss_one ps_never) pss_nil)
      (pss_cons (ps_fld (pv 0) (pv 1) rfl) (pss_one (ps_fld (pv 0) (pv 2) rfl)))), ?_⟩
    refine ⟨.ref t, rfl, t, tops, rfl, et, l1, l12, pl, fun H1 s1 => ⟨true, rfl, iteF ?_⟩⟩
    refine ⟨.ref t, rfl, .ref R, rfl, t, R, tops, rs, rfl, s1 _ _ et, eR.keep (.same s1), l40, ok, fun H2 s2 => ⟨true, rfl, iteF ?_⟩⟩
    have s02 := s1.trans s2
    refine ⟨.ref t, rfl, .ref x, rfl, x, C, dx, [], rfl, s02 _ _ ex, T.cl, T.nT, (show 0 < 1000 by decide), ?_⟩
    refine ⟨.ref R, rfl, .ref x, rfl, x, C, dx, _, rfl, upd_same, T.cl, T.nR, (show 1 < 1000 by decide), ?_⟩
    refine q _ (fun b o ne e => ?_) ?_
    · rw [upd_ne ne, upd_ne ne]
      exact s02 _ _ e
    · rw [upd_same]
      exact congrArg (fun z => some (HO.ins C dx z)) (put_two t R)
/-- Plan(tops, rules) -/
theorem plan_made {C x dx : Addr} {H : Hp} {t R : Addr} {tops : List Int} {rs : List Rl} {W : VK} {E : XK} (nx : H x = none) (ndx : H dx = none) (ne : dx ≠ x) (et : H t = some (.tup (tops.map V.int))) (eR : RulesAt H R rs) (l1 : 1 ≤ tops.length) (l12 : tops.length ≤ 12) (pl : Pl tops) (l40 : rs.length ≤ 40) (ok : ∀ q ∈ rs, RuleOk tops q)
    (q : ∀ H', Same H H' → PlanAt C H' x tops rs → W .non H') : spInit C [.ref x, .ref t, .ref R] (upd (upd H dx (.own x)) x (.ins C dx [])) W E := by
  have s1 : Same H (upd (upd H dx (.own x)) x (.ins C dx [])) := (same_new ndx).trans (same_new (by rw [upd_ne ne.symm]; exact nx))
  refine ⟨x, dx, t, R, tops, rs, rfl, upd_same, s1 _ _ et, eR.keep (.same s1), l1, l12, pl, l40, ok, fun H' k ex => ?_⟩
  have s2 : Same H H' := fun b o e => k b o (ne_of_none e nx) (s1 b o e)
  exact q H' s2 ⟨dx, t, R, ex, s2 _ _ et, eR.keep (.same s2)⟩
end
end K49

set_option Elab.async false
set_option linter.all false
set_option maxRecDepth 100000
set_option maxHeartbeats 1000000
/-! Own exceptions with one field: made, raised, caught, read. -/
namespace NB
open PySem PySem.Spec PyProof.Rows L2

/-- what the written part says of an own exception class, named x, with one field f -/
structure ExT (K : PySem.W.Frag) (mg : Str → Option Value) (x f : Str) (C fI : Addr) (fdI : FuncData) : Prop where
  gC : mg x = some (.ref C)
  oex : OexC K C
  noN : PySem.W.findIn K (.ref C) f = some none
  iC : PySem.W.findIn K (.ref C) "__init__" = some (some (.ref fI))
  tI : PySem.W.typeIn K (.ref fI) = some (.type "function")
  xf : XfC K C
  te : PySem.W.exmOne K (.ref C) (.ref C) = some true
  bI : Binds K fdI ["self", f] []
/-- an error of the class at S is what «except S» names -/
theorem exm_self {K : PySem.W.Frag} {S : Addr} (h1 : PySem.W.subIn K (.ref S) (.type "BaseException") = some true) (h2 : PySem.W.isClsIn K S = true) (h3 : PySem.W.typeIn K (.ref S) = some (.type "type")) (h4 : PySem.W.subIn K (.ref S) (.ref S) = some true) :
    PySem.W.exmOne K (.ref S) (.ref S) = some true := by
  have e1 : (PySem.W.subIn K (.ref S) (.type "BaseException") == some true) = true := by rw [h1] <;> rfl
  have e2 : ((PySem.W.clsIn K S).isSome && PySem.W.typeIn K (.ref S) == some (.type "type")) = true := by
    have h2' : (PySem.W.clsIn K S).isSome = true := h2
    rw [h2', h3] <;> rfl
  show (if (PySem.W.subIn K (.ref S) (.type "BaseException") == some true) = true then (if ((PySem.W.clsIn K S).isSome && PySem.W.typeIn K (.ref S) == some (.type "type")) = true then PySem.W.subIn K (.ref S) (.ref S) else none) else none) = some true
  rw [if_pos e1, if_pos e2]
  exact h4
/-- __init__(self, f): self.f = f -/
def spXI (C : Addr) (f : Str) : Sp := fun vs H Q _ => ∃ (a : Addr) (v : V), vs = [.ref a, v] ∧ H a = some (exo a C none) ∧ ∀ dx, H dx = none → dx ≠ a → Q .non (upd (upd H dx (exd dx [(f, v)])) a (exo a C (some dx)))
section
variable {P : Program} {w : World} {K : PySem.W.Frag} {mg : Str → Option Value} {base : Heap}
theorem heap_x {H : Hp} {a d : Addr} {o1 o2 o3 x : HO} (na : H a = none) (ne : d ≠ a) : upd (del (upd (upd (upd H a o1) d o2) a o3) a) d x = upd H d x := by
  funext b
  by_cases c : b = d
  · subst c
    rw [upd_same, upd_same]
  · rw [upd_ne c, upd_ne c]
    by_cases c2 : b = a
    · subst c2
      rw [del_same, na]
    · rw [del_ne c2, upd_ne c2, upd_ne c, upd_ne c2]
/-- what making one asks, behind its argument -/
theorem mkX {C : Addr} {f : Str} {v : V} {H : Hp} {Q : XK} (h : ∀ d, H d = none → Q (.ref C) (some d) (upd H d (.xd [(f, v)]))) :
    [v].length ≤ 1000 ∧ ∀ a, H a = none → spXI C f (.ref a :: ([v] ++ [])) (upd H a (exo a C none))
      (fun u H2 => u = .non ∧ ∃ (d : Addr) (fs : List (Str × V)), H2 a = some (exo a C (some d)) ∧ H2 d = some (exd d fs) ∧ H d = none ∧ Q (.ref C) (some d) (upd (del H2 a) d (.xd fs))) (fun _ _ _ => False) := by
  refine ⟨(show 1 ≤ 1000 by decide), fun a na => ⟨a, v, rfl, upd_same, fun dx ndx ne => ⟨rfl, dx, [(f, v)], upd_same, (upd_ne ne).trans upd_same, ?_, ?_⟩⟩⟩
  · rw [upd_ne ne] at ndx
    exact ndx
  · rw [heap_x na ne]
    refine h dx ?_
    rw [upd_ne ne] at ndx
    exact ndx
theorem pmk_x {X : Cx} {x f : Str} {C fI : Addr} {fdI : FuncData} {j : Nat} {e : Expr} {es : List Expr} {ta : TA} {p pos : Pos} (T : ExT X.K X.mg x f C fI fdI) (G : FnOk X.prog X.w X.K X.mg X.base CX0 1 fI fdI ["self", f] (spXI C f)) (hr : Room j X.A) (hj : 2 ≤ j) (ha : PA X (e :: es) ta) (hg : Gl X x := by rfl)
    (hdb : (x == ("__debug__" : Str)) = false := by decide) (he : starEach (e :: es) X.env = (false, eval e X.env) :: starEach es X.env := by rfl) (hpl : (backTo pos (starEach es X.env)).any (·.1) = false := by rfl) :
    PMk X (.Call (.Name x p) (e :: es) [] pos) (tMkO C (spXI C f) [] ta) := pmk_oex T.oex T.iC T.tI G (hr.mono hj) T.bI .nil pass0 hg T.gC ha hdb he hpl
/-- a def that raises nothing where its promise is so -/
theorem FnOk.noX {k : Nat} {f : Addr} {fd : FuncData} {ps : List Str} {sp sp' : Sp} (F : FnOk P w K mg base (L2.CX P w) k f fd ps sp) (h : ∀ vs H Q E, sp' vs H Q E → sp vs H Q E0) : FnOk P w K mg base CX0 k f fd ps sp' := by
  refine ⟨fun vs H Q E q => F.len vs H Q E0 (h _ _ _ _ q), fun A outer s H args us vs Q E hr he hb hv hs => codeAny_mono (F.run A outer s H args us vs Q E0 hr he hb hv (h _ _ _ _ hs)) ?_⟩
  intro r s' z
  cases r with
  | error e =>
    obtain ⟨_, _, _, _, _, _, _, _, _, _, _, _, z⟩ := (z : L2.CX P w outer H s E0 e s')
    exact z.elim
  | ok fl => cases fl <;> exact z
end
/-- a def that may raise, known by its promise -/
structure KnX (P : Program) (w : World) (K : PySem.W.Frag) (mg : Str → Option Value) (base : Heap) (k : Nat) (x : Str) (ps : List Str) (sp : Sp) (f : Addr) (fd : FuncData) : Prop where
  ok : FnOk P w K mg base (L2.CX P w) k f fd ps sp
  gl : mg x = some (.ref f)
  kp : PySem.W.keepIn K (.ref f) = true
  bi : Binds K fd ps []
section
variable {X : Cx} {k j : Nat} {x : Str} {ps : List Str} {sp : Sp} {f : Addr} {fd : FuncData} {p pos : Pos} {e : Expr} {es : List Expr} {t : TA} {W : WX} {E : XK}
/-- where it raises nothing -/
theorem pe_knX (C : KnX X.prog X.w X.K X.mg X.base k x ps sp f fd) (hr : Room j X.A) (hj : k ≤ j) (ha : PA X (e :: es) t) (hg : Gl X x := by rfl) (hdb : (x == ("__debug__" : Str)) = false := by decide)
    (he : starEach (e :: es) X.env = (false, eval e X.env) :: starEach es X.env := by rfl) (hpl : (backTo pos (starEach es X.env)).any (·.1) = false := by rfl) :
    PE X (.Call (.Name x p) (e :: es) [] pos) (tCall sp [] E0 t) := pe_call C.ok (hr.mono hj) hg C.gl C.kp C.bi .nil passL ha hdb he hpl
/-- within a try -/
theorem pe_knS (C : KnX X.prog X.w X.K X.mg X.base k x ps sp f fd) (hr : Room j X.A) (hj : k ≤ j) (tk : Takes X W) (ha : PA X (e :: es) t) (hg : Gl X x := by rfl) (hdb : (x == ("__debug__" : Str)) = false := by decide)
    (he : starEach (e :: es) X.env = (false, eval e X.env) :: starEach es X.env := by rfl) (hpl : (backTo pos (starEach es X.env)).any (·.1) = false := by rfl) :
    PE X (.Call (.Name x p) (e :: es) [] pos) (tCallS sp (WE W) t) := pe_callS C.ok (hr.mono hj) hg C.gl C.kp C.bi (fun σ => passAt tk σ) ha hdb he hpl
/-- where what it raises goes on -/
theorem pe_knP (C : KnX X.prog X.w X.K X.mg X.base k x ps sp f fd) (hr : Room j X.A) (hj : k ≤ j) (tk : Takes X (fun cls d _ H => E cls d H)) (ha : PA X (e :: es) t) (hg : Gl X x := by rfl) (hdb : (x == ("__debug__" : Str)) = false := by decide)
    (he : starEach (e :: es) X.env = (false, eval e X.env) :: starEach es X.env := by rfl) (hpl : (backTo pos (starEach es X.env)).any (·.1) = false := by rfl) :
    PE X (.Call (.Name x p) (e :: es) [] pos) (tCall sp [] E t) := pe_call C.ok (hr.mono hj) hg C.gl C.kp C.bi .nil (passes_call tk (fun _ _ _ _ h => h)) ha hdb he hpl
end
end NB

set_option Elab.async false
set_option linter.all false
set_option maxRecDepth 100000
namespace K49
open PySem PySem.Spec PyProof.Rows L2 NB

abbrev kI_Knotted : Stmt := inClass (topS 26) 0
theorem sc_Knotted : FnScope ["self", "ring"] ["self", "ring"] (defScope kI_Knotted) := ⟨rfl, rfl, rfl, by decide +kernel, rfl, by decide +kernel, by decide +kernel⟩
theorem ok_Knotted {P : Program} {w : World} {K : PySem.W.Frag} {mg : Str → Option Value} {base : Heap} {f C : Addr} {fd : FuncData} (F : Fun K "__init__" "Knotted.__init__" kI_Knotted f fd) (O : OexC K C) (n : PySem.W.findIn K (.ref C) "ring" = some none) : FnOk P w K mg base CX0 1 f fd ["self", "ring"] (spXI C "ring") := by
  refine F.ok sc_Knotted (fun vs H Q E h => ?_) (fun cdv A outer s H vs Q E hr h => ?_)
  · obtain ⟨a, v, rfl, _⟩ := h
    rfl
  · obtain ⟨a, v, rfl, ea, q⟩ := h
    exact ⟨_, pss_one (ps_ost (pv 0) (pv 1)), _, rfl, _, rfl, a, C, rfl, O, n, .inl ⟨ea, fun dx n ne => q dx n ne⟩⟩
end K49

set_option Elab.async false
set_option linter.all false
set_option maxRecDepth 100000
namespace K49
open PySem PySem.Spec PyProof.Rows L2 NB

/-! ### standings -/
def inB (st : List Int) (s : Sd) : Bool := match st[s.1]? with
  | some v => if s.2.1 then decide (s.2.2 ≤ v) else decide (v ≤ s.2.2)
  | none => false
def kept (st : List Int) (q : Rl) : Bool := inB st q.1 || inB st q.2
/-- the numbers of the rules that are broken -/
def brok (st : List Int) (rs : List Rl) : List Int := rs.zipIdx.filterMap fun p => if kept st p.1 then none else some (p.2 : Int)
theorem brok_take (st : List Int) (rs : List Rl) (i : Nat) (q : Rl) (h : rs[i]? = some q) : brok st (rs.take (i + 1)) = brok st (rs.take i) ++ (if kept st q then [] else [(i : Int)]) := by
  have hi : i < rs.length := (List.getElem?_eq_some_iff.mp h).1
  have hl : (rs.take i).length = i := by rw [List.length_take]; omega
  unfold brok
  rw [List.take_add_one, h, List.zipIdx_append, List.filterMap_append, hl]
  congr 1
  show List.filterMap _ [(q, 0 + i)] = _
  simp only [List.filterMap_cons, List.filterMap_nil, Nat.zero_add]
  split <;> split <;> simp_all
theorem brok_len (st : List Int) (rs : List Rl) : (brok st rs).length ≤ rs.length := by
  unfold brok
  refine Nat.le_trans (List.length_filterMap_le _ _) ?_
  rw [List.length_zipIdx]
  exact Nat.le_refl _
theorem brok_nil (st : List Int) (rs : List Rl) : (brok st rs = []) ↔ rs.all (kept st) = true := by
  unfold brok
  rw [List.filterMap_eq_nil_iff, List.all_eq_true]
  constructor
  · intro h q hq
    obtain ⟨i, hi, e⟩ := List.getElem_of_mem hq
    have := h (q, i) (by rw [List.mem_zipIdx_iff_getElem?]; simp [hi, e])
    cases c : kept st q with
    | true => rfl
    | false => rw [c] at this; simp at this
  · rintro h ⟨q, i⟩ hq
    have hm : q ∈ rs := List.mem_of_getElem? (by rw [List.mem_zipIdx_iff_getElem?] at hq; exact hq)
    simp [h q hm]
theorem eqv_ints : ∀ xs ys : List Int, PyData.eqvAll (xs.map PyData.int) (ys.map PyData.int) = decide (xs = ys)
  | [], [] => by simp [PyData.eqvAll]
  | [], _ :: _ => by simp [PyData.eqvAll]
  | _ :: _, [] => by simp [PyData.eqvAll]
  | x :: xs, y :: ys => by
    simp only [List.map_cons, PyData.eqvAll, PyData.eqv, eqv_ints xs ys, List.cons.injEq, Bool.decide_and]
    congr 1
theorem lay_ints : ∀ xs : List Int, PyData.canLayAll0 (xs.map PyData.int) = true
  | [] => rfl
  | x :: xs => by simp only [List.map_cons, PyData.canLayAll0, PyData.canLay0, lay_ints xs, Bool.and_self]
theorem depth_ints : ∀ xs : List Int, PyData.depthAll (xs.map PyData.int) = 0
  | [] => rfl
  | x :: xs => by simp only [List.map_cons, PyData.depthAll, PyData.depth, depth_ints xs, Nat.max_self]
theorem shaped_ints (xs : List Int) : SeqAt.shaped (.tuple (xs.map PyData.int)) = true := by
  unfold SeqAt.shaped
  simp only [PyData.canLay0, lay_ints, PyData.depth, depth_ints, Bool.true_and]
  decide
theorem dps {K : PySem.W.Frag} {H : Hp} : ∀ xs : List Int, DpAll K H (xs.map V.int) (xs.map PyData.int)
  | [] => .nil
  | x :: xs => .cons (.int x) (dps xs)
theorem dpt {K : PySem.W.Frag} {H : Hp} {p : Addr} {xs : List Int} (h : H p = some (.tup (xs.map V.int))) : Dp K H (.ref p) (.tuple (xs.map PyData.int)) := .tup (.inl (.inl h)) (dps xs)

abbrev kIn : Stmt := topS 13
theorem scIn : FnScope ["side", "standing", "thing", "word", "place"] ["side", "standing"] (defScope kIn) := ⟨rfl, rfl, rfl, by decide +kernel, rfl, by decide +kernel, by decide +kernel⟩
theorem w_from : decide (V.str (word true) = V.str "from") = true := by decide +kernel
theorem w_to : decide (V.str (word false) = V.str "from") = false := by decide +kernel

section
variable {P : Program} {w : World} {K : PySem.W.Frag} {mg : Str → Option Value} {base : Heap}

def spIn : Sp := fun vs H Q _ => ∃ (p t : Addr) (sd : Sd) (xs : List Int), vs = [.ref p, .ref t] ∧ SideAt H p sd ∧ H t = some (.tup (xs.map V.int)) ∧ sd.1 < xs.length ∧ Q (.bl (inB xs sd)) H
theorem ok_in {f : Addr} {fd : FuncData} {k : Nat} (F : Fun K "is_in" "is_in" kIn f fd) : FnOk P w K mg base CX0 (k + 1) f fd ["side", "standing"] spIn := by
  refine F.ok scIn (fun vs H Q E h => ?_) (fun cdv A outer s H vs Q E hr h => ?_)
  · obtain ⟨p, t, sd, xs, rfl, _⟩ := h
    rfl
  · obtain ⟨p, t, ⟨n, b, pl⟩, xs, rfl, ep, et, ln, q⟩ := h
    have ep' : H p = some (.tup [.int (n : Int), .str (word b), .int pl]) := ep
    have ln' : n < xs.length := ln
    have eg : atI (xs.map V.int) (n : Int) = some (.int xs[n]) := atI_nat (by rw [List.getElem?_map, List.getElem?_eq_getElem ln']; rfl)
    have eb : inB xs (n, b, pl) = if b then decide (pl ≤ xs[n]) else decide (xs[n] ≤ pl) := by
      unfold inB
      simp only [List.getElem?_eq_getElem ln']
    rw [eb] at q
    refine ⟨_, pss_cons (ps_asg (pv 0) (pg_tup (by rfl) (pgs_cons (pg_name (i := 2) scIn.nd rfl (.inl rfl)) (pgs_cons (pg_name (i := 3) scIn.nd rfl (.inl rfl)) (pgs_cons (pg_name (i := 4) scIn.nd rfl (.inl rfl)) pgs_nil)))))
      (pss_cons (ps_if (pt_cmpR op_eq (pv 3) pe_str (nomark _)) (pss_one (ps_ret (pe_cmpR op_ge (pe_ix ix_tup (pv 1) (pv 2) (fun _ _ => rfl)) (pv 4) (nomark _)))) pss_nil)
      (pss_one (ps_ret (pe_cmpR op_le (pe_ix ix_tup (pv 1) (pv 2) (fun _ _ => rfl)) (pv 4) (nomark _))))), ?_⟩
    refine ⟨.ref p, rfl, p, _, rfl, .inl (.inl ep'), rfl, _, _, rfl, _, _, rfl, _, _, rfl, rfl, ?_⟩
    cases b with
    | true =>
      refine ⟨_, rfl, rfl, true, congrArg V.bl w_from, iteT ?_⟩
      exact ⟨.ref t, rfl, .int n, rfl, t, _, n, _, rfl, rfl, .inl (.inl et), eg, .int pl, rfl, _, pl, rfl, rfl, q⟩
    | false =>
      refine ⟨_, rfl, rfl, false, congrArg V.bl w_to, iteF ?_⟩
      exact ⟨.ref t, rfl, .int n, rfl, t, _, n, _, rfl, rfl, .inl (.inl et), eg, .int pl, rfl, _, pl, rfl, rfl, q⟩

def Fit (xs : List Int) (q : Rl) : Prop := q.1.1 < xs.length ∧ q.2.1 < xs.length
theorem look_rules (t R : Addr) : ([("tops", V.ref t), ("rules", V.ref R)] : List (Str × V)).lookup ("rules" : Str) = some (V.ref R) := by
  have n : (("rules" : Str) == "tops") = false := by decide +kernel
  simp [List.lookup, n]
theorem look_tops (t R : Addr) : ([("tops", V.ref t), ("rules", V.ref R)] : List (Str × V)).lookup ("tops" : Str) = some (V.ref t) := by
  simp [List.lookup]

end
end K49

set_option Elab.async false
set_option linter.all false
set_option maxRecDepth 100000
namespace K49
open PySem PySem.Spec PyProof.Rows L2 NB

/-! ### standings as they are drawn -/

/-- a standing of the plan's tops -/
structure Std (tops : List Int) (H : Hp) (p : Addr) (st : List Int) : Prop where
  at' : H p = some (.tup (st.map V.int))
  len : st.length = tops.length
  pl : Pl st
  le : Le st tops
theorem Std.keep {tops : List Int} {H H' : Hp} {p : Addr} {st : List Int} (h : Std tops H p st) (k : Keep H H') : Std tops H' p st := ⟨k.tup h.at', h.len, h.pl, h.le⟩
abbrev refs (ps : List (Addr × List Int)) : List V := ps.map fun q => V.ref q.1
theorem words_mem {x : V} (h : x ∈ [V.str "from", V.str "to"]) : ∃ b, x = .str (word b) := by
  simp only [List.mem_cons, List.not_mem_nil, or_false] at h
  rcases h with e | e
  · exact ⟨true, e⟩
  · exact ⟨false, e⟩
theorem len_bd {tops : List Int} (l12 : tops.length ≤ 12) : (tops.length : Int) < 2 ^ 200 := Int.lt_of_le_of_lt (show (tops.length : Int) ≤ 12 by omega) (by decide)
theorem top_bd {t : Int} (h : t < 10 ^ 30) : t + 1 < 2 ^ 200 := Int.lt_of_le_of_lt (show t + 1 ≤ 10 ^ 30 by omega) (by decide)
theorem inB_from {st : List Int} {n : Nat} {pl : Int} (h : n < st.length) (l : pl ≤ st[n]) : inB st (n, true, pl) = true := by
  unfold inB
  simp [List.getElem?_eq_getElem h, l]
theorem inB_to {st : List Int} {n : Nat} {pl : Int} (h : n < st.length) (l : st[n] ≤ pl) : inB st (n, false, pl) = true := by
  unfold inB
  simp [List.getElem?_eq_getElem h, l]
theorem fit_of {tops : List Int} {q : Rl} (h : RuleOk tops q) {xs : List Int} (l : xs.length = tops.length) : Fit xs q := by
  obtain ⟨⟨t1, e1, _⟩, ⟨t2, e2, _⟩⟩ := h
  exact ⟨by rw [l]; exact (List.getElem?_eq_some_iff.mp e1).1, by rw [l]; exact (List.getElem?_eq_some_iff.mp e2).1⟩
/-- rules one by one -/
theorem rules_snoc {H H' : Hp} {as : List Addr} {rs : List Rl} {r : Addr} {q : Rl} (la : as.length = rs.length) (h : ∀ (i : Nat) (r : Addr) (q : Rl), as[i]? = some r → rs[i]? = some q → RuleAt H r q) (k : Keep H H') (e : RuleAt H' r q) :
    ∀ (i : Nat) (r' : Addr) (q' : Rl), (as ++ [r])[i]? = some r' → (rs ++ [q])[i]? = some q' → RuleAt H' r' q' := fun i r' q' h1 h2 => by
  rcases Nat.lt_or_ge i as.length with c | c
  · rw [List.getElem?_append_left c] at h1
    rw [List.getElem?_append_left (by omega)] at h2
    exact (h i r' q' h1 h2).keep k
  · rw [List.getElem?_append_right c] at h1
    rw [List.getElem?_append_right (by omega)] at h2
    have e0 : i - as.length = 0 := by
      rcases Nat.eq_zero_or_pos (i - as.length) with z | z
      · exact z
      · rw [List.getElem?_eq_none (by simp only [List.length_cons, List.length_nil]; omega)] at h1
        cases h1
    have e1 : i - rs.length = 0 := by omega
    rw [e0] at h1
    rw [e1] at h2
    cases h1
    cases h2
    exact e
theorem at_int {xs : List Int} {n : Nat} (h : n < xs.length) : atI (xs.map V.int) (n : Int) = some (.int xs[n]) := atI_nat (by rw [List.getElem?_map, List.getElem?_eq_getElem h]; rfl)
theorem ixN_nat {m n : Nat} (h : n < m) : ixN m (n : Int) = some n := by
  unfold ixN
  rw [if_pos (by omega), if_pos (by omega)]
  rfl
theorem set_ok {tops st : List Int} {n : Nat} {v : Int} (l : st.length = tops.length) (p : Pl st) (le : Le st tops) (hn : n < tops.length) (v0 : 0 ≤ v) (v1 : v ≤ tops[n]) (v2 : tops[n] < 10 ^ 30) : (st.set n v).length = tops.length ∧ Pl (st.set n v) ∧ Le (st.set n v) tops := by
  refine ⟨by rw [List.length_set, l], fun x hx => ?_, fun i x t h1 h2 => ?_⟩
  · rcases List.mem_or_eq_of_mem_set hx with h | h
    · exact p x h
    · rw [h]
      exact ⟨v0, by omega⟩
  · by_cases c : n = i
    · subst c
      rw [List.getElem?_set_self (by omega)] at h1
      cases h1
      rw [List.getElem?_eq_getElem hn] at h2
      cases h2
      exact v1
    · rw [List.getElem?_set_ne c] at h1
      exact le i x t h1 h2

theorem eqv_nilL (xs : List Int) : PyData.eqv (.list (xs.map PyData.int)) (.list []) = decide (xs = []) := by
  have := eqv_ints xs []
  simp only [PyData.eqv]
  exact this
theorem shaped_ints_l (xs : List Int) : SeqAt.shaped (.list (xs.map PyData.int)) = true := by
  unfold SeqAt.shaped
  simp only [PyData.canLay0, lay_ints, PyData.depth, depth_ints, Bool.true_and]
  decide


theorem rules_cat {H : Hp} {as bs : List Addr} {rs ss : List Rl} (la : as.length = rs.length) (f : ∀ (i : Nat) (r : Addr) (q : Rl), as[i]? = some r → rs[i]? = some q → RuleAt H r q) (g : ∀ (i : Nat) (r : Addr) (q : Rl), bs[i]? = some r → ss[i]? = some q → RuleAt H r q) :
    ∀ (i : Nat) (r : Addr) (q : Rl), (as ++ bs)[i]? = some r → (rs ++ ss)[i]? = some q → RuleAt H r q := fun i r q h1 h2 => by
  rcases Nat.lt_or_ge i as.length with c | c
  · rw [List.getElem?_append_left c] at h1
    rw [List.getElem?_append_left (by omega)] at h2
    exact f i r q h1 h2
  · rw [List.getElem?_append_right c] at h1
    rw [List.getElem?_append_right (by omega), ← la] at h2
    exact g _ r q h1 h2
end K49

set_option Elab.async false
set_option linter.all false
set_option maxRecDepth 100000
namespace NB
open PySem PySem.Spec PyProof.Rows L2
section
variable {X : Cx}
/-- what stands at the keys of a dict of tuples of whole numbers -/
def KeyInts (ks : List (List Key)) (ns : List (List Int)) : Prop := ks = ns.map fun n => n.map Sum.inl
theorem kv_ints (n : List Int) : (n.map (Sum.inl : Int → Key)).map kV = n.map V.int := by
  rw [List.map_map]
  rfl
/-- sorted(d), d a dict of fewer than 64 tuples of whole numbers -/
def rSortD (d : Nat) (B : Int) : List V → Hp → VK → Prop := fun vs H Q => ∃ (a : Addr) (kvs : List (List Key × V)) (ns : List (List Int)), vs = [V.ref a] ∧ H a = some (.dT kvs) ∧
  kvs.map (·.1) = (ns.map fun n => n.map Sum.inl) ∧ ns.length < 64 ∧ (∀ n ∈ ns, n.length = d ∧ TS.Bd B n) ∧
  ∀ (L : List (Addr × List Int)) (p : Addr), (L.map (·.2)).Perm ns → (∀ z ∈ L, H z.1 = some (.tup (z.2.map V.int))) → L.Pairwise (fun y z => TS.code B y.2 ≤ TS.code B z.2) → H p = none → Q (.ref p) (upd H p (.lst (L.map fun z => V.ref z.1)))
theorem paired_at {α β : Type} {F : α → β → Prop} : ∀ {l₁ : List α} {l₂ : List β}, Paired F l₁ l₂ → ∀ (j : Nat) (x : α) (y : β), l₁[j]? = some x → l₂[j]? = some y → F x y
  | _, _, .nil, j, x, y, h, _ => by simp at h
  | _, _, .cons h t, 0, x, y, h1, h2 => by
    cases h1
    cases h2
    exact h
  | _, _, .cons h t, j + 1, x, y, h1, h2 => paired_at t j x y (by simpa using h1) (by simpa using h2)
/-- values that are addresses of tuples, put in another order -/
theorem back_refs {H : Hp} : ∀ {vs : List Value} {L : List (Addr × List Int)}, vs.Perm (L.map fun z => Value.ref z.1) → ∃ L' : List (Addr × List Int), L'.Perm L ∧ vs = L'.map fun z => Value.ref z.1 := fun {vs L} h => by
  have main : ∀ {us vs : List Value}, us.Perm vs → ∀ L : List (Addr × List Int), us = (L.map fun z => Value.ref z.1) → ∃ L' : List (Addr × List Int), L'.Perm L ∧ vs = L'.map fun z => Value.ref z.1 := by
    intro us vs h
    induction h with
    | nil => exact fun L e => ⟨L, .refl _, e⟩
    | cons x p ih =>
      intro L e
      cases L with
      | nil => cases e
      | cons z L =>
        simp only [List.map_cons, List.cons.injEq] at e
        obtain ⟨L', p', e'⟩ := ih L e.2
        exact ⟨z :: L', .cons _ p', by rw [e', e.1, List.map_cons]⟩
    | swap x y l =>
      intro L e
      match L, e with
      | z1 :: z2 :: L, e =>
        simp only [List.map_cons, List.cons.injEq] at e
        exact ⟨z2 :: z1 :: L, .swap _ _ _, by rw [e.1, e.2.1, e.2.2]; rfl⟩
    | trans p q ih1 ih2 =>
      intro L e
      obtain ⟨L1, p1, e1⟩ := ih1 L e
      obtain ⟨L2', p2, e2⟩ := ih2 L1 e1
      exact ⟨L2', p2.trans p1, e2⟩
  exact main h.symm L rfl
theorem sortD (hc : X.calm = true) {d : Nat} {B : Int} (hd1 : 1 ≤ d) : CallR X (.builtin "sorted") (rSortD d B) := by
  intro pins s σ H vs us Q I r h
  obtain ⟨a, kvs, ns, rfl, ha, hkeys, h64, hbd, q⟩ := h
  obtain ⟨u, rfl, rx⟩ := r.one
  cases rx
  obtain ⟨z, lo, ks, pr, o, es, ep, ho, hx, hdt, hen, hnd⟩ := (show ObjOk X.prog X.w H s.heap a (.dT kvs) from I.hok a _ ha)
  have l1 : es.size = ks.length := size_of_entries hen
  have l2 : kvs.length = ks.length := Paired.length pr
  have l3 : kvs.length = ns.length := by
    have e := congrArg List.length hkeys
    rwa [List.length_map, List.length_map] at e
  have few : es.size ≤ sizeLine := by rw [l1, ← l2, l3, sizeLine_eq]; omega
  refine Calls.call_function_entry PyProof.Rows.kind_sorted PyProof.Rows.plain_sorted PyProof.Rows.entry_sorted (PyProof.Rows.args_sorted1 _) ?_
  unfold Builtin.«sorted»
  refine wpAny_bind (m := checkCount "sorted" 1 1 _) (wpAny_pure ?_)
  refine wpAny_bind (PySem.W.kdu_collect (A := X.A.in1) (kdl_raw lo hx hdt) (I.ok.hd hc) ho few fun h1 tk acc kp it => ?_)
  -- the collected keys are the addresses of the key tuples
  have hal : acc.toList.length = ks.length := by rw [Array.length_toList, it.1]; exact l1
  let L0 : List (Addr × List Int) := (ks.map fun x => x.2.1).zip ns
  have lz : L0.length = ks.length := by
    show ((ks.map fun x => x.2.1).zip ns).length = _
    rw [List.length_zip, List.length_map]
    omega
  have eacc : acc.toList = L0.map fun y => Value.ref y.1 := by
    apply List.ext_getElem?
    intro j
    rw [List.getElem?_map]
    cases hj : acc.toList[j]? with
    | none =>
      have h0 := List.getElem?_eq_none_iff.mp hj
      rw [List.getElem?_eq_none (by omega)]
      rfl
    | some v =>
      obtain ⟨en, hen', hv⟩ := it.2 j v (by rw [← Array.getElem?_toList]; exact hj)
      have qe := entry_at hen j
      rw [hen'] at qe
      have hjl : j < ks.length := by
        have := (List.getElem?_eq_some_iff.mp hj).1
        omega
      have hjn : j < ns.length := by omega
      rw [List.getElem?_eq_getElem hjl] at qe
      have e2 : en = entryOfKey (tupleKind (mixKind X.prog X.w)) ks[j] := Option.some.inj qe
      have ez : L0[j]? = some (ks[j].2.1, ns[j]) := by
        show ((ks.map fun x => x.2.1).zip ns)[j]? = _
        exact List.getElem?_zip_eq_some.mpr ⟨by rw [List.getElem?_map, List.getElem?_eq_getElem hjl]; rfl, List.getElem?_eq_getElem hjn⟩
      rw [hv, e2, ez]
      rfl
  have hL2 : L0.map (·.2) = ns := List.map_snd_zip (by rw [List.length_map]; omega)
  have hT : ∀ y ∈ L0, H y.1 = some (.tup (y.2.map V.int)) ∧ y.2.length = d ∧ TS.Bd B y.2 := fun y hy => by
    obtain ⟨j, hj, ej⟩ := List.getElem_of_mem hy
    have hjk : j < ks.length := by omega
    have hjn : j < ns.length := by omega
    have hjv : j < kvs.length := by omega
    have hy' : L0[j]? = some (ks[j].2.1, ns[j]) := by
      show ((ks.map fun x => x.2.1).zip ns)[j]? = _
      exact List.getElem?_zip_eq_some.mpr ⟨by rw [List.getElem?_map, List.getElem?_eq_getElem hjk]; rfl, List.getElem?_eq_getElem hjn⟩
    rw [List.getElem?_eq_getElem hj, ej] at hy'
    have ey : y = (ks[j].2.1, ns[j]) := Option.some.inj hy'
    have kk := paired_at (isKeys_of pr) j kvs[j] ks[j].2.1 (List.getElem?_eq_getElem hjv) (by rw [List.getElem?_map, List.getElem?_eq_getElem hjk]; rfl)
    have ek : kvs[j].1 = ns[j].map Sum.inl := by
      have e := congrArg (fun l => l[j]?) hkeys
      simp only [List.getElem?_map, List.getElem?_eq_getElem hjv, List.getElem?_eq_getElem hjn, Option.map_some, Option.some.injEq] at e
      exact e
    rw [ek, kv_ints] at kk
    rw [ey]
    exact ⟨kk, hbd _ (List.getElem_mem hjn)⟩
  have I1 : Inv X pins σ H { s with heap := h1, toks := tk } := I.kept kp
  have raw : ∀ y ∈ L0, TS.TupInts h1 (.ref y.1) y.2 := fun y hy => tupI_raw I1 (.inl (.inl (hT y hy).1))
  refine wpAny_bind (wpAny_newList ?_ (by rw [hal, ← l2, l3, sizeLine_eq]; omega))
  have hoL : (h1.push (seqObj "list" acc.toList.toArray 0)).get? h1.objs.size = some (seqObj "list" acc.toList.toArray 0) := Heap.get?_push_size _ rfl
  have keep : ∀ b o', h1.get? b = some o' → o'.cls = .type "tuple" → (h1.push (seqObj "list" acc.toList.toArray 0)).get? b = some o' := fun b o' e _ => Heap.get?_push_of_some _ e
  have oks : TS.TupsOk h1 d B acc.toList := fun v hv => by
    rw [eacc] at hv
    obtain ⟨y, hy, rfl⟩ := List.mem_map.mp hv
    exact ⟨y.2, raw y hy, (hT y hy).2.1, (hT y hy).2.2⟩
  show wpAny _ _ _ _ _ { s with heap := h1.push (seqObj "list" acc.toList.toArray 0), toks := tk }
  refine wpAny_bind (wpAny_holding (wpAny_call_entry PyProof.Rows.slot_list_sort ⟨_, hoL, rfl⟩ PyProof.Rows.entry_list_sort
    (TS.sort_tups (s := { s with heap := h1.push (seqObj "list" acc.toList.toArray 0), toks := tk }) hoL (by rw [hal]; omega) hd1 (oks.keeps keep) (fun v => TS.code B (TS.intsOf h1 v)) (fun v hv n t => ?_) fun out g1 g2 => ⟨_, rfl, ?_⟩) (PyProof.Rows.args_list_sort _)))
  · obtain ⟨n0, t0, _⟩ := oks v hv
    have e : n = n0 := t.ints.symm.trans (t0.keeps keep).ints
    rw [e]
    show TS.code B (TS.intsOf h1 v) = TS.code B n0
    rw [t0.ints]
  rw [eacc] at g1
  obtain ⟨L', pL, eo⟩ := back_refs (H := H) g1
  have hm : ∀ y ∈ L', y ∈ L0 := fun y hy => pL.mem_iff.mp hy
  obtain ⟨e', he'⟩ := PyProof.Rows.sortedHeap_at (vs := acc.toList) (out := out) hoL
  have hlen : (L'.map fun y => V.ref y.1).length ≤ sizeLine := by
    rw [List.length_map, pL.length_eq, lz, ← l2, l3, sizeLine_eq]
    omega
  have hv' : Vals (L'.map fun y => V.ref y.1) out.toList := by rw [eo]; exact vals_of_refs L'
  refine wpAny_pure ⟨_, rfl, .ref h1.objs.size, upd H h1.objs.size (.lst (L'.map fun y => V.ref y.1)), I1.laid (t' := tk) (fun b u e => ?_) (Nat.le_refl _)
    (show ObjOk X.prog X.w _ _ _ (.lst (L'.map fun y => V.ref y.1)) from ⟨hlen, out.toList, e', hv', by rw [Array.toArray_toList]; exact he'⟩), rfl, q L' _ ?_ (fun y hy => (hT y (hm y hy)).1) ?_ (I1.hok.fresh (Nat.le_refl _))⟩
  · have hb : b < h1.objs.size := Heap.lt_size e
    rw [PyProof.Rows.sortedHeap_old (Nat.ne_of_lt hb) (by rw [size_push']; exact Nat.lt_succ_of_lt hb)]
    exact Heap.get?_push_of_some _ e
  · have p2 := pL.map (·.2)
    rw [hL2] at p2
    exact p2
  · rw [eo, List.pairwise_map] at g2
    refine List.Pairwise.imp_of_mem (fun {y z} hy hz h => ?_) g2
    have h' : TS.code B (TS.intsOf h1 (.ref y.1)) ≤ TS.code B (TS.intsOf h1 (.ref z.1)) := h
    rw [(raw y (hm y hy)).ints, (raw z (hm z hz)).ints] at h'
    exact h'
end
end NB

set_option Elab.async false
set_option linter.all false
set_option maxRecDepth 100000
namespace K49
open PySem PySem.Spec PyProof.Rows L2 NB

/-! ### plans whose rules may be the default ones -/
def RulesAtK (K : PySem.W.Frag) (H : Hp) (R : Addr) (rs : List Rl) : Prop := ∃ as : List Addr, SqT K H R (as.map V.ref) ∧ as.length = rs.length ∧ ∀ (i : Nat) (r : Addr) (q : Rl), as[i]? = some r → rs[i]? = some q → RuleAt H r q
def PlanAtK (K : PySem.W.Frag) (C : Addr) (H : Hp) (x : Addr) (tops : List Int) (rs : List Rl) : Prop := ∃ dx t R, H x = some (.ins C dx [("tops", .ref t), ("rules", .ref R)]) ∧ H t = some (.tup (tops.map V.int)) ∧ RulesAtK K H R rs
theorem RulesAtK.keep {K : PySem.W.Frag} {H H' : Hp} {R : Addr} {rs : List Rl} (h : RulesAtK K H R rs) (k : Keep H H') : RulesAtK K H' R rs := by
  obtain ⟨as, e, l, a⟩ := h
  exact ⟨as, k.sq e, l, fun i r q h1 h2 => (a i r q h1 h2).keep k⟩
theorem PlanAtK.keep {K : PySem.W.Frag} {C : Addr} {H H' : Hp} {x : Addr} {tops : List Int} {rs : List Rl} (h : PlanAtK K C H x tops rs) (k : Keep H H') : PlanAtK K C H' x tops rs := by
  obtain ⟨dx, t, R, e, et, er⟩ := h
  exact ⟨dx, t, R, k _ _ (fun _ q => by cases q) e, k.tup et, er.keep k⟩
theorem RulesAt.k {K : PySem.W.Frag} {H : Hp} {R : Addr} {rs : List Rl} (h : RulesAt H R rs) : RulesAtK K H R rs := by
  obtain ⟨as, e, l, a⟩ := h
  exact ⟨as, .inl (.inl e), l, a⟩
theorem PlanAt.k {K : PySem.W.Frag} {C : Addr} {H : Hp} {x : Addr} {tops : List Int} {rs : List Rl} (h : PlanAt C H x tops rs) : PlanAtK K C H x tops rs := by
  obtain ⟨dx, t, R, e, et, er⟩ := h
  exact ⟨dx, t, R, e, et, er.k⟩

/-! ### needs: what the program tells -/
def gone (one other : List Int) (i : Nat) (p : Int) : Int := if other.getD i 0 < one.getD i 0 then one.getD i 0 - p else p - one.getD i 0
def isLeft (s : Sd) (one other : List Int) : Bool := inB one s && !inB other s
def needOf (one other : List Int) (l e : Sd) : Option (List Int) :=
  if isLeft l one other && isLeft e other one then
    if l.1 = e.1 ∧ gone one other e.1 e.2.2 ≤ gone one other l.1 l.2.2 + 1 then none else some [(l.1 : Int), l.2.2, (e.1 : Int), e.2.2]
  else none
def cands (one other : List Int) (rs : List Rl) : List (Option (List Int)) := rs.flatMap fun q => [needOf one other q.1 q.2, needOf one other q.2 q.1]
/-- a number above all places -/
def BB : Int := 10 ^ 30
/-- the rising list of all needs -/
structure IsNeeds (one other : List Int) (rs : List Rl) (ns : List (List Int)) : Prop where
  nd : ns.Nodup
  up : ns.Pairwise fun x y => TS.code BB x ≤ TS.code BB y
  mem : ∀ n, n ∈ ns ↔ some n ∈ cands one other rs
  few : ns.length < 64
theorem code_inj : ∀ {x y : List Int}, x.length = y.length → TS.Bd BB x → TS.Bd BB y → TS.code BB x = TS.code BB y → x = y
  | [], [], _, _, _, _ => rfl
  | a :: x, b :: y, hl, hx, hy, e => by
    have hl' : x.length = y.length := by simpa using hl
    have bx : TS.Bd BB x := fun m h => hx m (List.mem_cons_of_mem _ h)
    have by' : TS.Bd BB y := fun m h => hy m (List.mem_cons_of_mem _ h)
    rcases Int.lt_trichotomy a b with c | c | c
    · have := TS.code_lt hl' bx by' c
      omega
    · subst c
      have ne : ¬ TS.code BB x < TS.code BB y := fun h => by
        have := (TS.code_same (d := a) hl').mpr h
        omega
      have ne' : ¬ TS.code BB y < TS.code BB x := fun h => by
        have := (TS.code_same (d := a) hl'.symm).mpr h
        omega
      rw [code_inj hl' bx by' (by omega)]
    · have := TS.code_lt hl'.symm by' bx c
      omega
theorem needOf_shape {one other : List Int} {l e : Sd} {n : List Int} (h : needOf one other l e = some n) : n = [(l.1 : Int), l.2.2, (e.1 : Int), e.2.2] ∧ isLeft l one other = true ∧ isLeft e other one = true ∧ ¬ (l.1 = e.1 ∧ gone one other e.1 e.2.2 ≤ gone one other l.1 l.2.2 + 1) := by
  unfold needOf at h
  split at h
  · rename_i c
    split at h
    · cases h
    · rename_i c'
      cases h
      rw [Bool.and_eq_true] at c
      exact ⟨rfl, c.1, c.2, c'⟩
  · cases h
theorem cands_mem {one other : List Int} {rs : List Rl} {n : List Int} : some n ∈ cands one other rs ↔ ∃ q ∈ rs, needOf one other q.1 q.2 = some n ∨ needOf one other q.2 q.1 = some n := by
  unfold cands
  rw [List.mem_flatMap]
  constructor
  · rintro ⟨q, hq, h⟩
    simp only [List.mem_cons, List.not_mem_nil, or_false] at h
    exact ⟨q, hq, h.imp Eq.symm Eq.symm⟩
  · rintro ⟨q, hq, h⟩
    refine ⟨q, hq, ?_⟩
    simp only [List.mem_cons, List.not_mem_nil, or_false]
    exact h.imp Eq.symm Eq.symm
theorem side_bd {tops : List Int} (l12 : tops.length ≤ 12) (pl : Pl tops) {s : Sd} (h : SideOk tops s) : (0 ≤ (s.1 : Int) ∧ (s.1 : Int) < BB) ∧ 0 ≤ s.2.2 ∧ s.2.2 < BB := by
  obtain ⟨t, et, p0, p1⟩ := h
  have hl := (List.getElem?_eq_some_iff.mp et).1
  have ht := pl t (List.mem_of_getElem? et)
  have h2 := ht.2
  unfold BB
  refine ⟨⟨by omega, Int.lt_of_le_of_lt (show (s.1 : Int) ≤ 12 by omega) (by decide)⟩, p0, Int.lt_of_le_of_lt p1 h2⟩
theorem need_bd {tops one other : List Int} (l12 : tops.length ≤ 12) (pl : Pl tops) {l e : Sd} (hl : SideOk tops l) (he : SideOk tops e) {n : List Int} (h : needOf one other l e = some n) : n.length = 4 ∧ TS.Bd BB n := by
  obtain ⟨rfl, _⟩ := needOf_shape h
  refine ⟨rfl, fun m hm => ?_⟩
  have b1 := side_bd l12 pl hl
  have b2 := side_bd l12 pl he
  simp only [List.mem_cons, List.not_mem_nil, or_false] at hm
  rcases hm with h | h | h | h <;> rw [h]
  · exact b1.1
  · exact b1.2
  · exact b2.1
  · exact b2.2
theorem cands_bd {tops one other : List Int} (l12 : tops.length ≤ 12) (pl : Pl tops) {rs : List Rl} (ok : ∀ q ∈ rs, RuleOk tops q) {n : List Int} (h : some n ∈ cands one other rs) : n.length = 4 ∧ TS.Bd BB n := by
  obtain ⟨q, hq, h | h⟩ := cands_mem.mp h
  · exact need_bd l12 pl (ok q hq).1 (ok q hq).2 h
  · exact need_bd l12 pl (ok q hq).2 (ok q hq).1 h
theorem IsNeeds.bd {tops one other : List Int} (l12 : tops.length ≤ 12) (pl : Pl tops) {rs : List Rl} (ok : ∀ q ∈ rs, RuleOk tops q) {ns : List (List Int)} (I : IsNeeds one other rs ns) {n : List Int} (h : n ∈ ns) : n.length = 4 ∧ TS.Bd BB n :=
  cands_bd l12 pl ok ((I.mem n).mp h)
/-- there is one such list -/
theorem IsNeeds.one {tops one other : List Int} (l12 : tops.length ≤ 12) (pl : Pl tops) {rs : List Rl} (ok : ∀ q ∈ rs, RuleOk tops q) {ns ms : List (List Int)} (I : IsNeeds one other rs ns) (J : IsNeeds one other rs ms) : ns = ms := by
  have p : ns.Perm ms := (List.perm_ext_iff_of_nodup I.nd J.nd).mpr fun n => (I.mem n).trans (J.mem n).symm
  refine List.Perm.eq_of_pairwise (le := fun x y => TS.code BB x ≤ TS.code BB y) (fun x y hx hy h1 h2 => ?_) I.up J.up p
  have a := I.bd l12 pl ok hx
  have b := J.bd l12 pl ok hy
  exact code_inj (a.1.trans b.1.symm) a.2 b.2 (by omega)
theorem cands_take (one other : List Int) (rs : List Rl) (i : Nat) (q : Rl) (h : rs[i]? = some q) : cands one other (rs.take (i + 1)) = cands one other (rs.take i) ++ [needOf one other q.1 q.2, needOf one other q.2 q.1] := by
  unfold cands
  rw [List.take_add_one, h, List.flatMap_append]
  rfl
theorem cands_len (one other : List Int) (rs : List Rl) : (cands one other rs).length = 2 * rs.length := by
  unfold cands
  induction rs with
  | nil => rfl
  | cons q rs ih =>
    rw [List.flatMap_cons, List.length_append, ih]
    simp only [List.length_cons, List.length_nil]
    omega

abbrev kGone : Stmt := topS 15
abbrev kLeft : Stmt := topS 19
abbrev kNeed : Stmt := topS 20
abbrev kNeeds : Stmt := topS 21
theorem scGone : FnScope ["one", "other", "thing", "place"] ["one", "other", "thing", "place"] (defScope kGone) := ⟨rfl, rfl, rfl, by decide +kernel, rfl, by decide +kernel, by decide +kernel⟩
theorem scLeft : FnScope ["side", "one", "other"] ["side", "one", "other"] (defScope kLeft) := ⟨rfl, rfl, rfl, by decide +kernel, rfl, by decide +kernel, by decide +kernel⟩
theorem scNeed : FnScope ["one", "other", "left", "entered", "i", "j", "stop", "place"] ["one", "other", "left", "entered"] (defScope kNeed) := ⟨rfl, rfl, rfl, by decide +kernel, rfl, by decide +kernel, by decide +kernel⟩
abbrev nNeeds : List Str := ["plan", "one", "other", "found", "first", "second", "need"]
theorem scNeeds : FnScope nNeeds ["plan", "one", "other"] (defScope kNeeds) := ⟨rfl, rfl, rfl, by decide +kernel, rfl, by decide +kernel, by decide +kernel⟩

section
variable {P : Program} {w : World} {K : PySem.W.Frag} {mg : Str → Option Value} {base : Heap}
def spGone : Sp := fun vs H Q _ => ∃ (a b : Addr) (one other : List Int) (i : Nat) (p : Int), vs = [.ref a, .ref b, .int i, .int p] ∧ H a = some (.tup (one.map V.int)) ∧ H b = some (.tup (other.map V.int)) ∧ i < one.length ∧ i < other.length ∧ Q (.int (gone one other i p)) H
theorem ok_gone {f : Addr} {fd : FuncData} {k : Nat} (F : Fun K "gone_at" "gone_at" kGone f fd) : FnOk P w K mg base CX0 (k + 1) f fd ["one", "other", "thing", "place"] spGone := by
  refine F.ok scGone (fun vs H Q E h => ?_) (fun cdv A outer s H vs Q E hr h => ?_)
  · obtain ⟨a, b, one, other, i, p, rfl, _⟩ := h
    rfl
  · obtain ⟨a, b, one, other, i, p, rfl, ea, eb, la, lb, q⟩ := h
    have ga : atI (one.map V.int) (i : Int) = some (.int one[i]) := at_int la
    have gb : atI (other.map V.int) (i : Int) = some (.int other[i]) := at_int lb
    refine ⟨_, pss_cons (ps_if (pt_cmpR op_lt (pe_ix ix_tup (pv 1) (pv 2) (fun _ _ => rfl)) (pe_ix ix_tup (pv 0) (pv 2) (fun _ _ => rfl)) (nomark _)) (pss_one (ps_ret (pe_op op_sub (pe_ix ix_tup (pv 0) (pv 2) (fun _ _ => rfl)) (pv 3)))) pss_nil)
      (pss_one (ps_ret (pe_op op_sub (pv 3) (pe_ix ix_tup (pv 0) (pv 2) (fun _ _ => rfl))))), ?_⟩
    unfold gone at q
    rw [List.getD_eq_getElem?_getD, List.getD_eq_getElem?_getD, List.getElem?_eq_getElem la, List.getElem?_eq_getElem lb] at q
    simp only [Option.getD_some] at q
    refine ⟨.ref b, rfl, .int i, rfl, b, _, i, _, rfl, rfl, .inl (.inl eb), gb, .ref a, rfl, .int i, rfl, a, _, i, _, rfl, rfl, .inl (.inl ea), ga, _, _, rfl, rfl, _, rfl, ite2 (fun c => ?_) (fun c => ?_)⟩
    · rw [if_pos (of_decide_eq_true c)] at q
      exact ⟨.ref a, rfl, .int i, rfl, a, _, i, _, rfl, rfl, .inl (.inl ea), ga, .int p, rfl, _, p, rfl, rfl, q⟩
    · rw [if_neg (fun z => c (decide_eq_true z))] at q
      exact ⟨.int p, rfl, .ref a, rfl, .int i, rfl, a, _, i, _, rfl, rfl, .inl (.inl ea), ga, p, _, rfl, rfl, q⟩

def spLeft : Sp := fun vs H Q _ => ∃ (p a b : Addr) (sd : Sd) (one other : List Int), vs = [.ref p, .ref a, .ref b] ∧ SideAt H p sd ∧ H a = some (.tup (one.map V.int)) ∧ H b = some (.tup (other.map V.int)) ∧ sd.1 < one.length ∧ sd.1 < other.length ∧ Q (.bl (isLeft sd one other)) H
theorem ok_left {f fI : Addr} {fd fdI : FuncData} {k : Nat} (F : Fun K "is_left" "is_left" kLeft f fd) (In : Kn P w K mg base 1 "is_in" ["side", "standing"] spIn fI fdI) : FnOk P w K mg base CX0 (k + 2) f fd ["side", "one", "other"] spLeft := by
  refine F.ok scLeft (fun vs H Q E h => ?_) (fun cdv A outer s H vs Q E hr h => ?_)
  · obtain ⟨p, a, b, sd, one, other, rfl, _⟩ := h
    rfl
  · obtain ⟨p, a, b, sd, one, other, rfl, ep, ea, eb, la, lb, q⟩ := h
    refine ⟨_, pss_one (ps_ret (pe_and (pe_kn In hr (by omega) (pa_cons (pv 0) (pa_cons (pv 1) pa_nil))) (pe_one (pe_not (pe_kn In hr (by omega) (pa_cons (pv 0) (pa_cons (pv 2) pa_nil))))))), ?_⟩
    unfold isLeft at q
    refine ⟨.ref p, rfl, .ref a, rfl, p, a, sd, one, rfl, ep, ea, la, _, rfl, ite2 (fun c => ?_) (fun c => ?_)⟩
    · rw [c, Bool.true_and] at q
      exact ⟨.ref p, rfl, .ref b, rfl, p, b, sd, other, rfl, ep, eb, lb, _, rfl, q⟩
    · rw [Bool.eq_false_iff.mpr c, Bool.false_and] at q
      exact q

/-- what need_of told, as a value -/
def vOf : Option (Addr × List Int) → V
  | none => .non
  | some z => .ref z.1
def spNeed : Sp := fun vs H Q _ => ∃ (a b p1 p2 : Addr) (one other : List Int) (l e : Sd), vs = [.ref a, .ref b, .ref p1, .ref p2] ∧ H a = some (.tup (one.map V.int)) ∧ H b = some (.tup (other.map V.int)) ∧ SideAt H p1 l ∧ SideAt H p2 e ∧ l.1 < one.length ∧ l.1 < other.length ∧ e.1 < one.length ∧ e.1 < other.length ∧
  ∀ (o : Option (Addr × List Int)) (H' : Hp), Same H H' → o.map (·.2) = needOf one other l e → (∀ z, o = some z → H' z.1 = some (.tup (z.2.map V.int))) → Q (vOf o) H'
set_option maxHeartbeats 2000000 in
theorem ok_need {f fL fG : Addr} {fd fdL fdG : FuncData} {k : Nat} (F : Fun K "need_of" "need_of" kNeed f fd) (Lf : Kn P w K mg base 2 "is_left" ["side", "one", "other"] spLeft fL fdL) (Go : Kn P w K mg base 1 "gone_at" ["one", "other", "thing", "place"] spGone fG fdG) : FnOk P w K mg base CX0 (k + 3) f fd ["one", "other", "left", "entered"] spNeed := by
  refine F.ok scNeed (fun vs H Q E h => ?_) (fun cdv A outer s H vs Q E hr h => ?_)
  · obtain ⟨a, b, p1, p2, one, other, l, e, rfl, _⟩ := h
    rfl
  · obtain ⟨a, b, p1, p2, one, other, ⟨i, wi, stop⟩, ⟨j, wj, place⟩, rfl, ea, eb, e1, e2, h1, h2, h3, h4, q⟩ := h
    have q0 : needOf one other (i, wi, stop) (j, wj, place) = none → Q .non H := fun h => q none H (Same.refl H) h.symm (fun _ z => nomatch z)
    have q1 : ∀ n p, needOf one other (i, wi, stop) (j, wj, place) = some n → H p = none → Q (.ref p) (upd H p (.tup (n.map V.int))) := fun n p h np => q (some (p, n)) _ (same_new np) h.symm (fun z hz => by cases hz; exact upd_same)
    have e1' : H p1 = some (.tup [.int (i : Int), .str (word wi), .int stop]) := e1
    have e2' : H p2 = some (.tup [.int (j : Int), .str (word wj), .int place]) := e2
    refine ⟨_, pss_cons (ps_if (PW.pt (pw_or (pt_not (pt_val (pe_kn Lf hr (by omega) (pa_cons (pv 2) (pa_cons (pv 0) (pa_cons (pv 1) pa_nil)))))) (pw_or1 (pt_not (pt_val (pe_kn Lf hr (by omega) (pa_cons (pv 3) (pa_cons (pv 1) (pa_cons (pv 0) pa_nil))))))))) (pss_one (ps_ret pe_non)) pss_nil)
      (pss_cons (ps_par (i := 4) (j := 5) (by rfl) scNeed.nd rfl rfl (by decide) rfl rfl (pa_cons (pe_ix ix_tup (pv 2) pe_int (fun _ _ => rfl)) (pa_cons (pe_ix ix_tup (pv 3) pe_int (fun _ _ => rfl)) pa_nil)) (by rfl))
      (pss_cons (ps_par (i := 6) (j := 7) (by rfl) scNeed.nd rfl rfl (by decide) rfl rfl (pa_cons (pe_ix ix_tup (pv 2) pe_int (fun _ _ => rfl)) (pa_cons (pe_ix ix_tup (pv 3) pe_int (fun _ _ => rfl)) pa_nil)) (by rfl))
      (pss_cons (ps_if (PW.pt (pw_and (pt_cmpR op_eq (pv 4) (pv 5) (nomark _)) (pw_and1 (pt_cmpR op_le (pe_kn Go hr (by omega) (pa_cons (pv 0) (pa_cons (pv 1) (pa_cons (pv 5) (pa_cons (pv 7) pa_nil))))) (pe_op op_add (pe_kn Go hr (by omega) (pa_cons (pv 0) (pa_cons (pv 1) (pa_cons (pv 4) (pa_cons (pv 6) pa_nil))))) pe_int) (nomark _))))) (pss_one (ps_ret pe_non)) pss_nil)
      (pss_one (ps_ret (pe_tup (pa_cons (pv 4) (pa_cons (pv 6) (pa_cons (pv 5) (pa_cons (pv 7) pa_nil)))))))))), ?_⟩
    unfold needOf at q0 q1
    refine ⟨.ref p1, rfl, .ref a, rfl, .ref b, rfl, p1, a, b, _, one, other, rfl, e1, ea, eb, h1, h2, _, rfl, ite2 (fun c => ?_) (fun c => ?_)⟩
    · rw [if_neg (by rw [(Bool.not_eq_true' _).mp c]; simp)] at q0
      exact q0 rfl
    have c1 : isLeft (i, wi, stop) one other = true := by
      rw [Bool.not_eq_true', Bool.not_eq_false] at c
      exact c
    refine ⟨.ref p2, rfl, .ref b, rfl, .ref a, rfl, p2, b, a, _, other, one, rfl, e2, eb, ea, h4, h3, _, rfl, ite2 (fun c => ?_) (fun c => ?_)⟩
    · rw [if_neg (by rw [(Bool.not_eq_true' _).mp c]; simp)] at q0
      exact q0 rfl
    have c2 : isLeft (j, wj, place) other one = true := by
      rw [Bool.not_eq_true', Bool.not_eq_false] at c
      exact c
    rw [c1, c2] at q0 q1
    simp only [Bool.and_self, if_true] at q0 q1
    refine ⟨.ref p1, rfl, p1, _, 0, _, rfl, rfl, .inl (.inl e1'), rfl, .ref p2, rfl, p2, _, 0, _, rfl, rfl, .inl (.inl e2'), rfl, _, _, rfl, ?_⟩
    refine ⟨.ref p1, rfl, p1, _, 2, _, rfl, rfl, .inl (.inl e1'), rfl, .ref p2, rfl, p2, _, 2, _, rfl, rfl, .inl (.inl e2'), rfl, _, _, rfl, ?_⟩
    have last : ¬ (i = j ∧ gone one other j place ≤ gone one other i stop + 1) → (4 : Nat) ≤ sizeLine ∧ ∀ p, H p = none → Q (.ref p) (upd H p (.tup [.int (i : Int), .int stop, .int (j : Int), .int place])) := fun c => by
      refine ⟨by decide, fun p np => ?_⟩
      exact q1 _ p (if_neg c) np
    refine ⟨_, rfl, _, rfl, rfl, _, rfl, ite2 (fun c => ?_) (fun c => ?_)⟩
    · have cij : i = j := by
        have := of_decide_eq_true c
        injection this with h
        exact Int.ofNat.inj h
      refine ⟨.ref a, rfl, .ref b, rfl, .int j, rfl, .int place, rfl, a, b, one, other, j, place, rfl, ea, eb, h3, h4, .ref a, rfl, .ref b, rfl, .int i, rfl, .int stop, rfl, a, b, one, other, i, stop, rfl, ea, eb, h1, h2, _, 1, rfl, rfl, _, _, rfl, rfl, _, rfl, ite2 (fun c => ?_) (fun c => ?_)⟩
      · exact q0 (if_pos ⟨cij, of_decide_eq_true c⟩)
      · exact ⟨_, rfl, _, rfl, _, rfl, _, rfl, last fun z => c (decide_eq_true z.2)⟩
    · exact ⟨_, rfl, _, rfl, _, rfl, _, rfl, last fun z => c (decide_eq_true (by rw [z.1]))⟩
end

abbrev zs (L : List (Addr × List Int)) : List V := L.map fun z => V.ref z.1
/-- tuples of whole numbers, each at its place -/
def TupsAt (H : Hp) (L : List (Addr × List Int)) : Prop := ∀ z ∈ L, H z.1 = some (.tup (z.2.map V.int))
theorem TupsAt.keep {H H' : Hp} {L : List (Addr × List Int)} (h : TupsAt H L) (k : Keep H H') : TupsAt H' L := fun z hz => k.tup (h z hz)
/-- the needs as they stand in memory -/
def NeedsAt (H : Hp) (p : Addr) (ns : List (List Int)) : Prop := ∃ L : List (Addr × List Int), H p = some (.tup (zs L)) ∧ TupsAt H L ∧ L.map (·.2) = ns
theorem NeedsAt.keep {H H' : Hp} {p : Addr} {ns : List (List Int)} (h : NeedsAt H p ns) (k : Keep H H') : NeedsAt H' p ns := by
  obtain ⟨L, e, t, m⟩ := h
  exact ⟨L, k.tup e, t.keep k, m⟩

theorem wipe_one {σ : L2.St} {k : Nat} {v : Option V} {n : Str} : wipe ((wipe σ ([(n, k)].map (·.2))).set k v) ([(n, k)].map (·.2)) = wipe σ ([(n, k)].map (·.2)) := by
  show ((σ.set k none).set k v).set k none = σ.set k none
  rw [List.set_set, List.set_set]
theorem need_one {one other : List Int} {l e : Sd} {n : List Int} (h : needOf one other l e = some n) : needOf one other e l = none := by
  obtain ⟨_, h1, h2, _⟩ := needOf_shape h
  unfold isLeft at h1 h2
  rw [Bool.and_eq_true, Bool.not_eq_true'] at h1 h2
  unfold needOf isLeft
  rw [h1.2, h2.2]
  simp
theorem cands_few (one other : List Int) : ∀ rs : List Rl, ((cands one other rs).filterMap id).length ≤ rs.length
  | [] => Nat.le_refl _
  | q :: rs => by
    have ih := cands_few one other rs
    show (([needOf one other q.1 q.2, needOf one other q.2 q.1] ++ cands one other rs).filterMap id).length ≤ _
    rw [List.filterMap_append, List.length_append, List.length_cons]
    have : ([needOf one other q.1 q.2, needOf one other q.2 q.1].filterMap id).length ≤ 1 := by
      cases h : needOf one other q.1 q.2 with
      | none =>
        cases needOf one other q.2 q.1 <;> simp
      | some n =>
        rw [need_one h]
        simp
    omega
section
variable {P : Program} {w : World} {K : PySem.W.Frag} {mg : Str → Option Value} {base : Heap}
def spNeeds (K : PySem.W.Frag) (C : Addr) : Sp := fun vs H Q _ => ∃ (x a b : Addr) (tops one other : List Int) (rs : List Rl), vs = [.ref x, .ref a, .ref b] ∧ PlanAtK K C H x tops rs ∧ H a = some (.tup (one.map V.int)) ∧ H b = some (.tup (other.map V.int)) ∧
  tops.length ≤ 12 ∧ Pl tops ∧ rs.length ≤ 40 ∧ (∀ q ∈ rs, RuleOk tops q) ∧ one.length = tops.length ∧ other.length = tops.length ∧
  ∀ H' p ns, Same H H' → H p = none → NeedsAt H' p ns → IsNeeds one other rs ns → Q (.ref p) H'
set_option maxHeartbeats 4000000 in
theorem ok_needs {f fN C : Addr} {fd fdN : FuncData} {k : Nat} (F : Fun K "needs" "needs" kNeeds f fd) (T : PlanTxt K mg C) (Nd : Kn P w K mg base 3 "need_of" ["one", "other", "left", "entered"] spNeed fN fdN) (mt : mg "tuple" = none) (mo : mg "sorted" = none) (ms : mg "set" = none) : FnOk P w K mg base CX0 (k + 4) f fd ["plan", "one", "other"] (spNeeds K C) := by
  refine F.ok scNeeds (fun vs H Q E h => ?_) (fun cdv A outer s H vs Q E hr h => ?_)
  · obtain ⟨x, a, b, tops, one, other, rs, rfl, _⟩ := h
    rfl
  · obtain ⟨x, a, b, tops, one, other, rs, rfl, ⟨dx, tt', R, ex, ett, as, eR, la, ha⟩, ea, eb, l12, pl, l31, ok, lo, lo', q⟩ := h
    have hu : (A.deeper (envOfC "needs" (defScope kNeeds) s.heap.objs.size f cdv)).units + 64 < cLine := by
      have := hr.un
      omega
    refine ⟨_, pss_cons (ps_set (i := 3) scNeeds.nd rfl (.inl rfl) (pe_lst pa_nil))
      (pss_cons (ps_for PassesOwn.never rfl (pi_tup (pe_fld (pv 0) rfl)) (pg_tup rfl (pgs_cons (pg_name (i := 4) scNeeds.nd rfl (.inl rfl)) (pgs_cons (pg_name (i := 5) scNeeds.nd rfl (.inl rfl)) pgs_nil)))
        (pss_cons (ps_expr (pe_bm PySem.F.plainAttrs_list PySem.F.slot_list_append PySem.F.type_list_append mt_append (pv 3) (pa_cons (pe_kn Nd hr (by omega) (pa_cons (pv 1) (pa_cons (pv 2) (pa_cons (pv 4) (pa_cons (pv 5) pa_nil))))) pa_nil)))
        (pss_one (ps_expr (pe_bm PySem.F.plainAttrs_list PySem.F.slot_list_append PySem.F.type_list_append mt_append (pv 3) (pa_cons (pe_kn Nd hr (by omega) (pa_cons (pv 1) (pa_cons (pv 2) (pa_cons (pv 5) (pa_cons (pv 4) pa_nil))))) pa_nil))))))
      (pss_one (ps_ret (pe_callTy call_tuple_of (by rfl) mt (by decide +kernel) (pa_cons (pe_callB (cr_sortedT rfl) (by rfl) mo (by decide +kernel) (pa_cons (pe_callTy (cr_setOfT rfl hu) (by rfl) ms (by decide +kernel) (pa_cons
        (pe_lc (own := [("need", 6)]) (g := gName 6) (tt := tTest (tOp rNotN (tVar 6) (tC .non))) (te := tVar 6) rfl scNeeds.nd (pi_list (pv 3)) (blkOk_by (N := nNeeds) (sc := defScope kNeeds) (by decide +kernel))
          (fun _ _ _ _ _ => pg_name (i := 6) scNeeds.nd rfl (.inl rfl) (hf := .inr rfl)) (fun _ _ _ _ _ => pts_one (pt_cmpR op_notN1 (pv 6) pe_non (nomark _))) (fun _ _ _ _ _ => pv 6)) pa_nil)) pa_nil)) pa_nil))))), ?_⟩
    refine ⟨Nat.zero_le _, fun l nl => ?_⟩
    have s0 : Same H (upd H l (.lst [])) := same_new nl
    refine ⟨.ref x, rfl, x, C, dx, _, _, rfl, s0 _ _ ex, T.cl, T.nR, look_rules _ _, R, rfl, ⟨_, (Keep.same s0).sq eR⟩, for_it (walk_tup (xs := as.map V.ref)) (fun i σ H' => (∃ u4 u5, σ = [some (.ref x), some (.ref a), some (.ref b), some (.ref l), u4, u5, none]) ∧ Same H H' ∧ ∃ ys : List (Option (Addr × List Int)), H' l = some (.lst (ys.map vOf)) ∧ ys.map (Option.map (·.2)) = cands one other (rs.take i) ∧ ∀ z, some z ∈ ys → H' z.1 = some (.tup (z.2.map V.int)))
      ⟨⟨none, none, rfl⟩, s0, [], upd_same, rfl, fun _ h => absurd h List.not_mem_nil⟩ (fun i σ H' _ p => (Keep.same p.2.1).sq eR) (fun i v σ H1 H2 hi p y => ?_) (fun σ H1 p => ?_)⟩
    · obtain ⟨⟨u4, u5, rfl⟩, s1, ys, el, ey, hy⟩ := p
      obtain ⟨rfl, gv⟩ := y
      obtain ⟨r, er, rfl⟩ := mapGet gv
      have hi' : i < as.length := by simpa using hi
      have hr' : i < rs.length := by omega
      have eq : rs[i]? = some rs[i] := List.getElem?_eq_getElem hr'
      have okq := ok _ (List.getElem_mem hr')
      obtain ⟨⟨t1, g1, _⟩, ⟨t2, g2, _⟩⟩ := okq
      have b1 := (List.getElem?_eq_some_iff.mp g1).1
      have b2 := (List.getElem?_eq_some_iff.mp g2).1
      obtain ⟨p1, p2, eR1, h1, h2⟩ := (ha i r _ er eq).keep (.same s1)
      have ly : ys.length = 2 * i := by
        have := congrArg List.length ey
        rw [List.length_map, cands_len, List.length_take] at this
        omega
      refine ⟨r, _, rfl, .inl (.inl eR1), rfl, _, _, rfl, _, _, rfl, rfl, ?_⟩
      refine ⟨.ref l, rfl, .inl ⟨rfl, _, .inl (.inl el)⟩, .ref a, rfl, .ref b, rfl, .ref p1, rfl, .ref p2, rfl, a, b, p1, p2, one, other, _, _, rfl, s1 _ _ ea, s1 _ _ eb, h1, h2, by omega, by omega, by omega, by omega, fun o H3 s3 eo ho => ?_⟩
      have el3 := s3 _ _ el
      refine ⟨l, _, _, rfl, rfl, el3, by rw [List.length_map]; exact small1000 (by omega), ?_⟩
      have s13 : Same H (upd H3 l (.lst (ys.map vOf ++ [vOf o]))) := same_over (s1.trans s3) nl
      have k3 : Keep H3 (upd H3 l (.lst (ys.map vOf ++ [vOf o]))) := .upd el3
      have el4 : (upd H3 l (.lst (ys.map vOf ++ [vOf o]))) l = some (.lst ((ys ++ [o]).map vOf)) := by
        rw [upd_same, List.map_append]
        rfl
      have hy4 : ∀ z, some z ∈ ys ++ [o] → (upd H3 l (.lst (ys.map vOf ++ [vOf o]))) z.1 = some (.tup (z.2.map V.int)) := fun z hz => by
        rcases List.mem_append.mp hz with c | c
        · exact k3.tup (s3 _ _ (hy z c))
        · exact k3.tup (ho z (List.mem_singleton.mp c).symm)
      have k24 : Keep H2 (upd H3 l (.lst (ys.map vOf ++ [vOf o]))) := (Keep.same s3).trans k3
      generalize (upd H3 l (.lst (ys.map vOf ++ [vOf o]))) = H4 at s13 k3 el4 hy4 k24 ⊢
      refine ⟨.ref l, rfl, .inl ⟨rfl, _, .inl (.inl el4)⟩, .ref a, rfl, .ref b, rfl, .ref p2, rfl, .ref p1, rfl, a, b, p2, p1, one, other, _, _, rfl, s13 _ _ ea, s13 _ _ eb, h2.keep k24, h1.keep k24, by omega, by omega, by omega, by omega, fun o' H5 s5 eo' ho' => ?_⟩
      have el5 := s5 _ _ el4
      refine ⟨l, _, _, rfl, rfl, el5, by rw [List.length_map, List.length_append]; exact small1000 (by simp only [List.length_cons, List.length_nil]; omega), ⟨_, _, rfl⟩, same_over (s13.trans s5) nl, ys ++ [o] ++ [o'], ?_, ?_, fun z hz => ?_⟩
      · rw [upd_same, List.map_append (l₁ := ys ++ [o])]
        rfl
      · rw [cands_take _ _ _ _ _ eq, List.map_append, List.map_append, ey, List.append_assoc]
        show _ ++ [o.map (·.2), o'.map (·.2)] = _
        rw [eo, eo']
      · rcases List.mem_append.mp hz with c | c
        · exact (Keep.upd el5).tup (s5 _ _ (hy4 z c))
        · exact (Keep.upd el5).tup (ho' z (List.mem_singleton.mp c).symm)
    · obtain ⟨⟨u4, u5, rfl⟩, s1, ys, el, ey, hy⟩ := p
      rw [List.length_map, List.take_of_length_le (by omega)] at ey
      have ly : ys.length = 2 * rs.length := by
        have := congrArg List.length ey
        rw [List.length_map, cands_len] at this
        exact this
      refine ⟨.ref l, rfl, l, rfl, ⟨_, .inl (.inl el)⟩, fun D nD => lc_it (walk_list (xs := ys.map vOf)) (fun j H' => Same H1 H' ∧ H' D = some (.lst (zs ((ys.take j).filterMap id)))) ⟨same_new nD, upd_same⟩ (fun j H' _ p => .inl (.inl (p.1 _ _ el))) (fun j v H2 H3 hj p yy => ?_) (fun H2 p => ?_)⟩
      · obtain ⟨s2, eD⟩ := p
        obtain ⟨rfl, gv⟩ := yy
        obtain ⟨o, eo, rfl⟩ := mapGet gv
        have tk : (ys.take (j + 1)).filterMap id = (ys.take j).filterMap id ++ o.toList := by
          rw [List.take_add_one, eo, List.filterMap_append]
          cases o <;> rfl
        have lt : (zs ((ys.take j).filterMap id)).length < sizeLine := by
          rw [List.length_map]
          refine Nat.lt_of_le_of_lt (List.length_filterMap_le _ _) ?_
          rw [List.length_take]
          exact small1000 (by omega)
        refine ⟨wipe_one, _, rfl, rfl, _, rfl, ?_⟩
        cases o with
        | none =>
          refine iteF ⟨s2, ?_⟩
          rw [eD, tk]
          simp
        | some z =>
          refine iteT ⟨_, rfl, _, eD, lt, same_over s2 nD, ?_⟩
          rw [upd_same, tk]
          simp [vOf]
      · obtain ⟨s2, eD⟩ := p
        rw [List.length_map, List.take_length] at eD
        have s02 := s1.trans s2
        have lk : (ys.filterMap id).length < 64 := by
          have e1 : (ys.filterMap id).length = ((ys.map (Option.map (·.2))).filterMap id).length := by
            rw [List.filterMap_map, ← List.length_map (f := fun z : Addr × List Int => z.2), List.map_filterMap]
            congr 1
          rw [e1, ey]
          exact Nat.lt_of_le_of_lt (cands_few one other rs) (by omega)
        have hk : ∀ z ∈ ys.filterMap id, H2 z.1 = some (.tup (z.2.map V.int)) ∧ some z.2 ∈ cands one other rs := fun z hz => by
          obtain ⟨o, ho, eo⟩ := List.mem_filterMap.mp hz
          cases o with
          | none => cases eo
          | some z' =>
            cases eo
            refine ⟨s2 _ _ (hy z ho), ?_⟩
            rw [← ey]
            exact List.mem_map.mpr ⟨some z, ho, rfl⟩
        refine ⟨D, ys.filterMap id, rfl, .inl (.inl eD), fun z hz => .inl (.inl (hk z hz).1), lk, fun S L nS hL1 hL2 => ?_⟩
        have sS : Same H2 (upd H2 S (SetTO P w S L)) := same_new nS
        refine ⟨S, L, 4, BB, rfl, upd_same, fun z hz => .inl (.inl (sS _ _ (hk z (hL1 z hz)).1)), by decide, fun z hz => cands_bd l12 pl ok (hk z (hL1 z hz)).2, fun L' p' pm nd few up np' => ?_⟩
        have s3 := (s02.trans sS).trans (same_new (o := .lst (L'.map fun z => V.ref z.1)) np')
        refine ⟨p', _, rfl, .inl ⟨.inl (.inl upd_same), fun g ng => ?_⟩⟩
        have k4 := same_new (o := HO.tup (L'.map fun z => V.ref z.1)) ng
        have mL : ∀ z, z ∈ L' ↔ z ∈ L := fun z => pm.mem_iff
        refine q _ g (L'.map (·.2)) (s3.trans k4) (s3.free ng) ⟨L', upd_same, fun z hz => ?_, rfl⟩ ⟨nd, by rw [List.pairwise_map]; exact up, fun n => ⟨fun hn => ?_, fun hn => ?_⟩, by rw [List.length_map]; exact few⟩
        · exact k4 _ _ (same_new np' _ _ (sS _ _ (hk z (hL1 z ((mL z).mp hz))).1))
        · obtain ⟨z, hz, rfl⟩ := List.mem_map.mp hn
          exact (hk z (hL1 z ((mL z).mp hz))).2
        · rw [← ey] at hn
          obtain ⟨o, ho, eo⟩ := List.mem_map.mp hn
          cases o with
          | none => cases eo
          | some z =>
            cases eo
            obtain ⟨z', hz', e'⟩ := List.mem_map.mp (hL2 z (List.mem_filterMap.mpr ⟨some z, ho, rfl⟩))
            exact List.mem_map.mpr ⟨z', (mL z').mpr hz', e'⟩
end
end K49

set_option Elab.async false
set_option linter.all false
set_option maxRecDepth 100000
namespace K49
open PySem PySem.Spec PyProof.Rows L2 NB

/-! ### the law's own needs -/
abbrev aIn : Stmt := topS 62
abbrev aNeeds : Stmt := topS 63
theorem scLIn : FnScope ["_law_side", "_law_standing_here", "_law_thing", "_law_word", "_law_place"] ["_law_side", "_law_standing_here"] (defScope aIn) := ⟨rfl, rfl, rfl, by decide +kernel, rfl, by decide +kernel, by decide +kernel⟩
abbrev nLNeeds : List Str := ["_law_rules", "_law_one", "_law_other", "_law_found", "_law_rule", "_law_leaving", "_law_coming", "_law_goes_out", "_law_comes_in", "_law_on"]
theorem scLNeeds : FnScope nLNeeds ["_law_rules", "_law_one", "_law_other"] (defScope aNeeds) := ⟨rfl, rfl, rfl, by decide +kernel, rfl, by decide +kernel, by decide +kernel⟩
/-- a dict whose keys are such needs -/
def DictHas (H : Hp) (d : Addr) (cs : List (Option (List Int))) : Prop := ∃ (kvs : List (List Key × V)) (ns : List (List Int)), H d = some (.dT kvs) ∧ kvs.map (·.1) = (ns.map fun n => n.map Sum.inl) ∧ ns.Nodup ∧ ns.length ≤ cs.length ∧ ∀ n, n ∈ ns ↔ some n ∈ cs
theorem putK_keys {κ : Type} [DecidableEq κ] (kvs : List (κ × V)) (k : κ) (v : V) : (putK kvs k v).map (·.1) = if k ∈ kvs.map (·.1) then kvs.map (·.1) else kvs.map (·.1) ++ [k] := by
  unfold putK
  have e : ((kvs.any fun kv => decide (kv.1 = k)) = true) ↔ k ∈ kvs.map (·.1) := by
    rw [List.any_eq_true, List.mem_map]
    constructor
    · rintro ⟨x, hx, h⟩
      exact ⟨x, hx, of_decide_eq_true h⟩
    · rintro ⟨x, hx, h⟩
      exact ⟨x, hx, decide_eq_true h⟩
  by_cases c : k ∈ kvs.map (·.1)
  · rw [if_pos (e.mpr c), if_pos c, List.map_map]
    refine List.map_congr_left fun x _ => ?_
    show (if x.1 = k then (x.1, v) else x).1 = x.1
    split <;> rfl
  · rw [if_neg (fun h => c (e.mp h)), if_neg c, List.map_append]
    rfl
theorem inl_inj {n m : List Int} (h : n.map (Sum.inl : Int → Key) = m.map Sum.inl) : n = m := by
  have := congrArg (List.map fun k : Key => match k with | .inl i => i | .inr _ => 0) h
  rw [List.map_map, List.map_map] at this
  have e : ∀ l : List Int, l.map ((fun k : Key => match k with | .inl i => i | .inr _ => 0) ∘ (Sum.inl : Int → Key)) = l := fun l => by
    rw [show ((fun k : Key => match k with | .inl i => i | .inr _ => 0) ∘ (Sum.inl : Int → Key)) = id from rfl, List.map_id]
  rwa [e, e] at this
theorem DictHas.none {H H' : Hp} {d : Addr} {cs : List (Option (List Int))} (h : DictHas H d cs) (s : ∀ o, H d = some o → H' d = some o) : DictHas H' d (cs ++ [none]) := by
  obtain ⟨kvs, ns, e, k, nd, l, m⟩ := h
  refine ⟨kvs, ns, s _ e, k, nd, by rw [List.length_append]; omega, fun n => (m n).trans ?_⟩
  rw [List.mem_append, List.mem_singleton]
  exact ⟨.inl, fun h => h.elim id fun h => nomatch h⟩
theorem DictHas.keep {H H' : Hp} {d : Addr} {cs : List (Option (List Int))} (h : DictHas H d cs) (s : ∀ o, H d = some o → H' d = some o) : DictHas H' d cs := by
  obtain ⟨kvs, ns, e, r⟩ := h
  exact ⟨kvs, ns, s _ e, r⟩
theorem DictHas.put {H : Hp} {d : Addr} {cs : List (Option (List Int))} {kvs : List (List Key × V)} {ns : List (List Int)} {n : List Int} {v : V} (e : kvs.map (·.1) = (ns.map fun n => n.map Sum.inl)) (nd : ns.Nodup) (l : ns.length ≤ cs.length) (m : ∀ n, n ∈ ns ↔ some n ∈ cs) :
    DictHas (upd H d (.dT (putK kvs (n.map Sum.inl) v))) d (cs ++ [some n]) := by
  have key := putK_keys kvs (n.map Sum.inl) v
  have mm : n.map (Sum.inl : Int → Key) ∈ kvs.map (·.1) ↔ n ∈ ns := by
    rw [e, List.mem_map]
    constructor
    · rintro ⟨x, hx, h⟩
      rw [← inl_inj h]
      exact hx
    · intro h
      exact ⟨n, h, rfl⟩
  by_cases c : n ∈ ns
  · rw [if_pos (mm.mpr c)] at key
    refine ⟨_, ns, upd_same, key.trans e, nd, by rw [List.length_append]; omega, fun x => (m x).trans ?_⟩
    rw [List.mem_append, List.mem_singleton]
    refine ⟨.inl, fun h => h.elim id fun h => ?_⟩
    rw [Option.some.inj h]
    exact (m n).mp c
  · rw [if_neg (fun h => c (mm.mp h))] at key
    refine ⟨_, ns ++ [n], upd_same, by rw [key, e, List.map_append]; rfl, ?_, by rw [List.length_append, List.length_append]; exact Nat.add_le_add_right l _, fun x => ?_⟩
    · rw [List.nodup_append]
      refine ⟨nd, by simp, fun a ha b hb => ?_⟩
      rw [List.mem_singleton.mp hb]
      exact fun h => c (h ▸ ha)
    · rw [List.mem_append, List.mem_append, m, List.mem_singleton, List.mem_singleton]
      exact or_congr Iff.rfl ⟨fun h => by rw [h], fun h => Option.some.inj h⟩
/-- how the law says it -/
theorem needOf_law {one other : List Int} {l e : Sd} (h1 : l.1 < one.length) (h2 : l.1 < other.length) {c : Bool} (hc : c = (isLeft l one other && (isLeft e other one && (decide (l.1 ≠ e.1) || decide ((e.2.2 - l.2.2) * (if other[l.1] > one[l.1] then 1 else -1) > 1))))) :
    needOf one other l e = if c then some [(l.1 : Int), l.2.2, (e.1 : Int), e.2.2] else none := by
  subst hc
  unfold needOf
  cases c1 : isLeft l one other with
  | false => simp
  | true =>
    cases c2 : isLeft e other one with
    | false => simp
    | true =>
      simp only [Bool.and_self, Bool.true_and, if_true]
      by_cases c3 : l.1 = e.1
      · have ne : one[l.1] ≠ other[l.1] := fun he => by
          unfold isLeft inB at c1
          rw [List.getElem?_eq_getElem h1, List.getElem?_eq_getElem h2, he] at c1
          simp at c1
        have gl : gone one other e.1 e.2.2 ≤ gone one other l.1 l.2.2 + 1 ↔ ¬ ((e.2.2 - l.2.2) * (if other[l.1] > one[l.1] then 1 else -1) > 1) := by
          unfold gone
          rw [← c3]
          simp only [List.getD_eq_getElem?_getD, List.getElem?_eq_getElem h1, List.getElem?_eq_getElem h2, Option.getD_some]
          by_cases c4 : other[l.1] < one[l.1]
          · rw [if_pos c4, if_pos c4, if_neg (by omega)]
            omega
          · rw [if_neg c4, if_neg c4, if_pos (by omega)]
            omega
        by_cases c5 : (e.2.2 - l.2.2) * (if other[l.1] > one[l.1] then 1 else -1) > 1
        · rw [if_neg (fun z => (gl.mp z.2) c5), if_pos (by rw [decide_eq_true c5, Bool.or_true])]
        · rw [if_pos ⟨c3, gl.mpr c5⟩, if_neg (by rw [decide_eq_false c5, Bool.or_false, decide_eq_true_eq]; exact fun z => z c3)]
      · rw [if_neg (fun z => c3 z.1), if_pos (by rw [decide_eq_true c3, Bool.true_or])]
/-- two ways joined -/
theorem tand_join {c x : Bool} {tb : TE} {σ : L2.St} {H : Hp} {K : VK} (hb : ∀ Q : VK, Q (.bl x) H → tb σ H Q) (q : K (.bl (c && x)) H) : if c = true then tb σ H K else K (.bl false) H := by
  cases c with
  | true => exact hb K q
  | false => exact q
theorem tif_join {c : Bool} {v : V} {ta tb : TE} {σ : L2.St} {H : Hp} {K : VK} (ha : c = true → ∀ Q : VK, Q v H → ta σ H Q) (hb : ¬ c = true → ∀ Q : VK, Q v H → tb σ H Q) (q : K v H) : if c = true then ta σ H K else tb σ H K := by
  cases c with
  | true => exact ha rfl K q
  | false => exact hb (by simp) K q
theorem tand_joinT {c x : Bool} {u : TT} {σ : L2.St} {H : Hp} {Q : Bool → Hp → Prop} (hu : ∀ Q : Bool → Hp → Prop, Q x H → u σ H Q) (q : Q (c && x) H) : if c = true then u σ H Q else Q false H := by
  cases c with
  | true => exact hu Q q
  | false => exact q
theorem tor_join {c x : Bool} {u : TT} {σ : L2.St} {H : Hp} {Q : Bool → Hp → Prop} (hu : ∀ Q : Bool → Hp → Prop, Q x H → u σ H Q) (q : Q (c || x) H) : if c = true then Q true H else u σ H Q := by
  cases c with
  | true => exact q
  | false => exact hu Q q
section
variable {P : Program} {w : World} {K : PySem.W.Frag} {mg : Str → Option Value} {base : Heap}
theorem ok_lin {f : Addr} {fd : FuncData} {k : Nat} (F : Fun K "_law_is_in" "_law_is_in" aIn f fd) : FnOk P w K mg base CX0 (k + 1) f fd ["_law_side", "_law_standing_here"] spIn := by
  refine F.ok scLIn (fun vs H Q E h => ?_) (fun cdv A outer s H vs Q E hr h => ?_)
  · obtain ⟨p, t, sd, xs, rfl, _⟩ := h
    rfl
  · obtain ⟨p, t, ⟨n, b, pl⟩, xs, rfl, ep, et, ln, q⟩ := h
    have ep' : H p = some (.tup [.int (n : Int), .str (word b), .int pl]) := ep
    have ln' : n < xs.length := ln
    have eg := at_int ln'
    have eb : inB xs (n, b, pl) = if b then decide (pl ≤ xs[n]) else decide (xs[n] ≤ pl) := by
      unfold inB
      simp only [List.getElem?_eq_getElem ln']
    rw [eb] at q
    refine ⟨_, pss_cons (ps_asg (pv 0) (pg_tup (by rfl) (pgs_cons (pg_name (i := 2) scLIn.nd rfl (.inl rfl)) (pgs_cons (pg_name (i := 3) scLIn.nd rfl (.inl rfl)) (pgs_cons (pg_name (i := 4) scLIn.nd rfl (.inl rfl)) pgs_nil)))))
      (pss_one (ps_ret (pe_ifExp (pt_cmpR op_eq (pv 3) pe_str (nomark _)) (pe_cmpR op_ge (pe_ix ix_tup (pv 1) (pv 2) (fun _ _ => rfl)) (pv 4) (nomark _)) (pe_cmpR op_le (pe_ix ix_tup (pv 1) (pv 2) (fun _ _ => rfl)) (pv 4) (nomark _))))), ?_⟩
    refine ⟨.ref p, rfl, p, _, rfl, .inl (.inl ep'), rfl, _, _, rfl, _, _, rfl, _, _, rfl, rfl, ?_⟩
    cases b with
    | true =>
      refine ⟨_, rfl, rfl, true, congrArg V.bl w_from, iteT ?_⟩
      exact ⟨.ref t, rfl, .int n, rfl, t, _, n, _, rfl, rfl, .inl (.inl et), eg, .int pl, rfl, _, pl, rfl, rfl, q⟩
    | false =>
      refine ⟨_, rfl, rfl, false, congrArg V.bl w_to, iteF ?_⟩
      exact ⟨.ref t, rfl, .int n, rfl, t, _, n, _, rfl, rfl, .inl (.inl et), eg, .int pl, rfl, _, pl, rfl, rfl, q⟩

/-- the same promise of the law's needs: the rising tuple of all -/
def spLNeeds : Sp := fun vs H Q _ => ∃ (R a b : Addr) (tops one other : List Int) (rs : List Rl), vs = [.ref R, .ref a, .ref b] ∧ RulesAt H R rs ∧ H a = some (.tup (one.map V.int)) ∧ H b = some (.tup (other.map V.int)) ∧
  tops.length ≤ 12 ∧ Pl tops ∧ rs.length ≤ 31 ∧ (∀ q ∈ rs, RuleOk tops q) ∧ one.length = tops.length ∧ other.length = tops.length ∧
  ∀ H' p ns, Same H H' → H p = none → NeedsAt H' p ns → IsNeeds one other rs ns → Q (.ref p) H'
set_option maxHeartbeats 8000000 in
theorem ok_lneeds {f fI : Addr} {fd fdI : FuncData} {k : Nat} (F : Fun K "_law_needs" "_law_needs" aNeeds f fd) (In : Kn P w K mg base 1 "_law_is_in" ["_law_side", "_law_standing_here"] spIn fI fdI) (mt : mg "tuple" = none) (mo : mg "sorted" = none) : FnOk P w K mg base CX0 (k + 2) f fd ["_law_rules", "_law_one", "_law_other"] spLNeeds := by
  refine F.ok scLNeeds (fun vs H Q E h => ?_) (fun cdv A outer s H vs Q E hr h => ?_)
  · obtain ⟨R, a, b, tops, one, other, rs, rfl, _⟩ := h
    rfl
  · obtain ⟨R, a, b, tops, one, other, rs, rfl, ⟨as, eR, la, ha⟩, ea, eb, l12, pl, l31, ok, lo, lo', q⟩ := h
    have hu : (A.deeper (envOfC "_law_needs" (defScope aNeeds) s.heap.objs.size f cdv)).units + 1 < cLine := by
      have := hr.un
      omega
    refine ⟨_, pss_cons (ps_set (i := 3) scLNeeds.nd rfl (.inl rfl) pe_dnewT)
      (pss_cons (ps_for PassesOwn.never rfl (pi_tup (pv 0)) (pg_name (i := 4) scLNeeds.nd rfl (.inl rfl))
        (pss_one (ps_for PassesOwn.never rfl (pi_tup (pe_tup (pa_cons (pv 4) (pa_cons (pe_revT (pv 4)) pa_nil)))) (pg_tup rfl (pgs_cons (pg_name (i := 5) scLNeeds.nd rfl (.inl rfl)) (pgs_cons (pg_name (i := 6) scLNeeds.nd rfl (.inl rfl)) pgs_nil)))
          (pss_cons (ps_set (i := 7) scLNeeds.nd rfl (.inl rfl) (pe_and (pe_kn In hr (by omega) (pa_cons (pv 5) (pa_cons (pv 1) pa_nil))) (pe_one (pe_not (pe_kn In hr (by omega) (pa_cons (pv 5) (pa_cons (pv 2) pa_nil)))))))
          (pss_cons (ps_set (i := 8) scLNeeds.nd rfl (.inl rfl) (pe_and (pe_kn In hr (by omega) (pa_cons (pv 6) (pa_cons (pv 2) pa_nil))) (pe_one (pe_not (pe_kn In hr (by omega) (pa_cons (pv 6) (pa_cons (pv 1) pa_nil)))))))
          (pss_cons (ps_set (i := 9) scLNeeds.nd rfl (.inl rfl) (pe_ifExp (pt_cmpR op_gt (pe_ix ix_tup (pv 2) (pe_ix ix_tup (pv 5) pe_int (fun _ _ => rfl)) (fun _ _ => rfl)) (pe_ix ix_tup (pv 1) (pe_ix ix_tup (pv 5) pe_int (fun _ _ => rfl)) (fun _ _ => rfl)) (nomark _)) pe_int (pe_un un_neg pe_int)))
          (pss_one (ps_if (PW.pt (pw_and (pt_val (pv 7)) (pw_and (pt_val (pv 8)) (pw_and1 (PW.pt (pw_or (pt_cmpR op_ne (pe_ix ix_tup (pv 5) pe_int (fun _ _ => rfl)) (pe_ix ix_tup (pv 6) pe_int (fun _ _ => rfl)) (nomark _)) (pw_or1 (pt_cmpR op_gt (pe_op op_mul (pe_op op_sub (pe_ix ix_tup (pv 6) pe_int (fun _ _ => rfl)) (pe_ix ix_tup (pv 5) pe_int (fun _ _ => rfl))) (pv 9)) pe_int (nomark _)))))))))
            (pss_one (ps_dput hu (pv 3) (pe_tup (pa_cons (pe_ix ix_tup (pv 5) pe_int (fun _ _ => rfl)) (pa_cons (pe_ix ix_tup (pv 5) pe_int (fun _ _ => rfl)) (pa_cons (pe_ix ix_tup (pv 6) pe_int (fun _ _ => rfl)) (pa_cons (pe_ix ix_tup (pv 6) pe_int (fun _ _ => rfl)) pa_nil))))) pe_bl rfl)) pss_nil))))))))
      (pss_one (ps_ret (pe_callTy call_tuple_of (by rfl) mt (by decide +kernel) (pa_cons (pe_callB (sortD (d := 4) (B := BB) rfl (by decide)) (by rfl) mo (by decide +kernel) (pa_cons (pv 3) pa_nil)) pa_nil))))), ?_⟩
    refine fun d nd => ?_
    have s0 : Same H (upd H d (.dT [])) := same_new nd
    refine ⟨.ref R, rfl, R, rfl, ⟨_, .inl (.inl (s0 _ _ eR))⟩, for_it (walk_tup (xs := as.map V.ref)) (fun i σ H' => (∃ u4 u5 u6 u7 u8 u9, σ = [some (.ref R), some (.ref a), some (.ref b), some (.ref d), u4, u5, u6, u7, u8, u9]) ∧ Same H H' ∧ DictHas H' d (cands one other (rs.take i)))
      ⟨⟨none, none, none, none, none, none, rfl⟩, s0, [], [], upd_same, rfl, List.nodup_nil, Nat.zero_le _, fun n => ⟨fun h => absurd h List.not_mem_nil, fun h => absurd h List.not_mem_nil⟩⟩ (fun i σ H' _ p => .inl (.inl (p.2.1 _ _ eR))) (fun i v σ H1 H2 hi p y => ?_) (fun σ H1 p => ?_)⟩
    · obtain ⟨⟨u4, u5, u6, u7, u8, u9, rfl⟩, s1, dh⟩ := p
      obtain ⟨rfl, gv⟩ := y
      obtain ⟨r, er, rfl⟩ := mapGet gv
      have hi' : i < as.length := by simpa using hi
      have hr' : i < rs.length := by omega
      have eq : rs[i]? = some rs[i] := List.getElem?_eq_getElem hr'
      have okq := ok _ (List.getElem_mem hr')
      obtain ⟨p1, p2, eR1, h1, h2⟩ := (ha i r _ er eq).keep (.same s1)
      refine ⟨.ref r, rfl, .ref r, rfl, r, _, rfl, .inl (.inl eR1), fun r' nr' => ⟨(show 2 ≤ sizeLine by decide), fun T nT => ?_⟩⟩
      have s3 : Same H2 (upd (upd H2 r' (.tup [V.ref p1, V.ref p2].reverse)) T (.tup [.ref r, .ref r'])) := (same_new nr').trans (same_new nT)
      have e3 : (upd (upd H2 r' (.tup [V.ref p1, V.ref p2].reverse)) T (.tup [.ref r, .ref r'])) r' = some (.tup [.ref p2, .ref p1]) := same_new nT _ _ upd_same
      have eT3 : (upd (upd H2 r' (.tup [V.ref p1, V.ref p2].reverse)) T (.tup [.ref r, .ref r'])) T = some (.tup [.ref r, .ref r']) := upd_same
      generalize (upd (upd H2 r' (.tup [V.ref p1, V.ref p2].reverse)) T (.tup [.ref r, .ref r'])) = H3 at s3 e3 eT3 ⊢
      refine ⟨T, rfl, ⟨_, .inl (.inl eT3)⟩, for_it (walk_tup (xs := [V.ref r, V.ref r'])) (fun j σ H' => (∃ u5 u6 u7 u8 u9, σ = [some (.ref R), some (.ref a), some (.ref b), some (.ref d), some (.ref r), u5, u6, u7, u8, u9]) ∧ Same H H' ∧ H' T = some (.tup [.ref r, .ref r']) ∧ (H' r = some (.tup [.ref p1, .ref p2]) ∧ H' r' = some (.tup [.ref p2, .ref p1]) ∧ SideAt H' p1 rs[i].1 ∧ SideAt H' p2 rs[i].2) ∧ DictHas H' d (cands one other (rs.take i) ++ ([needOf one other rs[i].1 rs[i].2, needOf one other rs[i].2 rs[i].1].take j)))
        ⟨⟨_, _, _, _, _, rfl⟩, s1.trans s3, eT3, ⟨s3 _ _ eR1, e3, h1.keep (.same s3), h2.keep (.same s3)⟩, by rw [List.take_zero, List.append_nil]; exact dh.keep (s3 _)⟩ (fun j σ H' _ p => .inl (.inl p.2.2.1)) (fun j v σ H4 H5 hj p y => ?_) (fun σ H4 p => ?_)⟩
      · obtain ⟨⟨u5, u6, u7, u8, u9, rfl⟩, s4, eT4, ⟨er4, er4', h14, h24⟩, dh4⟩ := p
        obtain ⟨rfl, gv⟩ := y
        have pick : ∃ (rr pl pe : Addr) (l e : Sd), v = .ref rr ∧ H5 rr = some (.tup [.ref pl, .ref pe]) ∧ SideAt H5 pl l ∧ SideAt H5 pe e ∧ SideOk tops l ∧ SideOk tops e ∧ [needOf one other rs[i].1 rs[i].2, needOf one other rs[i].2 rs[i].1].take (j + 1) = [needOf one other rs[i].1 rs[i].2, needOf one other rs[i].2 rs[i].1].take j ++ [needOf one other l e] := by
          match j, gv with
          | 0, gv =>
            cases gv
            exact ⟨r, p1, p2, _, _, rfl, er4, h14, h24, okq.1, okq.2, rfl⟩
          | 1, gv =>
            cases gv
            exact ⟨r', p2, p1, _, _, rfl, er4', h24, h14, okq.2, okq.1, rfl⟩
          | j + 2, gv => simp at gv
        obtain ⟨rr, pl, pe, ⟨i1, w1, stop⟩, ⟨i2, w2, place⟩, rfl, err, hl, he, okl, oke, tk⟩ := pick
        rw [tk, ← List.append_assoc]
        have l1' : i1 < tops.length := (List.getElem?_eq_some_iff.mp okl.choose_spec.1).1
        have l2' : i2 < tops.length := (List.getElem?_eq_some_iff.mp oke.choose_spec.1).1
        have ea4 := s4 _ _ ea
        have eb4 := s4 _ _ eb
        have hl' : H5 pl = some (.tup [.int (i1 : Int), .str (word w1), .int stop]) := hl
        have he' : H5 pe = some (.tup [.int (i2 : Int), .str (word w2), .int place]) := he
        have a1 : i1 < one.length := by omega
        have a2 : i1 < other.length := by omega
        refine ⟨rr, _, rfl, .inl (.inl err), rfl, _, _, rfl, _, _, rfl, rfl, ?_⟩
        refine ⟨.ref pl, rfl, .ref a, rfl, pl, a, (i1, w1, stop), one, rfl, hl, ea4, a1, _, rfl, tand_join (x := !inB other (i1, w1, stop)) (fun Q q => ⟨.ref pl, rfl, .ref b, rfl, pl, b, (i1, w1, stop), other, rfl, hl, eb4, a2, _, rfl, q⟩) ?_⟩
        refine ⟨.ref pe, rfl, .ref b, rfl, pe, b, (i2, w2, place), other, rfl, he, eb4, (show i2 < other.length by omega), _, rfl, tand_join (x := !inB one (i2, w2, place)) (fun Q q => ⟨.ref pe, rfl, .ref a, rfl, pe, a, (i2, w2, place), one, rfl, he, ea4, (show i2 < one.length by omega), _, rfl, q⟩) ?_⟩
        refine ⟨.ref b, rfl, .ref pl, rfl, pl, _, 0, _, rfl, rfl, .inl (.inl hl'), rfl, b, _, i1, _, rfl, rfl, .inl (.inl eb4), at_int a2, .ref a, rfl, .ref pl, rfl, pl, _, 0, _, rfl, rfl, .inl (.inl hl'), rfl, a, _, i1, _, rfl, rfl, .inl (.inl ea4), at_int a1, _, _, rfl, rfl, _, rfl, tif_join (v := .int (if other[i1] > one[i1] then 1 else -1)) (fun c Q q => ?_) (fun c Q q => ?_) ?_⟩
        · rw [if_pos (of_decide_eq_true c)] at q
          exact q
        · rw [if_neg (fun z => c (decide_eq_true z))] at q
          exact ⟨1, rfl, q⟩
        have hon : (-(2 ^ 64) < (if other[i1] > one[i1] then 1 else -1 : Int) ∧ (if other[i1] > one[i1] then 1 else -1 : Int) < 2 ^ 64) := by
          split <;> decide
        have key := needOf_law (one := one) (other := other) (l := (i1, w1, stop)) (e := (i2, w2, place)) a1 a2 rfl
        have enx : (!decide (V.int (i1 : Int) = V.int (i2 : Int))) = decide (i1 ≠ i2) := by
          by_cases c : i1 = i2
          · subst c
            simp
          · have : ¬ (V.int (i1 : Int) = V.int (i2 : Int)) := fun z => by
              injection z with z
              exact c (Int.ofNat.inj z)
            rw [decide_eq_false this, decide_eq_true c]
            rfl
        refine ⟨_, rfl, _, rfl, tand_joinT (x := (inB other (i2, w2, place) && !inB one (i2, w2, place)) && (decide (i1 ≠ i2) || decide ((place - stop) * (if other[i1] > one[i1] then 1 else -1) > 1))) (fun Q q => ⟨_, rfl, _, rfl, tand_joinT (x := decide (i1 ≠ i2) || decide ((place - stop) * (if other[i1] > one[i1] then 1 else -1) > 1)) (fun Q q => ?_) q⟩) ?_⟩
        · refine ⟨.ref pl, rfl, pl, _, 0, _, rfl, rfl, .inl (.inl hl'), rfl, .ref pe, rfl, pe, _, 0, _, rfl, rfl, .inl (.inl he'), rfl, rfl, _, rfl, tor_join (x := decide ((place - stop) * (if other[i1] > one[i1] then 1 else -1) > 1)) (fun Q q => ?_) ?_⟩
          · exact ⟨.ref pe, rfl, pe, _, 2, _, rfl, rfl, .inl (.inl he'), rfl, .ref pl, rfl, pl, _, 2, _, rfl, rfl, .inl (.inl hl'), rfl, _, _, rfl, rfl, _, rfl, _, _, rfl, rfl, .inr hon, _, 1, rfl, rfl, _, rfl, q⟩
          · rw [enx]
            exact q
        have cond : ((inB one (i1, w1, stop) && !inB other (i1, w1, stop)) && ((inB other (i2, w2, place) && !inB one (i2, w2, place)) && (decide (i1 ≠ i2) || decide ((place - stop) * (if other[i1] > one[i1] then 1 else -1) > 1)))) = (isLeft (i1, w1, stop) one other && (isLeft (i2, w2, place) other one && (decide (i1 ≠ i2) || decide ((place - stop) * (if other[i1] > one[i1] then 1 else -1) > 1)))) := rfl
        refine ite2 (fun c => ?_) (fun c => ?_)
        · rw [if_pos (by rw [← cond]; exact c)] at key
          rw [key]
          obtain ⟨kvs, ns, ed, kk, nd', ll, mm⟩ := dh4
          refine ⟨.ref d, rfl, .ref pl, rfl, pl, _, 0, _, rfl, rfl, .inl (.inl hl'), rfl, .ref pl, rfl, pl, _, 2, _, rfl, rfl, .inl (.inl hl'), rfl, .ref pe, rfl, pe, _, 0, _, rfl, rfl, .inl (.inl he'), rfl, .ref pe, rfl, pe, _, 2, _, rfl, rfl, .inl (.inl he'), rfl, (show 4 ≤ sizeLine by decide), fun T' nT' => ?_⟩
          have sT := same_new (o := HO.tup [V.int (i1 : Int), .int stop, .int (i2 : Int), .int place]) nT'
          have lk : kvs.length < sizeLine := by
            have e := congrArg List.length kk
            rw [List.length_map, List.length_map] at e
            have c1 := cands_len one other (rs.take i)
            rw [List.length_append, c1, List.length_take, List.length_take] at ll
            exact small1000 (by simp only [List.length_cons, List.length_nil] at ll; omega)
          refine ⟨d, _, rfl, DPut.t (k := [(i1 : Int), stop, (i2 : Int), place].map Sum.inl) (sT _ _ ed) upd_same lk, ?_⟩
          have ndd : d ≠ T' := ne_of_none ed nT'
          have keepD : ∀ (x : Addr) (o : HO), x ≠ d → H5 x = some o → (upd (upd H5 T' (.tup [V.int (i1 : Int), .int stop, .int (i2 : Int), .int place])) d (.dT (putK kvs ([(i1 : Int), stop, (i2 : Int), place].map Sum.inl) (.bl true)))) x = some o := fun x o ne e => by
            rw [upd_ne ne]
            exact sT _ _ e
          have nt : ∀ {x : Addr} {xs : List V}, H5 x = some (.tup xs) → x ≠ d := fun e z => by
            rw [z, ed] at e
            cases e
          exact ⟨⟨_, _, _, _, _, rfl⟩, same_over (s4.trans sT) nd, keepD _ _ (nt eT4) eT4, ⟨keepD _ _ (nt er4) er4, keepD _ _ (nt er4') er4', keepD _ _ (nt h14) h14, keepD _ _ (nt h24) h24⟩, DictHas.put kk nd' ll mm⟩
        · rw [if_neg (by rw [← cond]; exact c)] at key
          rw [key]
          exact ⟨⟨_, _, _, _, _, rfl⟩, s4, eT4, ⟨er4, er4', h14, h24⟩, dh4.none fun _ e => e⟩
      · obtain ⟨⟨u5, u6, u7, u8, u9, rfl⟩, s4, eT4, _, dh4⟩ := p
        refine ⟨⟨_, _, _, _, _, _, rfl⟩, s4, ?_⟩
        rw [cands_take _ _ _ _ _ eq]
        exact dh4
    · obtain ⟨⟨u4, u5, u6, u7, u8, u9, rfl⟩, s1, kvs, ns, ed, kk, nd', ll, mm⟩ := p
      rw [List.length_map, List.take_of_length_le (by omega)] at ll mm
      rw [cands_len] at ll
      refine ⟨.ref d, rfl, d, kvs, ns, rfl, ed, kk, by omega, fun n hn => cands_bd l12 pl ok ((mm n).mp hn), fun L p' pm hL up np' => ?_⟩
      have s2 := s1.trans (same_new (o := .lst (L.map fun z => V.ref z.1)) np')
      refine ⟨p', _, rfl, .inl ⟨.inl (.inl upd_same), fun g ng => ?_⟩⟩
      have k4 := same_new (o := HO.tup (L.map fun z => V.ref z.1)) ng
      refine q _ g (L.map (·.2)) (s2.trans k4) (s2.free ng) ⟨L, upd_same, fun z hz => k4 _ _ (same_new np' _ _ (hL z hz)), rfl⟩ ⟨pm.nodup_iff.mpr nd', by rw [List.pairwise_map]; exact up, fun n => pm.mem_iff.trans (mm n), by rw [pm.length_eq]; omega⟩
end
end K49

set_option Elab.async false
set_option linter.all false
set_option maxRecDepth 100000
namespace NB
open PySem PySem.Spec PyProof.Rows L2
section
variable {X : Cx}
/-- the whole numbers a, a - 1, .. down to above b -/
def dnV (a b : Int) : List V := (List.range (a - b).toNat).map fun i => V.int (a - (i : Nat))
/-- list(range(a, b, c)), c being -1 -/
def tLstDn (ta : TA) : TE := fun σ H Q => ta σ H fun vs H1 => ∃ a b : Int, vs = [.int a, .int b, .int (-1)] ∧ (-(2 ^ 62) ≤ a ∧ a < 2 ^ 62 ∧ -(2 ^ 62) ≤ b ∧ b < 2 ^ 62 ∧ (a - b).toNat ≤ 2 ^ 24) ∧ ∀ q, H1 q = none → Q (.ref q) (upd H1 q (.lst (dnV a b)))
theorem pe_listDn {x y z : Expr} {ta : TA} {p p' pos pos' : Pos} (hc : X.calm = true) (hl : Gl X "list") (ml : X.mg "list" = none) (hg : Gl X "range") (hm : X.mg "range" = none) (ha : PA X [x, y, z] ta)
    (hs : starEach [x, y, z] X.env = (false, eval x X.env) :: starEach [y, z] X.env := by rfl) (hpl : (backTo pos (starEach [y, z] X.env)).any (·.1) = false := by rfl)
    (na : starEach [Expr.Call (.Name "range" p) [x, y, z] [] pos] X.env = (false, eval (.Call (.Name "range" p) [x, y, z] [] pos) X.env) :: starEach [] X.env := by rfl) :
    PE X (.Call (.Name "list" p') [.Call (.Name "range" p) [x, y, z] [] pos] [] pos') (tLstDn ta) := by
  refine ⟨fun pins s σ H Q I h => ?_⟩
  refine Call_ (ld_blt I hl ml boot_list (PyProof.Rows.callWith_type1 (args_cons ?_ na) na))
  refine Call_ (ld_blt I hg hm boot_range (PyProof.Rows.callWith_type1 (thn (ha.run pos pins s σ H _ I h) fun us s1 ⟨vs, H1, I1, r1, q1⟩ => ?_) hs hpl))
  obtain ⟨i, j, rfl, ⟨b1, b2, b3, b4, b5⟩, q⟩ := q1
  cases r1 with
  | cons r rr =>
    cases rr with
    | cons r' rr =>
      cases rr with
      | cons r'' rr =>
        cases rr
        obtain ⟨t, rfl⟩ := r
        obtain ⟨t', rfl⟩ := r'
        obtain ⟨t'', rfl⟩ := r''
        have C := RgC.neg b1 b2 b3 b4
        refine call_range_3 C.1 ?_ (.inl (PyProof.noPylong_small C.2.1))
        have I2 : Inv X pins σ H1 { s1 with heap := s1.heap.push { cls := .type "range", data := .fields #[.int i t, .int j t', .int (-1) t''] } } := I1.kept (t' := s1.toks) fun b o e => Heap.get?_push_of_some _ e
        refine args_nil ?_
        refine call_list_range (n := (i - j).toNat) (I2.ok.hd hc) (IsRange.new ..) C.2.2.1 C.2.2.2 b5 fun h2 tk acc c' hk e' hi => ?_
        have el : acc.toList.length = (i - j).toNat := by rw [Array.length_toList]; exact hi.1
        have hv : Vals (dnV i j) acc.toList := by
          unfold dnV
          rw [← el]
          refine vals_of_get acc.toList _ fun k u hk => ?_
          obtain ⟨tt, rfl⟩ := hi.2 k u (by rw [← hk, Array.getElem?_toList])
          exact ⟨tt, by congr 1; omega⟩
        refine ⟨.ref _, upd H1 _ (.lst (dnV i j)), I2.laid hk (Nat.le_refl _) (show ObjOk X.prog X.w _ _ _ (.lst (dnV i j)) from ⟨?_, acc.toList, c', hv, ?_⟩), rfl, q _ (I2.hok.fresh (Nat.le_refl _))⟩
        · unfold dnV
          rw [List.length_map, List.length_range, sizeLine_eq]
          omega
        · rw [Array.toArray_toList]
          exact e'
end
end NB

set_option Elab.async false
set_option linter.all false
set_option maxRecDepth 100000
namespace K49
open PySem PySem.Spec PyProof.Rows L2 NB

/-! ### one thing at another place: t[:i] + (x,) + t[i + 1:] -/
theorem cut_to {K : PySem.W.Frag} {H : Hp} {p : Addr} {vs : List V} {c : Nat} {Q : VK} (h : H p = some (.tup vs)) (hc : c ≤ vs.length) (q : ∀ g H', Same H H' → H' g = some (.tup (vs.take c)) → Q (.ref g) H') : rSlA K (.ref p) none (some (c : Int)) H Q := by
  have e1 : HT.sIx vs.length vs.length (some (c : Int)) = c := by
    rw [HT.sIx_nat]
    omega
  refine ⟨p, _, rfl, .inl (.inl h), fun w => ?_, fun w g ng => ?_⟩
  · rw [e1] at w
    refine q p H (Same.refl H) ?_
    rw [List.take_of_length_le (by omega)]
    exact h
  · refine q g _ (same_new ng) ?_
    rw [upd_same]
    unfold cutV
    rw [e1, HT.sIx_none, List.drop_zero]
    rfl
theorem cut_from {K : PySem.W.Frag} {H : Hp} {p : Addr} {vs : List V} {c : Nat} {Q : VK} (h : H p = some (.tup vs)) (hc : c ≤ vs.length) (q : ∀ g H', Same H H' → H' g = some (.tup (vs.drop c)) → Q (.ref g) H') : rSlA K (.ref p) (some (c : Int)) none H Q := by
  have e1 : HT.sIx vs.length 0 (some (c : Int)) = c := by
    rw [HT.sIx_nat]
    omega
  refine ⟨p, _, rfl, .inl (.inl h), fun w => ?_, fun w g ng => ?_⟩
  · rw [e1] at w
    refine q p H (Same.refl H) ?_
    rw [w.1, List.drop_zero]
    exact h
  · refine q g _ (same_new ng) ?_
    rw [upd_same]
    unfold cutV
    rw [e1, HT.sIx_none, List.take_of_length_le (by rw [List.length_drop]; exact Nat.le_refl _)]
theorem cat_tups {K : PySem.W.Frag} {H : Hp} {a b : Addr} {xs ys : List V} {Q : VK} (ha : H a = some (.tup xs)) (hb : H b = some (.tup ys)) (hz : xs.length + ys.length ≤ sizeLine) (q : ∀ g H', Same H H' → H' g = some (.tup (xs ++ ys)) → Q (.ref g) H') : rCatA K (.ref a) (.ref b) H Q := by
  refine ⟨a, b, xs, ys, rfl, rfl, .inl (.inl ha), .inl (.inl hb), hz, fun e => ?_, fun _ e => ?_, fun _ _ g ng => q g _ (same_new ng) upd_same⟩
  · subst e
    exact q b H (Same.refl H) hb
  · subst e
    exact q a H (Same.refl H) (by rw [List.append_nil]; exact ha)
abbrev tMoved (K : PySem.W.Frag) (a i x : Nat) : TE := tOp (rCatA K) (tOp (rCatA K) (tSl (rSlA K) (tVar a) tNoPart (tPart (tVar i))) (tTup (tCons (tVar x) tNil))) (tSl (rSlA K) (tVar a) (tPart (tOp (rI0 fun i j => .int (i + j)) (tVar i) (tC (.int 1)))) tNoPart)
theorem set_cut {α : Type} {xs : List α} {n : Nat} {v : α} (h : n < xs.length) : (xs.take n ++ [v]) ++ xs.drop (n + 1) = xs.set n v := by
  rw [List.set_eq_take_append_cons_drop, if_pos h, List.append_assoc]
  rfl
theorem moved_val {K : PySem.W.Frag} {σ : L2.St} {H : Hp} {Q : VK} {a i x n : Nat} {p : Addr} {v : Int} {xs : List Int} (ha : σ[a]? = some (some (.ref p))) (hi : σ[i]? = some (some (.int (n : Int)))) (hx : σ[x]? = some (some (.int v))) (e : H p = some (.tup (xs.map V.int))) (hn : n < xs.length) (l12 : xs.length ≤ 12)
    (q : ∀ g H', Same H H' → H' g = some (.tup ((xs.set n v).map V.int)) → Q (.ref g) H') : tMoved K a i x σ H Q := by
  have lm : (xs.map V.int).length = xs.length := List.length_map _
  refine ⟨.ref p, ha, ?_⟩
  show tNoPart _ _ _
  unfold tNoPart
  refine ⟨.int n, hi, n, rfl, cut_to e (by omega) fun g1 H1 s1 e1 => ?_⟩
  refine ⟨.int v, hx, (show 1 ≤ sizeLine by decide), fun g2 n2 => ?_⟩
  have s2 := same_new (o := HO.tup [V.int v]) n2
  refine cat_tups (s2 _ _ e1) upd_same (Nat.le_of_lt (small1000 (by rw [List.length_take]; simp only [List.length_cons, List.length_nil]; omega))) fun g3 H3 s3 e3 => ?_
  have s03 := (s1.trans s2).trans s3
  refine ⟨.ref p, ha, .int n, hi, n, 1, rfl, rfl, n + 1, by rfl, ?_⟩
  show rSlA _ _ (some ((n : Int) + 1)) none _ _
  have ec : ((n : Int) + 1) = ((n + 1 : Nat) : Int) := by omega
  rw [ec]
  refine cut_from (s03 _ _ e) (by omega) fun g4 H4 s4 e4 => ?_
  refine cat_tups (s4 _ _ e3) e4 (Nat.le_of_lt (small1000 (by rw [List.length_append, List.length_take, List.length_drop]; simp only [List.length_cons, List.length_nil]; omega))) fun g5 H5 s5 e5 => ?_
  refine q g5 H5 ((s03.trans s4).trans s5) ?_
  rw [e5, set_cut (by omega), List.map_set]

/-! ### going: the mathematics -/
structure ND where
  i : Nat
  s : Int
  j : Nat
  p : Int
  deriving DecidableEq
def ND.toL (n : ND) : List Int := [(n.i : Int), n.s, (n.j : Int), n.p]
def ofL (n : List Int) : ND := ⟨(n.getD 0 0).toNat, n.getD 1 0, (n.getD 2 0).toNat, n.getD 3 0⟩
theorem ofL_toL (n : ND) : ofL n.toL = n := by
  cases n
  simp [ofL, ND.toL]
section
variable (one other : List Int)
abbrev plc (st : List Int) (i : Nat) : Int := st.getD i 0
abbrev gn (i : Nat) (p : Int) : Int := gone one other i p
abbrev tot (i : Nat) : Int := gone one other i (other.getD i 0)
/-- what every need has -/
structure ND.Ok (n : ND) : Prop where
  li : n.i < one.length
  lj : n.j < one.length
  s0 : 0 ≤ gn one other n.i n.s
  s1 : gn one other n.i n.s < tot one other n.i
  p0 : 0 < gn one other n.j n.p
  p1 : gn one other n.j n.p ≤ tot one other n.j
def met (n : ND) (here : List Int) : Bool := decide (gn one other n.j n.p ≤ gn one other n.j (plc here n.j))
def endS (here : List Int) (i : Nat) (e : Int) (n : ND) : Int := if n.i = i ∧ met one other n here = false ∧ gn one other i n.s < gn one other i e then n.s else e
def endF (nds : List ND) (here : List Int) (i : Nat) : Int := nds.foldl (endS one other here i) (plc other i)
def Safe (nds : List ND) (here : List Int) : Prop := ∀ n ∈ nds, gn one other n.i (plc here n.i) ≤ gn one other n.i n.s ∨ met one other n here = true
def Within (here : List Int) : Prop := here.length = one.length ∧ ∀ i, i < one.length → 0 ≤ gn one other i (plc here i) ∧ gn one other i (plc here i) ≤ tot one other i
end
section
variable {one other : List Int}
theorem tot_eq (i : Nat) : tot one other i = ((other.getD i 0 - one.getD i 0).natAbs : Int) := by
  unfold tot gone
  split <;> omega
theorem tot_nn (i : Nat) : 0 ≤ tot one other i := by
  rw [tot_eq]
  omega
theorem gone_one (i : Nat) : gone one other i (one.getD i 0) = 0 := by
  unfold gone
  split <;> omega
theorem gone_inj {i : Nat} {p q : Int} (h : gone one other i p = gone one other i q) : p = q := by
  unfold gone at h
  split at h <;> omega
theorem endF_spec (nds : List ND) (here : List Int) (i : Nat) : (endF one other nds here i = plc other i ∨ ∃ n ∈ nds, n.i = i ∧ met one other n here = false ∧ endF one other nds here i = n.s) ∧ gn one other i (endF one other nds here i) ≤ tot one other i ∧ ∀ n ∈ nds, n.i = i → met one other n here = false → gn one other i (endF one other nds here i) ≤ gn one other i n.s := by
  unfold endF
  have main : ∀ (ms : List ND) (e : Int), (ms.foldl (endS one other here i) e = e ∨ ∃ n ∈ ms, n.i = i ∧ met one other n here = false ∧ ms.foldl (endS one other here i) e = n.s) ∧ gn one other i (ms.foldl (endS one other here i) e) ≤ gn one other i e ∧ ∀ n ∈ ms, n.i = i → met one other n here = false → gn one other i (ms.foldl (endS one other here i) e) ≤ gn one other i n.s := by
    intro ms
    induction ms with
    | nil => exact fun e => ⟨.inl rfl, Int.le_refl _, fun _ h => absurd h List.not_mem_nil⟩
    | cons m ms ih =>
      intro e
      rw [List.foldl_cons]
      obtain ⟨h1, h2, h3⟩ := ih (endS one other here i e m)
      have es : endS one other here i e m = e ∨ (m.i = i ∧ met one other m here = false ∧ endS one other here i e m = m.s) := by
        unfold endS
        split
        · rename_i c
          exact .inr ⟨c.1, c.2.1, rfl⟩
        · exact .inl rfl
      have el : gn one other i (endS one other here i e m) ≤ gn one other i e := by
        unfold endS
        split
        · rename_i c
          omega
        · exact Int.le_refl _
      refine ⟨?_, by omega, fun n hn hi hm => ?_⟩
      · rcases h1 with h1 | ⟨n, hn, a, b, c⟩
        · rcases es with es | ⟨a, b, c⟩
          · exact .inl (h1.trans es)
          · exact .inr ⟨m, List.mem_cons_self, a, b, h1.trans c⟩
        · exact .inr ⟨n, List.mem_cons_of_mem _ hn, a, b, c⟩
      · rcases List.mem_cons.mp hn with rfl | hn
        · refine Int.le_trans h2 ?_
          unfold endS
          split
          · exact Int.le_refl _
          · rename_i c
            have : ¬ gn one other i n.s < gn one other i e := fun z => c ⟨hi, hm, z⟩
            omega
        · exact h3 n hn hi hm
  exact main nds _
theorem plc_set_self {st : List Int} {i : Nat} {x : Int} (h : i < st.length) : plc (st.set i x) i = x := by
  unfold plc
  rw [List.getD_eq_getElem?_getD, List.getElem?_set_self h]
  rfl
theorem plc_set_ne {st : List Int} {i j : Nat} {x : Int} (h : i ≠ j) : plc (st.set i x) j = plc st j := by
  unfold plc
  rw [List.getD_eq_getElem?_getD, List.getD_eq_getElem?_getD, List.getElem?_set_ne h]
theorem plc_get {st : List Int} {i : Nat} (h : i < st.length) : plc st i = st[i] := by
  unfold plc
  rw [List.getD_eq_getElem?_getD, List.getElem?_eq_getElem h]
  rfl
theorem Within.first (h : other.length = one.length) : Within one other one := ⟨rfl, fun i _ => by
  rw [gn, gone_one]
  exact ⟨Int.le_refl _, tot_nn i⟩⟩
theorem Safe.first {nds : List ND} (ok : ∀ n ∈ nds, n.Ok one other) : Safe one other nds one := fun n hn => .inl (by
  rw [gn, gone_one]
  exact (ok n hn).s0)
/-- where a thing is it goes on, never back -/
theorem end_on {nds : List ND} {here : List Int} {i : Nat} (sf : Safe one other nds here) (wi : Within one other here) (hi : i < one.length) : gn one other i (plc here i) ≤ gn one other i (endF one other nds here i) := by
  rcases (endF_spec nds here i).1 with e | ⟨n, hn, rfl, m, e⟩
  · rw [e]
    exact (wi.2 i hi).2
  · rw [e]
    rcases sf n hn with h | h
    · exact h
    · rw [m] at h
      cases h
theorem met_on {n : ND} {here : List Int} {i : Nat} {x : Int} (hl : i < here.length) (h : met one other n here = true) (hx : gn one other i (plc here i) ≤ gn one other i x) : met one other n (here.set i x) = true := by
  unfold met at h ⊢
  rw [decide_eq_true_eq] at h ⊢
  by_cases c : i = n.j
  · subst c
    rw [plc_set_self hl]
    exact Int.le_trans h hx
  · rw [plc_set_ne c]
    exact h
/-- all along the way that it can go all is safe -/
theorem Safe.move {nds : List ND} {here : List Int} {i : Nat} {x : Int} (sf : Safe one other nds here) (hl : i < here.length) (h0 : gn one other i (plc here i) ≤ gn one other i x) (h1 : gn one other i x ≤ gn one other i (endF one other nds here i)) : Safe one other nds (here.set i x) := fun n hn => by
  cases c : met one other n here with
  | true => exact .inr (met_on hl c h0)
  | false =>
    refine .inl ?_
    by_cases ci : i = n.i
    · subst ci
      rw [plc_set_self hl]
      exact Int.le_trans h1 ((endF_spec nds here _).2.2 n hn rfl c)
    · rw [plc_set_ne ci]
      rcases sf n hn with h | h
      · exact h
      · rw [c] at h
        cases h
theorem Within.move {here : List Int} {i : Nat} {x : Int} (wi : Within one other here) (h0 : 0 ≤ gn one other i x) (h1 : gn one other i x ≤ tot one other i) : Within one other (here.set i x) := by
  refine ⟨by rw [List.length_set]; exact wi.1, fun j hj => ?_⟩
  by_cases c : i = j
  · subst c
    rw [plc_set_self (by rw [wi.1]; exact hj)]
    exact ⟨h0, h1⟩
  · rw [plc_set_ne c]
    exact wi.2 j hj
/-- a row of goings: from here by rows to last -/
inductive Goes (one other : List Int) (nds : List ND) : List Int → List (Nat × Int) → List Int → Prop where
  | nil (h : List Int) : Goes one other nds h [] h
  | snoc {h m : List Int} {rows : List (Nat × Int)} {i : Nat} {e : Int} (g : Goes one other nds h rows m) (sf : Safe one other nds m) (wi : Within one other m) (li : i < one.length) (ne : e ≠ plc m i) (h0 : gn one other i (plc m i) ≤ gn one other i e) (h1 : gn one other i e ≤ gn one other i (endF one other nds m i)) : Goes one other nds h (rows ++ [(i, e)]) (m.set i e)
/-- how many rows may still come -/
def room1 (here : List Int) : Nat := ((List.range one.length).filter fun i => decide (plc here i = plc one i)).length
def room2 (nds : List ND) (here : List Int) : Nat := (nds.filter fun n => decide (gn one other n.i (plc here n.i) ≤ gn one other n.i n.s)).length
def AtStops (one other : List Int) (nds : List ND) (here : List Int) : Prop := ∀ i, i < one.length → plc here i = plc one i ∨ plc here i = plc other i ∨ ∃ n ∈ nds, n.i = i ∧ plc here i = n.s
theorem filter_le {α : Type} {p q : α → Bool} : ∀ {l : List α}, (∀ x ∈ l, p x = true → q x = true) → (l.filter p).length ≤ (l.filter q).length
  | [], _ => Nat.le_refl _
  | a :: l, h => by
    have ih := filter_le (l := l) fun x hx => h x (List.mem_cons_of_mem _ hx)
    have ha := h a List.mem_cons_self
    rw [List.filter_cons, List.filter_cons]
    cases cp : p a with
    | true =>
      rw [ha cp]
      simpa using ih
    | false =>
      cases q a with
      | true => simp; omega
      | false => simpa using ih
theorem filter_lt {α : Type} {p q : α → Bool} : ∀ {l : List α}, (∀ x ∈ l, p x = true → q x = true) → (∃ x ∈ l, p x = false ∧ q x = true) → (l.filter p).length < (l.filter q).length
  | [], _, ⟨x, hx, _⟩ => absurd hx List.not_mem_nil
  | a :: l, h, ⟨x, hx, e1, e2⟩ => by
    have hl : ∀ x ∈ l, p x = true → q x = true := fun x hx => h x (List.mem_cons_of_mem _ hx)
    have le := filter_le (l := l) hl
    have ha := h a List.mem_cons_self
    rw [List.filter_cons, List.filter_cons]
    rcases List.mem_cons.mp hx with rfl | hx
    · rw [e1, e2]
      simp
      omega
    · have lt := filter_lt (l := l) hl ⟨x, hx, e1, e2⟩
      cases cp : p a with
      | true =>
        rw [ha cp]
        simpa using lt
      | false =>
        cases q a with
        | true => simp; omega
        | false => simpa using lt
theorem room_move {nds : List ND} {here : List Int} {i : Nat} (sf : Safe one other nds here) (wi : Within one other here) (at' : AtStops one other nds here) (hi : i < one.length) (ne : endF one other nds here i ≠ plc here i) :
    room1 (one := one) (here.set i (endF one other nds here i)) + room2 (one := one) (other := other) nds (here.set i (endF one other nds here i)) < room1 (one := one) here + room2 (one := one) (other := other) nds here := by
  have hl : i < here.length := by rw [wi.1]; exact hi
  have on := end_on sf wi hi
  have lt : gn one other i (plc here i) < gn one other i (endF one other nds here i) := by
    rcases Int.lt_or_eq_of_le on with h | h
    · exact h
    · exact absurd (gone_inj h).symm ne
  have w0 := (wi.2 i hi).1
  have ne1 : endF one other nds here i ≠ plc one i := fun h => by
    rw [h] at lt
    have e : gn one other i (plc one i) = 0 := gone_one i
    omega
  have le1 : ∀ x ∈ List.range one.length, decide (plc (here.set i (endF one other nds here i)) x = plc one x) = true → decide (plc here x = plc one x) = true := fun x hx h => by
    rw [decide_eq_true_eq] at h ⊢
    by_cases c : i = x
    · subst c
      rw [plc_set_self hl] at h
      exact absurd h ne1
    · rwa [plc_set_ne c] at h
  have le2 : ∀ n ∈ nds, decide (gn one other n.i (plc (here.set i (endF one other nds here i)) n.i) ≤ gn one other n.i n.s) = true → decide (gn one other n.i (plc here n.i) ≤ gn one other n.i n.s) = true := fun n hn h => by
    rw [decide_eq_true_eq] at h ⊢
    by_cases c : i = n.i
    · subst c
      rw [plc_set_self hl] at h
      omega
    · rwa [plc_set_ne c] at h
  unfold room1 room2
  rcases at' i hi with h | h | ⟨n, hn, hni, h⟩
  · have := filter_lt le1 ⟨i, List.mem_range.mpr hi, by rw [plc_set_self hl]; exact decide_eq_false ne1, decide_eq_true h⟩
    have := filter_le le2
    omega
  · rw [h] at lt
    have e : gn one other i (endF one other nds here i) ≤ gn one other i (plc other i) := (endF_spec (one := one) (other := other) nds here i).2.1
    omega
  · have := filter_le le1
    have := filter_lt le2 ⟨n, hn, by
      subst hni
      rw [plc_set_self hl, decide_eq_false_iff_not, ← h]
      omega, by
      subst hni
      rw [decide_eq_true_eq, h]
      exact Int.le_refl _⟩
    omega
theorem AtStops.move {nds : List ND} {here : List Int} {i : Nat} (wi : Within one other here) (at' : AtStops one other nds here) (hi : i < one.length) : AtStops one other nds (here.set i (endF one other nds here i)) := fun x hx => by
  by_cases c : i = x
  · subst c
    rw [plc_set_self (by rw [wi.1]; exact hi)]
    rcases (endF_spec nds here i).1 with e | ⟨n, hn, hni, _, e⟩
    · exact .inr (.inl e)
    · exact .inr (.inr ⟨n, hn, hni, e⟩)
  · rw [plc_set_ne c]
    exact at' x hx
theorem room_first (nds : List ND) (ok : ∀ n ∈ nds, n.Ok one other) : room1 (one := one) one + room2 (one := one) (other := other) nds one ≤ one.length + nds.length := by
  unfold room1 room2
  have a := List.length_filter_le (fun i => decide (plc one i = plc one i)) (List.range one.length)
  have b := List.length_filter_le (fun n => decide (gn one other n.i (plc one n.i) ≤ gn one other n.i n.s)) nds
  rw [List.length_range] at a
  omega
/-- rings -/
def RingAt (one other : List Int) (nds : List ND) (r : List ND) : Prop := r ≠ [] ∧ ∀ (k : Nat) (n m : ND), r[k]? = some n → (r.drop 1 ++ r.take 1)[k]? = some m → n ∈ nds ∧ n.j = m.i ∧ gn one other m.i m.s < gn one other n.j n.p
/-- who is held in a ring stays ahead of it -/
theorem ring_stays {nds r : List ND} {here : List Int} {rows : List (Nat × Int)} (R : RingAt one other nds r) (hg : Goes one other nds one rows here) (ok : ∀ n ∈ nds, n.Ok one other) : ∀ n ∈ r, gn one other n.i (plc here n.i) ≤ gn one other n.i n.s := by
  have mem : ∀ n ∈ r, n ∈ nds ∧ ∃ m ∈ r, n.j = m.i ∧ gn one other m.i m.s < gn one other n.j n.p := fun n hn => by
    obtain ⟨k, hk, e⟩ := List.getElem_of_mem hn
    have hl : (r.drop 1 ++ r.take 1).length = r.length := by
      rw [List.length_append, List.length_drop, List.length_take]
      omega
    have hk' : k < (r.drop 1 ++ r.take 1).length := by omega
    have h := R.2 k n _ (by rw [List.getElem?_eq_getElem hk, e]) (List.getElem?_eq_getElem hk')
    refine ⟨h.1, _, ?_, h.2.1, h.2.2⟩
    rcases List.mem_append.mp (List.getElem_mem hk') with z | z
    · exact List.mem_of_mem_drop z
    · exact List.mem_of_mem_take z
  induction hg with
  | nil =>
    intro n hn
    have e : gn one other n.i (plc one n.i) = 0 := gone_one n.i
    rw [e]
    exact (ok n (mem n hn).1).s0
  | snoc g sf wi li ne h0 h1 ih =>
    rename_i m rows i e
    intro n hn
    have hl : i < m.length := by rw [wi.1]; exact li
    by_cases c : i = n.i
    · subst c
      rw [plc_set_self hl]
      obtain ⟨hn', m', hm', ej, lt⟩ := mem n hn
      refine Int.le_trans h1 ((endF_spec nds m _).2.2 n hn' rfl ?_)
      unfold met
      rw [decide_eq_false_iff_not, ej]
      have := ih m' hm'
      rw [ej] at lt
      omega
    · rw [plc_set_ne c]
      exact ih n hn
theorem ring_bars {nds r : List ND} {rows : List (Nat × Int)} {last : List Int} (R : RingAt one other nds r) (hg : Goes one other nds one rows last) (ok : ∀ n ∈ nds, n.Ok one other) : last ≠ other := fun e => by
  obtain ⟨n, hn⟩ := List.exists_mem_of_ne_nil r R.1
  have h := ring_stays R hg ok n hn
  have hn' : n ∈ nds := by
    obtain ⟨k, hk, ek⟩ := List.getElem_of_mem hn
    have hk' : k < (r.drop 1 ++ r.take 1).length := by
      rw [List.length_append, List.length_drop, List.length_take]
      omega
    exact (R.2 k n _ (by rw [List.getElem?_eq_getElem hk, ek]) (List.getElem?_eq_getElem hk')).1
  have lt : gn one other n.i n.s < gn one other n.i (plc other n.i) := (ok n hn').s1
  rw [e] at h
  omega
/-- where none goes on, who isn't home is held -/
theorem held_at {nds : List ND} {here : List Int} {i : Nat} (hs : endF one other nds here i = plc here i) (ne : plc here i ≠ plc other i) : ∃ n ∈ nds, n.i = i ∧ n.s = plc here i ∧ met one other n here = false := by
  rcases (endF_spec nds here i).1 with e | ⟨n, hn, hi, m, e⟩
  · rw [hs] at e
    exact absurd e ne
  · exact ⟨n, hn, hi, by rw [← e, hs], m⟩
theorem held_on {nds : List ND} {here : List Int} (ok : ∀ n ∈ nds, n.Ok one other) {n : ND} (hn : n ∈ nds) (m : met one other n here = false) : n.j < one.length ∧ plc here n.j ≠ plc other n.j := by
  refine ⟨(ok n hn).lj, fun h => ?_⟩
  unfold met at m
  rw [decide_eq_false_iff_not, h] at m
  exact m (ok n hn).p1
end
end K49

set_option Elab.async false
set_option linter.all false
set_option maxRecDepth 100000
namespace K49
open PySem PySem.Spec PyProof.Rows L2 NB

/-! ### needs and rules -/
section
variable {one other : List Int}
theorem tst_in {xs : List Int} {s : Sd} (h : s.1 < xs.length) : inB xs s = if s.2.1 then decide (s.2.2 ≤ plc xs s.1) else decide (plc xs s.1 ≤ s.2.2) := by
  unfold inB
  rw [List.getElem?_eq_getElem h, plc_get h]
theorem left_gone {s : Sd} (l1 : s.1 < one.length) (l2 : s.1 < other.length) (h : isLeft s one other = true) : 0 ≤ gn one other s.1 s.2.2 ∧ gn one other s.1 s.2.2 < tot one other s.1 := by
  unfold isLeft at h
  rw [Bool.and_eq_true, Bool.not_eq_true', tst_in l1, tst_in l2] at h
  unfold gn tot gone
  unfold plc at h
  obtain ⟨i, w, p⟩ := s
  cases w <;> simp at h ⊢ <;> split <;> omega
theorem enter_gone {s : Sd} (l1 : s.1 < one.length) (l2 : s.1 < other.length) (h : isLeft s other one = true) : 0 < gn one other s.1 s.2.2 ∧ gn one other s.1 s.2.2 ≤ tot one other s.1 := by
  unfold isLeft at h
  rw [Bool.and_eq_true, Bool.not_eq_true', tst_in l1, tst_in l2] at h
  unfold gn tot gone
  unfold plc at h
  obtain ⟨i, w, p⟩ := s
  cases w <;> simp at h ⊢ <;> split <;> omega
theorem left_in {s : Sd} {st : List Int} (l1 : s.1 < one.length) (l2 : s.1 < other.length) (l3 : s.1 < st.length) (h : isLeft s one other = true) : inB st s = decide (gn one other s.1 (plc st s.1) ≤ gn one other s.1 s.2.2) := by
  unfold isLeft at h
  rw [Bool.and_eq_true, Bool.not_eq_true', tst_in l1, tst_in l2] at h
  rw [tst_in l3]
  unfold gn gone
  unfold plc at h
  obtain ⟨i, w, p⟩ := s
  cases w <;> simp at h ⊢ <;> split <;> omega
theorem enter_in {s : Sd} {st : List Int} (l1 : s.1 < one.length) (l2 : s.1 < other.length) (l3 : s.1 < st.length) (h : isLeft s other one = true) : inB st s = decide (gn one other s.1 s.2.2 ≤ gn one other s.1 (plc st s.1)) := by
  unfold isLeft at h
  rw [Bool.and_eq_true, Bool.not_eq_true', tst_in l1, tst_in l2] at h
  rw [tst_in l3]
  unfold gn gone
  unfold plc at h
  obtain ⟨i, w, p⟩ := s
  cases w <;> simp at h ⊢ <;> split <;> omega
theorem mid_in {s : Sd} {st : List Int} (l1 : s.1 < one.length) (l2 : s.1 < other.length) (wi : Within one other st) (h1 : inB one s = true) (h2 : inB other s = true) : inB st s = true := by
  have w := wi.2 s.1 l1
  rw [tst_in l1] at h1
  rw [tst_in l2] at h2
  rw [tst_in (by rw [wi.1]; exact l1)]
  unfold gn tot gone at w
  unfold plc at h1 h2 w ⊢
  obtain ⟨i, wd, p⟩ := s
  cases wd <;> simp at h1 h2 w ⊢ <;> split at w <;> omega
/-- the needs of a plan as such -/
structure NdsOf (one other : List Int) (rs : List Rl) (nds : List ND) : Prop where
  is : IsNeeds one other rs (nds.map ND.toL)
  ok : ∀ n ∈ nds, n.Ok one other
theorem cand_nd {tops : List Int} (lo : one.length = tops.length) (lo' : other.length = tops.length) {rs : List Rl} (rok : ∀ q ∈ rs, RuleOk tops q) {x : List Int} (h : some x ∈ cands one other rs) : (ofL x).toL = x ∧ (ofL x).Ok one other := by
  obtain ⟨q, hq, hx⟩ := cands_mem.mp h
  have main : ∀ {l e : Sd}, SideOk tops l → SideOk tops e → needOf one other l e = some x → (ofL x).toL = x ∧ (ofL x).Ok one other := fun {l e} hl he hx => by
    obtain ⟨rfl, h1, h2, _⟩ := needOf_shape hx
    have ll := (List.getElem?_eq_some_iff.mp hl.choose_spec.1).1
    have le := (List.getElem?_eq_some_iff.mp he.choose_spec.1).1
    have eo : ofL [(l.1 : Int), l.2.2, (e.1 : Int), e.2.2] = ⟨l.1, l.2.2, e.1, e.2.2⟩ := by simp [ofL]
    rw [eo]
    have a := left_gone (one := one) (other := other) (by omega) (by omega) h1
    have b := enter_gone (one := one) (other := other) (by omega) (by omega) h2
    exact ⟨rfl, ⟨(show l.1 < one.length by omega), (show e.1 < one.length by omega), a.1, a.2, b.1, b.2⟩⟩
  rcases hx with hx | hx
  · exact main (rok q hq).1 (rok q hq).2 hx
  · exact main (rok q hq).2 (rok q hq).1 hx
theorem nds_of {tops : List Int} (lo : one.length = tops.length) (lo' : other.length = tops.length) {rs : List Rl} (rok : ∀ q ∈ rs, RuleOk tops q) {ns : List (List Int)} (I : IsNeeds one other rs ns) : ∃ nds : List ND, ns = nds.map ND.toL ∧ NdsOf one other rs nds := by
  have e : ns = (ns.map ofL).map ND.toL := by
    rw [List.map_map]
    refine (List.map_id ns).symm.trans (List.map_congr_left fun x hx => ?_)
    exact (cand_nd lo lo' rok ((I.mem x).mp hx)).1.symm
  refine ⟨ns.map ofL, e, by rw [← e]; exact I, fun n hn => ?_⟩
  obtain ⟨x, hx, rfl⟩ := List.mem_map.mp hn
  exact (cand_nd lo lo' rok ((I.mem x).mp hx)).2
theorem toL_inj {n m : ND} (h : n.toL = m.toL) : n = m := by
  have := congrArg ofL h
  rwa [ofL_toL, ofL_toL] at this
theorem NdsOf.mem {rs : List Rl} {nds : List ND} (N : NdsOf one other rs nds) {l e : Sd} (h : needOf one other l e = some [(l.1 : Int), l.2.2, (e.1 : Int), e.2.2]) {q : Rl} (hq : q ∈ rs) (hs : (q.1 = l ∧ q.2 = e) ∨ (q.2 = l ∧ q.1 = e)) : (⟨l.1, l.2.2, e.1, e.2.2⟩ : ND) ∈ nds := by
  have hm := (N.is.mem [(l.1 : Int), l.2.2, (e.1 : Int), e.2.2]).mpr (cands_mem.mpr ⟨q, hq, by
    rcases hs with ⟨rfl, rfl⟩ | ⟨rfl, rfl⟩
    · exact .inl h
    · exact .inr h⟩)
  obtain ⟨n, hn, en⟩ := List.mem_map.mp hm
  have : n = ⟨l.1, l.2.2, e.1, e.2.2⟩ := toL_inj en
  rwa [← this]
/-- a rule that both keep is kept wherever it is safe -/
theorem safe_kept {tops : List Int} (lo : one.length = tops.length) (lo' : other.length = tops.length) {rs : List Rl} (rok : ∀ q ∈ rs, RuleOk tops q) {nds : List ND} (N : NdsOf one other rs nds) {st : List Int} (sf : Safe one other nds st) (wi : Within one other st) {q : Rl} (hq : q ∈ rs) (k1 : kept one q = true) (k2 : kept other q = true) : kept st q = true := by
  have main : ∀ {l e : Sd}, SideOk tops l → SideOk tops e → ((q.1 = l ∧ q.2 = e) ∨ (q.2 = l ∧ q.1 = e)) → inB one l = true → (inB other l || inB other e) = true → inB st l = false → inB st e = false → False := fun {l e} hl he hs a b c d => by
    have ll := (List.getElem?_eq_some_iff.mp hl.choose_spec.1).1
    have le := (List.getElem?_eq_some_iff.mp he.choose_spec.1).1
    have l1 : l.1 < one.length := by omega
    have l2 : l.1 < other.length := by omega
    have e1 : e.1 < one.length := by omega
    have e2 : e.1 < other.length := by omega
    have ol : inB other l = false := by
      cases h : inB other l with
      | false => rfl
      | true =>
        rw [mid_in l1 l2 wi a h] at c
        cases c
    rw [ol, Bool.false_or] at b
    have oe : inB one e = false := by
      cases h : inB one e with
      | false => rfl
      | true =>
        rw [mid_in e1 e2 wi h b] at d
        cases d
    have L : isLeft l one other = true := by
      unfold isLeft
      rw [a, ol]
      rfl
    have E : isLeft e other one = true := by
      unfold isLeft
      rw [b, oe]
      rfl
    have c' := c
    have d' := d
    rw [left_in l1 l2 (by rw [wi.1]; exact l1) L, decide_eq_false_iff_not] at c'
    rw [enter_in e1 e2 (by rw [wi.1]; exact e1) E, decide_eq_false_iff_not] at d'
    by_cases n : l.1 = e.1 ∧ gone one other e.1 e.2.2 ≤ gone one other l.1 l.2.2 + 1
    · obtain ⟨n1, n2⟩ := n
      rw [← n1] at n2 d'
      unfold gn at c' d'
      omega
    · have hn : needOf one other l e = some [(l.1 : Int), l.2.2, (e.1 : Int), e.2.2] := by
        unfold needOf
        rw [L, E, Bool.and_self, if_pos rfl, if_neg n]
      rcases sf _ (N.mem hn hq hs) with h | h
      · exact c' h
      · unfold met at h
        rw [decide_eq_true_eq] at h
        exact d' h
  cases k : kept st q with
  | true => rfl
  | false =>
    unfold kept at k k1 k2
    rw [Bool.or_eq_false_iff] at k
    rw [Bool.or_eq_true] at k1
    rcases k1 with h | h
    · exact (main (rok q hq).1 (rok q hq).2 (.inl ⟨rfl, rfl⟩) h k2 k.1 k.2).elim
    · exact (main (rok q hq).2 (rok q hq).1 (.inr ⟨rfl, rfl⟩) h (by rw [Bool.or_comm]; exact k2) k.2 k.1).elim
end
end K49

set_option Elab.async false
set_option linter.all false
set_option maxRecDepth 100000
namespace K49
open PySem PySem.Spec PyProof.Rows L2 NB

/-! ### going: the program -/
abbrev kMet : Stmt := topS 28
abbrev kEnd : Stmt := topS 29
theorem scMet : FnScope ["one", "other", "here", "need", "j", "place"] ["one", "other", "here", "need"] (defScope kMet) := ⟨rfl, rfl, rfl, by decide +kernel, rfl, by decide +kernel, by decide +kernel⟩
theorem scEnd : FnScope ["one", "other", "asked", "here", "thing", "end", "need", "stop"] ["one", "other", "asked", "here", "thing"] (defScope kEnd) := ⟨rfl, rfl, rfl, by decide +kernel, rfl, by decide +kernel, by decide +kernel⟩
/-- a row of whole numbers, a list or a tuple -/
def RowAt (H : Hp) (p : Addr) (xs : List Int) : Prop := H p = some (.lst (xs.map V.int)) ∨ H p = some (.tup (xs.map V.int))
theorem RowAt.ix {K : PySem.W.Frag} {H : Hp} {p : Addr} {xs : List Int} {i : Nat} {Q : VK} (h : RowAt H p xs) (hi : i < xs.length) (q : Q (.int (plc xs i)) H) : rIx K (.ref p) (.int (i : Int)) H Q := by
  rw [plc_get hi] at q
  rcases h with h | h
  · exact .inl ⟨p, _, i, _, rfl, rfl, .inl (.inl h), at_int hi, q⟩
  · exact .inr (.inl ⟨p, _, i, _, rfl, rfl, .inl (.inl h), at_int hi, q⟩)
def NdAt (H : Hp) (p : Addr) (n : ND) : Prop := H p = some (.tup [.int (n.i : Int), .int n.s, .int (n.j : Int), .int n.p])
theorem nd_at {H : Hp} {p : Addr} {n : ND} : H p = some (.tup (n.toL.map V.int)) ↔ NdAt H p n := Iff.rfl
section
variable {P : Program} {w : World} {K : PySem.W.Frag} {mg : Str → Option Value} {base : Heap}
def spMet : Sp := fun vs H Q _ => ∃ (a b h p : Addr) (one other here : List Int) (n : ND), vs = [.ref a, .ref b, .ref h, .ref p] ∧ H a = some (.tup (one.map V.int)) ∧ H b = some (.tup (other.map V.int)) ∧ RowAt H h here ∧ NdAt H p n ∧ n.j < one.length ∧ other.length = one.length ∧ here.length = one.length ∧ Q (.bl (met one other n here)) H
theorem ok_met {f fG : Addr} {fd fdG : FuncData} {k : Nat} (F : Fun K "is_met" "is_met" kMet f fd) (Go : Kn P w K mg base 1 "gone_at" ["one", "other", "thing", "place"] spGone fG fdG) : FnOk P w K mg base CX0 (k + 2) f fd ["one", "other", "here", "need"] spMet := by
  refine F.ok scMet (fun vs H Q E h => ?_) (fun cdv A outer s H vs Q E hr h => ?_)
  · obtain ⟨a, b, h, p, one, other, here, n, rfl, _⟩ := h
    rfl
  · obtain ⟨a, b, hh, p, one, other, here, ⟨i, stop, j, place⟩, rfl, ea, eb, eh, ep, lj, lo, lh, q⟩ := h
    have ep' : H p = some (.tup [.int (i : Int), .int stop, .int (j : Int), .int place]) := ep
    have lj' : j < one.length := lj
    refine ⟨_, pss_cons (ps_par (i := 4) (j := 5) (by rfl) scMet.nd rfl rfl (by decide) rfl rfl (pa_cons (pe_ix ix_tup (pv 3) pe_int (fun _ _ => rfl)) (pa_cons (pe_ix ix_tup (pv 3) pe_int (fun _ _ => rfl)) pa_nil)) (by rfl))
      (pss_one (ps_ret (pe_cmpR op_ge (pe_kn Go hr (by omega) (pa_cons (pv 0) (pa_cons (pv 1) (pa_cons (pv 4) (pa_cons (pe_ix ix_seq (pv 2) (pv 4) (fun _ _ => rfl)) pa_nil))))) (pe_kn Go hr (by omega) (pa_cons (pv 0) (pa_cons (pv 1) (pa_cons (pv 4) (pa_cons (pv 5) pa_nil))))) (nomark _)))), ?_⟩
    refine ⟨.ref p, rfl, p, _, 2, _, rfl, rfl, .inl (.inl ep'), rfl, .ref p, rfl, p, _, 3, _, rfl, rfl, .inl (.inl ep'), rfl, _, _, rfl, ?_⟩
    refine ⟨.ref a, rfl, .ref b, rfl, .int j, rfl, .ref hh, rfl, .int j, rfl, eh.ix (by omega) ?_⟩
    refine ⟨a, b, one, other, j, plc here j, rfl, ea, eb, lj', by omega, .ref a, rfl, .ref b, rfl, .int j, rfl, .int place, rfl, a, b, one, other, j, place, rfl, ea, eb, lj', by omega, _, _, rfl, rfl, ?_⟩
    exact q

/-- the needs that are asked for -/
def AskedAt (H : Hp) (p : Addr) (nds : List ND) : Prop := ∃ as : List Addr, H p = some (.tup (as.map V.ref)) ∧ as.length = nds.length ∧ ∀ (i : Nat) (a : Addr) (n : ND), as[i]? = some a → nds[i]? = some n → NdAt H a n
theorem AskedAt.keep {H H' : Hp} {p : Addr} {nds : List ND} (h : AskedAt H p nds) (k : Keep H H') : AskedAt H' p nds := by
  obtain ⟨as, e, l, f⟩ := h
  exact ⟨as, k.tup e, l, fun i a n h1 h2 => k.tup (f i a n h1 h2)⟩
theorem NeedsAt.asked {H : Hp} {p : Addr} {nds : List ND} (h : NeedsAt H p (nds.map ND.toL)) : AskedAt H p nds := by
  obtain ⟨L, e, t, m⟩ := h
  refine ⟨L.map (·.1), by rw [e, List.map_map]; rfl, ?_, fun i a n h1 h2 => ?_⟩
  · have := congrArg List.length m
    rw [List.length_map, List.length_map] at this
    rw [List.length_map, this]
  · obtain ⟨z, ez, rfl⟩ := mapGet h1
    have e2 : (L.map (·.2))[i]? = some z.2 := by rw [List.getElem?_map, ez]; rfl
    rw [m, List.getElem?_map, h2] at e2
    have e3 : n.toL = z.2 := Option.some.inj e2
    have := t z (List.mem_of_getElem? ez)
    rw [← e3] at this
    exact this
def spEnd : Sp := fun vs H Q _ => ∃ (a b p h : Addr) (one other here : List Int) (nds : List ND) (i : Nat), vs = [.ref a, .ref b, .ref p, .ref h, .int i] ∧ H a = some (.tup (one.map V.int)) ∧ H b = some (.tup (other.map V.int)) ∧ RowAt H h here ∧ AskedAt H p nds ∧ (∀ n ∈ nds, n.Ok one other) ∧ i < one.length ∧ other.length = one.length ∧ here.length = one.length ∧ Q (.int (endF one other nds here i)) H
set_option maxHeartbeats 2000000 in
theorem ok_end {f fM fG : Addr} {fd fdM fdG : FuncData} {k : Nat} (F : Fun K "end_of" "end_of" kEnd f fd) (Me : Kn P w K mg base 2 "is_met" ["one", "other", "here", "need"] spMet fM fdM) (Go : Kn P w K mg base 1 "gone_at" ["one", "other", "thing", "place"] spGone fG fdG) : FnOk P w K mg base CX0 (k + 3) f fd ["one", "other", "asked", "here", "thing"] spEnd := by
  refine F.ok scEnd (fun vs H Q E h => ?_) (fun cdv A outer s H vs Q E hr h => ?_)
  · obtain ⟨a, b, p, h, one, other, here, nds, i, rfl, _⟩ := h
    rfl
  · obtain ⟨a, b, p, hh, one, other, here, nds, i, rfl, ea, eb, eh, ⟨as, ep, la, fa⟩, ok, li, lo, lh, q⟩ := h
    refine ⟨_, pss_cons (ps_set (i := 5) scEnd.nd rfl (.inl rfl) (pe_ix ix_tup (pv 1) (pv 4) (fun _ _ => rfl)))
      (pss_cons (ps_for PassesOwn.never rfl (pi_tup (pv 2)) (pg_name (i := 6) scEnd.nd rfl (.inl rfl))
        (pss_one (ps_if (PW.pt (pw_and (pt_cmpR op_eq (pe_ix ix_tup (pv 6) pe_int (fun _ _ => rfl)) (pv 4) (nomark _)) (pw_and1 (pt_not (pt_val (pe_kn Me hr (by omega) (pa_cons (pv 0) (pa_cons (pv 1) (pa_cons (pv 3) (pa_cons (pv 6) pa_nil))))))))))
          (pss_cons (ps_set (i := 7) scEnd.nd rfl (.inl rfl) (pe_ix ix_tup (pv 6) pe_int (fun _ _ => rfl)))
          (pss_one (ps_if (pt_cmpR op_lt (pe_kn Go hr (by omega) (pa_cons (pv 0) (pa_cons (pv 1) (pa_cons (pv 4) (pa_cons (pv 7) pa_nil))))) (pe_kn Go hr (by omega) (pa_cons (pv 0) (pa_cons (pv 1) (pa_cons (pv 4) (pa_cons (pv 5) pa_nil))))) (nomark _)) (pss_one (ps_set (i := 5) scEnd.nd rfl (.inl rfl) (pv 7))) pss_nil))) pss_nil)))
      (pss_one (ps_ret (pv 5)))), ?_⟩
    refine ⟨.ref b, rfl, .int i, rfl, b, _, i, _, rfl, rfl, .inl (.inl eb), at_int (show i < other.length by omega), ?_⟩
    refine ⟨.ref p, rfl, p, rfl, ⟨_, .inl (.inl ep)⟩, for_it (walk_tup (xs := as.map V.ref)) (fun m σ H' => (∃ u6 u7, σ = [some (.ref a), some (.ref b), some (.ref p), some (.ref hh), some (.int i), some (.int ((nds.take m).foldl (endS one other here i) (plc other i))), u6, u7]) ∧ H' = H)
      ⟨⟨none, none, by rw [List.take_zero, List.foldl_nil, plc_get (show i < other.length by omega)]; rfl⟩, rfl⟩ (fun m σ H' _ z => by rw [z.2]; exact .inl (.inl ep)) (fun m v σ H1 H2 hm z y => ?_) (fun σ H1 z => ?_)⟩
    · obtain ⟨⟨u6, u7, rfl⟩, rfl⟩ := z
      obtain ⟨rfl, gv⟩ := y
      obtain ⟨r, er, rfl⟩ := mapGet gv
      have hm' : m < as.length := by simpa using hm
      have hn : m < nds.length := by omega
      have en : nds[m]? = some nds[m] := List.getElem?_eq_getElem hn
      have rn := fa m r _ er en
      have okn := ok _ (List.getElem_mem hn)
      have rn' : H2 r = some (.tup [.int (nds[m].i : Int), .int nds[m].s, .int (nds[m].j : Int), .int nds[m].p]) := rn
      have tk : (nds.take (m + 1)).foldl (endS one other here i) (plc other i) = endS one other here i ((nds.take m).foldl (endS one other here i) (plc other i)) nds[m] := by
        rw [List.take_add_one, en, List.foldl_append]
        rfl
      rw [tk]
      generalize (nds.take m).foldl (endS one other here i) (plc other i) = e0
      generalize nds[m] = n at rn rn' okn
      refine ⟨.ref r, rfl, r, _, 0, _, rfl, rfl, .inl (.inl rn'), rfl, _, rfl, rfl, _, rfl, ite2 (fun c => ?_) (fun c => ?_)⟩
      · have ci : n.i = i := by
          have := of_decide_eq_true c
          injection this with h
          exact Int.ofNat.inj h
        refine ⟨.ref a, rfl, .ref b, rfl, .ref hh, rfl, .ref r, rfl, a, b, hh, r, one, other, here, n, rfl, ea, eb, eh, rn, okn.lj, lo, lh, _, rfl, ite2 (fun c2 => ?_) (fun c2 => ?_)⟩
        · have cm : met one other n here = false := (Bool.not_eq_true' _).mp c2
          refine ⟨.ref r, rfl, r, _, 1, _, rfl, rfl, .inl (.inl rn'), rfl, ?_⟩
          refine ⟨.ref a, rfl, .ref b, rfl, .int i, rfl, .int n.s, rfl, a, b, one, other, i, n.s, rfl, ea, eb, li, by omega, .ref a, rfl, .ref b, rfl, .int i, rfl, .int e0, rfl, a, b, one, other, i, e0, rfl, ea, eb, li, by omega, _, _, rfl, rfl, _, rfl, ite2 (fun c3 => ?_) (fun c3 => ?_)⟩
          · rw [show endS one other here i e0 n = n.s from if_pos ⟨ci, cm, of_decide_eq_true c3⟩]
            exact ⟨.int n.s, rfl, ⟨_, _, rfl⟩, rfl⟩
          · rw [show endS one other here i e0 n = e0 from if_neg (fun z => c3 (decide_eq_true z.2.2))]
            exact ⟨⟨_, _, rfl⟩, rfl⟩
        · rw [show endS one other here i e0 n = e0 from if_neg (fun z => c2 (by rw [z.2.1]; rfl))]
          exact ⟨⟨_, _, rfl⟩, rfl⟩
      · rw [show endS one other here i e0 n = e0 from if_neg (fun z => c (decide_eq_true (by rw [z.1])))]
        exact ⟨⟨_, _, rfl⟩, rfl⟩
    · obtain ⟨⟨u6, u7, rfl⟩, rfl⟩ := z
      rw [List.length_map, List.take_of_length_le (by omega)]
      exact ⟨_, rfl, q⟩
end
end K49

set_option Elab.async false
set_option linter.all false
set_option maxRecDepth 100000
namespace K49
open PySem PySem.Spec PyProof.Rows L2 NB

abbrev kRows : Stmt := topS 30
abbrev nRows : List Str := ["one", "other", "asked", "rows", "here", "goes_on", "thing", "end"]
theorem scRows : FnScope nRows ["one", "other", "asked"] (defScope kRows) := ⟨rfl, rfl, rfl, by decide +kernel, rfl, by decide +kernel, by decide +kernel⟩
/-- rows of a way in memory -/
def RowsL (H : Hp) (as : List Addr) (rws : List (Nat × Int)) : Prop := as.length = rws.length ∧ ∀ (i : Nat) (a : Addr) (r : Nat × Int), as[i]? = some a → rws[i]? = some r → H a = some (.tup [.int (r.1 : Int), .int r.2])
theorem RowsL.keep {H H' : Hp} {as : List Addr} {rws : List (Nat × Int)} (h : RowsL H as rws) (k : Keep H H') : RowsL H' as rws := ⟨h.1, fun i a r h1 h2 => k.tup (h.2 i a r h1 h2)⟩
theorem RowsL.snoc {H : Hp} {as : List Addr} {rws : List (Nat × Int)} {a : Addr} {r : Nat × Int} (h : RowsL H as rws) (e : H a = some (.tup [.int (r.1 : Int), .int r.2])) : RowsL H (as ++ [a]) (rws ++ [r]) := by
  refine ⟨by rw [List.length_append, List.length_append, h.1]; rfl, fun i b q h1 h2 => ?_⟩
  rcases Nat.lt_or_ge i as.length with c | c
  · rw [List.getElem?_append_left c] at h1
    rw [List.getElem?_append_left (by have := h.1; omega)] at h2
    exact h.2 i b q h1 h2
  · rw [List.getElem?_append_right c] at h1
    rw [List.getElem?_append_right (by have := h.1; omega), ← h.1] at h2
    have e0 : i - as.length = 0 := by
      rcases Nat.eq_zero_or_pos (i - as.length) with z | z
      · exact z
      · rw [List.getElem?_eq_none (by simp only [List.length_cons, List.length_nil]; omega)] at h1
        cases h1
    rw [e0] at h1 h2
    cases h1
    cases h2
    exact e
def RowsAt (H : Hp) (R : Addr) (rws : List (Nat × Int)) : Prop := ∃ as : List Addr, H R = some (.tup (as.map V.ref)) ∧ RowsL H as rws
theorem RowsAt.keep {H H' : Hp} {R : Addr} {rws : List (Nat × Int)} (h : RowsAt H R rws) (k : Keep H H') : RowsAt H' R rws := by
  obtain ⟨as, e, r⟩ := h
  exact ⟨as, k.tup e, r.keep k⟩
abbrev rm (one other : List Int) (nds : List ND) (here : List Int) : Nat := room1 (one := one) here + room2 (one := one) (other := other) nds here
/-- where all stands while one goes -/
structure Amid (one other : List Int) (nds : List ND) (rws : List (Nat × Int)) (here : List Int) : Prop where
  go : Goes one other nds one rws here
  sf : Safe one other nds here
  wi : Within one other here
  at' : AtStops one other nds here
  few : rws.length + rm one other nds here ≤ one.length + nds.length
theorem Amid.first {one other : List Int} {nds : List ND} (lo : other.length = one.length) (ok : ∀ n ∈ nds, n.Ok one other) : Amid one other nds [] one := ⟨.nil _, Safe.first ok, Within.first lo, fun i _ => .inl rfl, by
  have := room_first (one := one) (other := other) nds ok
  simpa using this⟩
theorem Amid.move {one other : List Int} {nds : List ND} {rws : List (Nat × Int)} {here : List Int} {i : Nat} (A : Amid one other nds rws here) (ok : ∀ n ∈ nds, n.Ok one other) (hi : i < one.length) (ne : endF one other nds here i ≠ plc here i) :
    Amid one other nds (rws ++ [(i, endF one other nds here i)]) (here.set i (endF one other nds here i)) ∧ rm one other nds (here.set i (endF one other nds here i)) < rm one other nds here := by
  have hl : i < here.length := by rw [A.wi.1]; exact hi
  have on := end_on A.sf A.wi hi
  have w0 := (A.wi.2 i hi).1
  have lt : rm one other nds (here.set i (endF one other nds here i)) < rm one other nds here := room_move A.sf A.wi A.at' hi ne
  refine ⟨⟨.snoc A.go A.sf A.wi hi ne on (Int.le_refl _), A.sf.move hl on (Int.le_refl _), A.wi.move (by omega) (endF_spec nds here i).2.1, A.at'.move A.wi hi, ?_⟩, lt⟩
  have fw := A.few
  rw [List.length_append]
  show rws.length + 1 + rm one other nds (here.set i (endF one other nds here i)) ≤ _
  generalize rm one other nds (here.set i (endF one other nds here i)) = x at lt ⊢
  generalize rm one other nds here = y at lt fw
  omega
section
variable {P : Program} {w : World} {K : PySem.W.Frag} {mg : Str → Option Value} {base : Heap}
def spRows : Sp := fun vs H Q _ => ∃ (a b p : Addr) (one other : List Int) (nds : List ND), vs = [.ref a, .ref b, .ref p] ∧ H a = some (.tup (one.map V.int)) ∧ H b = some (.tup (other.map V.int)) ∧ AskedAt H p nds ∧ (∀ n ∈ nds, n.Ok one other) ∧ other.length = one.length ∧ one.length ≤ 12 ∧ nds.length ≤ 100 ∧
  ∀ H' g R h rws last, Same H H' → H g = none → H' g = some (.tup [.ref R, .ref h]) → RowsAt H' R rws → H' h = some (.tup (last.map V.int)) → Amid one other nds rws last → (∀ i, i < one.length → endF one other nds last i = plc last i) → Q (.ref g) H'
set_option maxHeartbeats 4000000 in
theorem ok_rowsT {f fE : Addr} {fd fdE : FuncData} {k : Nat} (F : Fun K "rows_towards" "rows_towards" kRows f fd) (En : Kn P w K mg base 3 "end_of" ["one", "other", "asked", "here", "thing"] spEnd fE fdE) (mL : mg "list" = none) (mr : mg "range" = none) (ml : mg "len" = none) (mt : mg "tuple" = none) : FnOk P w K mg base CX0 (k + 4) f fd ["one", "other", "asked"] spRows := by
  refine F.ok scRows (fun vs H Q E h => ?_) (fun cdv A outer s H vs Q E hr h => ?_)
  · obtain ⟨a, b, p, one, other, nds, rfl, _⟩ := h
    rfl
  · obtain ⟨a, b, p, one, other, nds, rfl, ea, eb, ep, ok, lo, l12, l100, q⟩ := h
    refine ⟨_, pss_cons (ps_set (i := 3) scRows.nd rfl (.inl rfl) (pe_lst pa_nil))
      (pss_cons (ps_set (i := 4) scRows.nd rfl (.inl rfl) (pe_callTy call_list_of (by rfl) mL (by decide +kernel) (pa_cons (pv 0) pa_nil)))
      (pss_cons (ps_set (i := 5) scRows.nd rfl (.inl rfl) pe_bl)
      (pss_cons (ps_while PassesOwn.never (pt_val (pv 5))
        (pss_cons (ps_set (i := 5) scRows.nd rfl (.inl rfl) pe_bl)
        (pss_one (ps_for PassesOwn.never rfl (pi_range1 (by rfl) mr (pa_cons (pe_callB call_len_seq (by rfl) ml PySem.boot_len (pa_cons (pv 0) pa_nil)) pa_nil)) (pg_name (i := 6) scRows.nd rfl (.inl rfl))
          (pss_cons (ps_set (i := 7) scRows.nd rfl (.inl rfl) (pe_kn En hr (by omega) (pa_cons (pv 0) (pa_cons (pv 1) (pa_cons (pv 2) (pa_cons (pv 4) (pa_cons (pv 6) pa_nil)))))))
          (pss_one (ps_if (pt_cmpR op_ne (pv 7) (pe_ix ix_list (pv 4) (pv 6) (fun _ _ => rfl)) (nomark _))
            (pss_cons (ps_expr (pe_bm PySem.F.plainAttrs_list PySem.F.slot_list_append PySem.F.type_list_append mt_append (pv 3) (pa_cons (pe_tup (pa_cons (pv 6) (pa_cons (pv 7) pa_nil))) pa_nil)))
            (pss_cons (ps_asg (pv 7) (pg_sub (pv 4) (pv 6) set_list))
            (pss_one (ps_set (i := 5) scRows.nd rfl (.inl rfl) pe_bl)))) pss_nil)))))))
      (pss_one (ps_ret (pe_tup (pa_cons (pe_callTy call_tuple_of (by rfl) mt (by decide +kernel) (pa_cons (pv 3) pa_nil)) (pa_cons (pe_callTy call_tuple_of (by rfl) mt (by decide +kernel) (pa_cons (pv 4) pa_nil)) pa_nil)))))))), ?_⟩
    refine ⟨Nat.zero_le _, fun l nl => ?_⟩
    have s0 := same_new (o := HO.lst []) nl
    refine ⟨.ref a, rfl, a, _, rfl, .inr (.inl (.inl (s0 _ _ ea))), fun hl nhl => ?_⟩
    have s1 := s0.trans (same_new (o := HO.lst (one.map V.int)) nhl)
    have el : (upd (upd H l (.lst [])) hl (.lst (one.map V.int))) l = some (.lst (([] : List Addr).map V.ref)) := same_new nhl _ _ upd_same
    have eh : (upd (upd H l (.lst [])) hl (.lst (one.map V.int))) hl = some (.lst (one.map V.int)) := upd_same
    have nh : H hl = none := s0.free nhl
    have lh : l ≠ hl := ne_of_none upd_same nhl
    generalize (upd (upd H l (.lst [])) hl (.lst (one.map V.int))) = H1 at s1 el eh ⊢
    refine ⟨fun m σ H' => ∃ (go : Bool) (u6 u7 : Option V) (as : List Addr) (rws : List (Nat × Int)) (here : List Int), σ = [some (.ref a), some (.ref b), some (.ref p), some (.ref l), some (.ref hl), some (.bl go), u6, u7] ∧ m = 2 * rm one other nds here + (if go then 1 else 0) ∧ Same H H' ∧ H' l = some (.lst (as.map V.ref)) ∧ RowsL H' as rws ∧ H' hl = some (.lst (here.map V.int)) ∧ Amid one other nds rws here ∧ (go = false → ∀ i, i < one.length → endF one other nds here i = plc here i), ⟨_, true, none, none, [], [], one, rfl, rfl, s1, el, ⟨rfl, fun i a r h => by simp at h⟩, eh, Amid.first lo ok, (fun h => by cases h)⟩, fun m σ H2 W => ?_⟩
    obtain ⟨go, u6, u7, as, rws, here, rfl, em, s2, el2, hR, eh2, A, stop⟩ := W
    refine ⟨.bl go, rfl, go, rfl, ite2 (fun c => ?_) (fun c => ?_)⟩
    · subst c
      refine ⟨_, fun _ _ h => h, ?_⟩
      have ea2 := s2 _ _ ea
      refine ⟨.ref a, rfl, a, _, rfl, .inr (.inl (.inl ea2)), _, rfl, by rw [List.length_map]; omega, by rw [List.length_map]; omega, for_it walk_range (fun t σ H' => ∃ (go : Bool) (u6 u7 : Option V) (as' : List Addr) (rws' : List (Nat × Int)) (here' : List Int), σ = [some (.ref a), some (.ref b), some (.ref p), some (.ref l), some (.ref hl), some (.bl go), u6, u7] ∧ Same H H' ∧ H' l = some (.lst (as'.map V.ref)) ∧ RowsL H' as' rws' ∧ H' hl = some (.lst (here'.map V.int)) ∧ Amid one other nds rws' here' ∧ (go = true → rm one other nds here' < rm one other nds here) ∧ (go = false → rm one other nds here' ≤ rm one other nds here ∧ ∀ i, i < t → endF one other nds here' i = plc here' i))
        ⟨false, _, _, as, rws, here, rfl, s2, el2, hR, eh2, A, (fun h => by cases h), fun _ => ⟨Nat.le_refl _, fun i h => absurd h (Nat.not_lt_zero _)⟩⟩ (fun _ _ _ _ _ => trivial) (fun t v σ H3 H4 ht z y => ?_) (fun σ H3 z => ?_)⟩
      · obtain ⟨go, u6, u7, as', rws', here', rfl, s3, el3, hR3, eh3, A3, g1, g2⟩ := z
        obtain ⟨rfl, rfl⟩ := y
        have ht' : t < one.length := by
          rw [List.length_map] at ht
          omega
        have lhe : here'.length = one.length := A3.wi.1
        refine ⟨.ref a, rfl, .ref b, rfl, .ref p, rfl, .ref hl, rfl, _, rfl, a, b, p, hl, one, other, here', nds, t, by show [_, _, _, _, V.int (0 + (t : Int))] = _; rw [Int.zero_add], s3 _ _ ea, s3 _ _ eb, .inl eh3, ep.keep (.same s3), ok, ht', lo, lhe, ?_⟩
        have at1 : atI (here'.map V.int) (0 + (t : Int)) = some (.int (plc here' t)) := by
          rw [Int.zero_add, plc_get (by omega)]
          exact at_int (by omega)
        refine ⟨_, rfl, .ref hl, rfl, _, rfl, hl, _, _, _, rfl, rfl, .inl (.inl eh3), at1, rfl, _, rfl, ite2 (fun c => ?_) (fun c => ?_)⟩
        · have ne : endF one other nds here' t ≠ plc here' t := fun z => by
            rw [z] at c
            simp at c
          obtain ⟨A4, lt4⟩ := A3.move ok ht' ne
          have f3 := A3.few
          refine ⟨.ref l, rfl, .inl ⟨rfl, _, .inl (.inl el3)⟩, _, rfl, _, rfl, (show 2 ≤ sizeLine by decide), fun T nT => ?_⟩
          have sT := same_new (o := HO.tup [V.int (0 + (t : Int)), V.int (endF one other nds here' t)]) nT
          have elT := sT _ _ el3
          refine ⟨l, _, _, rfl, rfl, elT, by rw [List.length_map, hR3.1]; exact small1000 (by omega), ?_⟩
          have kT : Keep (upd H4 T (.tup [V.int (0 + (t : Int)), V.int (endF one other nds here' t)])) (upd (upd H4 T (.tup [V.int (0 + (t : Int)), V.int (endF one other nds here' t)])) l (.lst (as'.map V.ref ++ [.ref T]))) := .upd elT
          have s5 : Same H (upd (upd H4 T (.tup [V.int (0 + (t : Int)), V.int (endF one other nds here' t)])) l (.lst (as'.map V.ref ++ [.ref T]))) := same_over (s3.trans sT) nl
          have el5 : (upd (upd H4 T (.tup [V.int (0 + (t : Int)), V.int (endF one other nds here' t)])) l (.lst (as'.map V.ref ++ [.ref T]))) l = some (.lst ((as' ++ [T]).map V.ref)) := by
            rw [upd_same, List.map_append]
            rfl
          have eh5 : (upd (upd H4 T (.tup [V.int (0 + (t : Int)), V.int (endF one other nds here' t)])) l (.lst (as'.map V.ref ++ [.ref T]))) hl = some (.lst (here'.map V.int)) := by
            rw [upd_ne lh.symm]
            exact sT _ _ eh3
          have hR5 := RowsL.snoc (r := (t, endF one other nds here' t)) ((hR3.keep (.same sT)).keep kT) (a := T) (kT.tup (by rw [upd_same, Int.zero_add]))
          generalize (upd (upd H4 T (.tup [V.int (0 + (t : Int)), V.int (endF one other nds here' t)])) l (.lst (as'.map V.ref ++ [.ref T]))) = H5 at s5 el5 eh5 hR5 ⊢
          refine ⟨_, rfl, .ref hl, rfl, _, rfl, hl, _, _, t, rfl, rfl, eh5, by rw [Int.zero_add]; exact ixN_nat (by rw [List.length_map]; omega), ?_⟩
          refine ⟨true, _, _, as' ++ [T], _, _, rfl, same_over s5 nh, ?_, hR5.keep (.upd eh5), ?_, A4, fun _ => ?_, (fun h => by cases h)⟩
          · rw [upd_ne lh]
            exact el5
          · rw [upd_same, List.map_set]
          · cases go with
            | true => exact Nat.lt_trans lt4 (g1 rfl)
            | false => exact Nat.lt_of_lt_of_le lt4 (g2 rfl).1
        · have eqn : endF one other nds here' t = plc here' t := by
            rw [Bool.not_eq_true, Bool.not_eq_false'] at c
            have := of_decide_eq_true c
            injection this
          refine ⟨go, _, _, as', rws', here', rfl, s3, el3, hR3, eh3, A3, g1, fun h => ⟨(g2 h).1, fun i hi => ?_⟩⟩
          rcases Nat.lt_or_ge i t with z | z
          · exact (g2 h).2 i z
          · rw [show i = t by omega]
            exact eqn
      · obtain ⟨go, u6, u7, as', rws', here', rfl, s3, el3, hR3, eh3, A3, g1, g2⟩ := z
        refine ⟨_, ?_, go, _, _, as', rws', here', rfl, rfl, s3, el3, hR3, eh3, A3, fun h i hi => (g2 h).2 i (by rw [List.length_map]; omega)⟩
        rw [em]
        cases go with
        | true =>
          have := g1 rfl
          simp only [if_true]
          omega
        | false =>
          have := (g2 rfl).1
          simp only [Bool.false_eq_true, if_false, if_true]
          omega
    · have c' : go = false := Bool.eq_false_iff.mpr c
      have fw := A.few
      refine ⟨.ref l, rfl, l, _, rfl, .inl ⟨.inl (.inl el2), fun R nR => ?_⟩⟩
      have sR := same_new (o := HO.tup (as.map V.ref)) nR
      refine ⟨.ref hl, rfl, hl, _, rfl, .inl ⟨.inl (.inl (sR _ _ eh2)), fun h nh' => ?_⟩⟩
      have sh := same_new (o := HO.tup (here.map V.int)) nh'
      refine ⟨(show 2 ≤ sizeLine by decide), fun g ng => ?_⟩
      have sg := same_new (o := HO.tup [V.ref R, V.ref h]) ng
      have s3 := (s2.trans sR).trans sh
      exact q _ g R h rws here (s3.trans sg) (s3.free ng) upd_same ⟨as, sg _ _ (sh _ _ upd_same), ((hR.keep (.same sR)).keep (.same sh)).keep (.same sg)⟩ (sg _ _ upd_same) A (stop c')
end
end K49

set_option Elab.async false
set_option linter.all false
set_option maxRecDepth 100000
namespace K49
open PySem PySem.Spec PyProof.Rows L2 NB

abbrev kHold : Stmt := topS 31
abbrev nHold : List Str := ["one", "other", "asked", "here", "thing", "held", "need"]
theorem scHold : FnScope nHold ["one", "other", "asked", "here", "thing"] (defScope kHold) := ⟨rfl, rfl, rfl, by decide +kernel, rfl, by decide +kernel, by decide +kernel⟩
abbrev lrefs (L : List (Addr × ND)) : List V := L.map fun z => V.ref z.1
theorem lrefs_snoc (L : List (Addr × ND)) (z : Addr × ND) : lrefs (L ++ [z]) = lrefs L ++ [V.ref z.1] := List.map_append
def NdsL (H : Hp) (L : List (Addr × ND)) : Prop := ∀ z ∈ L, NdAt H z.1 z.2
theorem AskedAt.zip {H : Hp} {p : Addr} {nds : List ND} (h : AskedAt H p nds) : ∃ L : List (Addr × ND), H p = some (.tup (lrefs L)) ∧ L.map (·.2) = nds ∧ NdsL H L := by
  obtain ⟨as, e, l, f⟩ := h
  refine ⟨as.zip nds, ?_, List.map_snd_zip (by omega), fun z hz => ?_⟩
  · rw [e, show lrefs (as.zip nds) = ((as.zip nds).map (·.1)).map V.ref by rw [List.map_map]; rfl, List.map_fst_zip (by omega)]
  · obtain ⟨i, hi, ei⟩ := List.getElem_of_mem hz
    have hi' : i < as.length ∧ i < nds.length := by
      rw [List.length_zip] at hi
      omega
    have ez : (as.zip nds)[i]? = some (as[i], nds[i]) := List.getElem?_zip_eq_some.mpr ⟨List.getElem?_eq_getElem hi'.1, List.getElem?_eq_getElem hi'.2⟩
    rw [List.getElem?_eq_getElem hi, ei] at ez
    rw [Option.some.inj ez]
    exact f i _ _ (List.getElem?_eq_getElem hi'.1) (List.getElem?_eq_getElem hi'.2)
theorem filter_take {α : Type} (f : α → Bool) (L : List α) (i : Nat) (z : α) (h : L[i]? = some z) : (L.take (i + 1)).filter f = (L.take i).filter f ++ if f z then [z] else [] := by
  rw [List.take_add_one, h, List.filter_append]
  congr 1
  simp only [Option.toList_some, List.filter_cons, List.filter_nil]
theorem ftake_small {α β : Type} {f : α → Bool} {L : List α} {i : Nat} (h : L.length ≤ 1000) (g : α → β) : (((L.take i).filter f).map g).length < sizeLine := by
  rw [List.length_map]
  refine Nat.lt_of_le_of_lt (List.length_filter_le _ _) ?_
  rw [List.length_take]
  exact small1000 (by omega)
section
variable {P : Program} {w : World} {K : PySem.W.Frag} {mg : Str → Option Value} {base : Heap}
def spHold : Sp := fun vs H Q _ => ∃ (a b p h : Addr) (one other here : List Int) (nds : List ND) (i : Nat), vs = [.ref a, .ref b, .ref p, .ref h, .int i] ∧ H a = some (.tup (one.map V.int)) ∧ H b = some (.tup (other.map V.int)) ∧ H h = some (.tup (here.map V.int)) ∧ AskedAt H p nds ∧ (∀ n ∈ nds, n.Ok one other) ∧ i < one.length ∧ other.length = one.length ∧ here.length = one.length ∧ nds.length ≤ 100 ∧
  (∃ n ∈ nds, n.i = i ∧ n.s = plc here i ∧ met one other n here = false) ∧ ∀ H' r n, Same H H' → NdAt H' r n → n ∈ nds → n.i = i → n.s = plc here i → met one other n here = false → Q (.ref r) H'
set_option maxHeartbeats 4000000 in
theorem ok_hold {f fM : Addr} {fd fdM : FuncData} {k : Nat} (F : Fun K "holding" "holding" kHold f fd) (Me : Kn P w K mg base 2 "is_met" ["one", "other", "here", "need"] spMet fM fdM) : FnOk P w K mg base CX0 (k + 3) f fd ["one", "other", "asked", "here", "thing"] spHold := by
  refine F.ok scHold (fun vs H Q E h => ?_) (fun cdv A outer s H vs Q E hr h => ?_)
  · obtain ⟨a, b, p, h, one, other, here, nds, i, rfl, _⟩ := h
    rfl
  · obtain ⟨a, b, p, hh, one, other, here, nds, i, rfl, ea, eb, eh, ep, ok, li, lo, lh, l100, ⟨n0, hn0, c0, c1, c2⟩, q⟩ := h
    obtain ⟨L, eL, mL, aL⟩ := ep.zip
    have lL : L.length ≤ 100 := by
      have := congrArg List.length mL
      rw [List.length_map] at this
      omega
    refine ⟨_, pss_cons (ps_setLc (i := 5) (own := [("need", 6)]) (g := gName 6) (tt := tAnd (tTest (tOp rEq (tOp (rIxT K) (tVar 6) (tC (.int 0))) (tVar 4))) (tTest (tOp rEq (tOp (rIxT K) (tVar 6) (tC (.int 1))) (tOp (rIxT K) (tVar 3) (tVar 4))))) (te := tVar 6) rfl scHold.nd rfl rfl (sw_true rfl rfl rfl (by decide +kernel)) (pi_tup (pv 2)) (blkOk_by (N := nHold) (sc := defScope kHold) (by decide +kernel))
        (fun _ _ _ _ _ => pg_name (i := 6) scHold.nd rfl (.inl rfl) (hf := .inr rfl)) (fun _ _ _ _ _ => pts_one (PW.pt (pw_and (pt_cmpR (r := rEq) op_eq (pe_ix (r := rIxT K) ix_tup (pv 6) pe_int (fun _ _ => rfl)) (pv 4) (nomark _)) (pw_and1 (pt_cmpR (r := rEq) op_eq (pe_ix (r := rIxT K) ix_tup (pv 6) pe_int (fun _ _ => rfl)) (pe_ix (r := rIxT K) ix_tup (pv 3) (pv 4) (fun _ _ => rfl)) (nomark _)))))) (fun _ _ _ _ _ => pv 6))
      (pss_one (ps_ret (pe_ix ix_list (pe_lc (own := [("need", 6)]) (g := gName 6) (tt := tNot (tB (tCall spMet [] E0 (tCons (tVar 0) (tCons (tVar 1) (tCons (tVar 3) (tCons (tVar 6) tNil))))))) (te := tVar 6) rfl scHold.nd (pi_list (pv 5)) (blkOk_by (N := nHold) (sc := defScope kHold) (by decide +kernel))
        (fun _ _ _ _ _ => pg_name (i := 6) scHold.nd rfl (.inl rfl) (hf := .inr rfl)) (fun _ _ _ _ _ => pts_one (pt_not (pt_val (pe_kn Me hr (by omega) (pa_cons (pv 0) (pa_cons (pv 1) (pa_cons (pv 3) (pa_cons (pv 6) pa_nil)))))))) (fun _ _ _ _ _ => pv 6)) pe_int (fun _ _ => rfl)))), ?_⟩
    refine ⟨.ref p, rfl, p, rfl, ⟨_, .inl (.inl eL)⟩, fun D nD => lc_it (walk_tup (xs := lrefs L)) (fun m H' => Same H H' ∧ H' D = some (.lst (lrefs ((L.take m).filter fun z => decide (z.2.i = i) && decide (z.2.s = plc here i))))) ⟨same_new nD, upd_same⟩ (fun m H' _ p => .inl (.inl (p.1 _ _ eL))) (fun m v H1 H2 hm p yy => ?_) (fun H1 p => ?_)⟩
    · obtain ⟨s1, eD⟩ := p
      obtain ⟨rfl, gv⟩ := yy
      obtain ⟨z, ez, rfl⟩ := mapGet gv
      have rz : NdAt H2 z.1 z.2 := (Keep.same s1).tup (aL z (List.mem_of_getElem? ez))
      have rz' : H2 z.1 = some (.tup [.int (z.2.i : Int), .int z.2.s, .int (z.2.j : Int), .int z.2.p]) := rz
      have ft := filter_take (fun z : Addr × ND => decide (z.2.i = i) && decide (z.2.s = plc here i)) L m z ez
      have e1 : decide (V.int (z.2.i : Int) = V.int (i : Int)) = decide (z.2.i = i) := by
        by_cases c : z.2.i = i
        · rw [c]
          simp
        · rw [decide_eq_false c, decide_eq_false]
          intro h
          injection h with h
          exact c (Int.ofNat.inj h)
      have e2 : decide (V.int z.2.s = V.int (plc here i)) = decide (z.2.s = plc here i) := by
        by_cases c : z.2.s = plc here i
        · rw [c]
          simp
        · rw [decide_eq_false c, decide_eq_false]
          intro h
          injection h with h
          exact c h
      refine ⟨wipe_one, .ref z.1, rfl, z.1, _, 0, _, rfl, rfl, .inl (.inl rz'), rfl, _, rfl, rfl, _, rfl, tand_joinT (x := decide (z.2.s = plc here i)) (fun Q q => ?_) ?_⟩
      · refine ⟨.ref z.1, rfl, z.1, _, 1, _, rfl, rfl, .inl (.inl rz'), rfl, .ref hh, rfl, _, rfl, hh, _, i, _, rfl, rfl, .inl (.inl (s1 _ _ eh)), at_int (by omega), rfl, _, rfl, ?_⟩
        rw [← plc_get (show i < here.length by omega), e2]
        exact q
      rw [e1]
      refine ite2 (fun c => ?_) (fun c => ?_)
      · refine ⟨_, rfl, _, eD, ftake_small (by omega) _, same_over s1 nD, ?_⟩
        rw [upd_same, ft, if_pos c, lrefs_snoc]
      · refine ⟨s1, ?_⟩
        rw [eD, ft, if_neg c, List.append_nil]
    · obtain ⟨s1, eD⟩ := p
      rw [List.length_map, List.take_length] at eD
      generalize hL1 : (L.filter fun z => decide (z.2.i = i) && decide (z.2.s = plc here i)) = L1 at eD
      have lL1 : L1.length ≤ 100 := by
        rw [← hL1]
        exact Nat.le_trans (List.length_filter_le _ _) lL
      have m1 : ∀ z, z ∈ L1 ↔ z ∈ L ∧ z.2.i = i ∧ z.2.s = plc here i := fun z => by
        rw [← hL1, List.mem_filter, Bool.and_eq_true, decide_eq_true_eq, decide_eq_true_eq]
      refine ⟨.ref D, rfl, D, rfl, ⟨_, .inl (.inl eD)⟩, fun D2 nD2 => lc_it (walk_list (xs := lrefs L1)) (fun m H' => Same H1 H' ∧ H' D2 = some (.lst (lrefs ((L1.take m).filter fun z => !met one other z.2 here)))) ⟨same_new nD2, upd_same⟩ (fun m H' _ p => .inl (.inl (p.1 _ _ eD))) (fun m v H2 H3 hm p yy => ?_) (fun H2 p => ?_)⟩
      · obtain ⟨s2, eD2⟩ := p
        obtain ⟨rfl, gv⟩ := yy
        obtain ⟨z, ez, rfl⟩ := mapGet gv
        have hz := ((m1 z).mp (List.mem_of_getElem? ez)).1
        have s12 := s1.trans s2
        have rz : NdAt H3 z.1 z.2 := (Keep.same s12).tup (aL z hz)
        have hzn : z.2 ∈ nds := by
          rw [← mL]
          exact List.mem_map.mpr ⟨z, hz, rfl⟩
        have ft := filter_take (fun z : Addr × ND => !met one other z.2 here) L1 m z ez
        refine ⟨wipe_one, .ref a, rfl, .ref b, rfl, .ref hh, rfl, .ref z.1, rfl, a, b, hh, z.1, one, other, here, z.2, rfl, s12 _ _ ea, s12 _ _ eb, .inr (s12 _ _ eh), rz, (ok _ hzn).lj, lo, lh, _, rfl, ?_⟩
        refine ite2 (fun c => ?_) (fun c => ?_)
        · refine ⟨_, rfl, _, eD2, ftake_small (by omega) _, same_over s2 nD2, ?_⟩
          rw [upd_same, ft, if_pos c, lrefs_snoc]
        · refine ⟨s2, ?_⟩
          rw [eD2, ft, if_neg c, List.append_nil]
      · obtain ⟨s2, eD2⟩ := p
        rw [List.length_map, List.take_length] at eD2
        have : ∃ z L2', (L1.filter fun z => !met one other z.2 here) = z :: L2' := by
          rw [← mL] at hn0
          obtain ⟨z0, hz0, e0⟩ := List.mem_map.mp hn0
          have hz1 : z0 ∈ L1.filter fun z => !met one other z.2 here := List.mem_filter.mpr ⟨(m1 z0).mpr ⟨hz0, by rw [e0]; exact c0, by rw [e0]; exact c1⟩, by rw [e0, c2]; rfl⟩
          cases e : (L1.filter fun z => !met one other z.2 here) with
          | nil =>
            rw [e] at hz1
            exact absurd hz1 List.not_mem_nil
          | cons z L2' => exact ⟨z, L2', rfl⟩
        obtain ⟨z, L2', eL2⟩ := this
        have hz : z ∈ L1.filter fun z => !met one other z.2 here := by
          rw [eL2]
          exact List.mem_cons_self
        rw [List.mem_filter] at hz
        obtain ⟨hzL, hzi, hzs⟩ := (m1 z).mp hz.1
        have hzn : z.2 ∈ nds := by
          rw [← mL]
          exact List.mem_map.mpr ⟨z, hzL, rfl⟩
        rw [eL2] at eD2
        refine ⟨D2, _, 0, V.ref z.1, rfl, rfl, .inl (.inl eD2), atI_nat (j := 0) rfl, ?_⟩
        exact q H2 z.1 z.2 (s1.trans s2) ((Keep.same (s1.trans s2)).tup (aL z hzL)) hzn hzi hzs ((Bool.not_eq_true' _).mp hz.2)
end
end K49

set_option Elab.async false
set_option linter.all false
set_option maxRecDepth 100000
namespace K49
open PySem PySem.Spec PyProof.Rows L2 NB

abbrev kRing : Stmt := topS 32
abbrev kWay : Stmt := topS 33
abbrev nRing : List Str := ["one", "other", "asked", "here", "thing", "things", "row", "number"]
theorem scRing : FnScope nRing ["one", "other", "asked", "here"] (defScope kRing) := ⟨rfl, rfl, rfl, by decide +kernel, rfl, by decide +kernel, by decide +kernel⟩
theorem scWay : FnScope ["plan", "one", "other", "asked", "rows", "last"] ["plan", "one", "other"] (defScope kWay) := ⟨rfl, rfl, rfl, by decide +kernel, rfl, by decide +kernel, by decide +kernel⟩
abbrev nats (ts : List Nat) : List V := ts.map fun (k : Nat) => V.int (k : Int)
theorem nats_flat (ts : List Nat) : (nats ts).all flatV = true := by
  rw [List.all_map, List.all_eq_true]
  exact fun _ _ => rfl
theorem in_nats (t : Nat) (ts : List Nat) : inV (.int (t : Int)) (nats ts) = decide (t ∈ ts) := by
  unfold inV
  rw [List.any_map, Bool.eq_iff_iff, List.any_eq_true, decide_eq_true_eq]
  constructor
  · rintro ⟨x, hx, h⟩
    have h' : ((x : Int) == (t : Int)) = true := h
    have : x = t := Int.ofNat.inj (eq_of_beq h')
    rwa [← this]
  · intro h
    exact ⟨t, h, by show ((t : Int) == (t : Int)) = true; simp⟩
theorem ne_place {xs ys : List Int} (hl : xs.length = ys.length) (h : xs ≠ ys) : ∃ i, i < xs.length ∧ plc xs i ≠ plc ys i := by
  refine Classical.byContradiction fun c => h (List.ext_getElem hl fun i h1 h2 => ?_)
  refine Classical.byContradiction fun d => c ⟨i, h1, ?_⟩
  rw [plc_get h1, plc_get h2]
  exact d
theorem first_at {t : Nat} : ∀ {ts : List Nat}, t ∈ ts → ∃ idx, ts[idx]? = some t ∧ idx < ts.length ∧ ∀ m, m < idx → ts[m]? ≠ some t
  | [], h => absurd h List.not_mem_nil
  | x :: ts, h => by
    by_cases c : x = t
    · subst c
      exact ⟨0, rfl, Nat.zero_lt_succ _, fun m hm => absurd hm (Nat.not_lt_zero _)⟩
    · obtain ⟨idx, e, l, f⟩ := first_at (ts := ts) ((List.mem_cons.mp h).resolve_left fun z => c z.symm)
      refine ⟨idx + 1, e, Nat.succ_lt_succ l, fun m hm => ?_⟩
      match m, hm with
      | 0, _ => exact fun z => c (Option.some.inj z)
      | m + 1, hm => exact f m (Nat.lt_of_succ_lt_succ hm)
/-- a chain of holdings that comes round is a ring -/
theorem ring_of {one other last : List Int} {nds : List ND} {L : List ND} {ts : List Nat} {t idx : Nat} (ll : L.length = ts.length) (f : ∀ (k : Nat) (z : ND), L[k]? = some z → ts[k]? = some z.i ∧ z ∈ nds ∧ z.s = plc last z.i ∧ met one other z last = false ∧ (ts ++ [t])[k + 1]? = some z.j) (hi : ts[idx]? = some t) : RingAt one other nds (L.drop idx) := by
  have hidx : idx < ts.length := (List.getElem?_eq_some_iff.mp hi).1
  refine ⟨fun e => ?_, fun k n m hn hm => ?_⟩
  · have := congrArg List.length e
    rw [List.length_drop] at this
    simp at this
    omega
  · rw [List.getElem?_drop] at hn
    have kn := (List.getElem?_eq_some_iff.mp hn).1
    obtain ⟨f1, f2, f3, f4, f5⟩ := f _ n hn
    have um : gn one other n.j (plc last n.j) < gn one other n.j n.p := by
      unfold met at f4
      rw [decide_eq_false_iff_not] at f4
      omega
    have fin : m.i = n.j → m.s = plc last m.i → n ∈ nds ∧ n.j = m.i ∧ gn one other m.i m.s < gn one other n.j n.p := fun e1 e2 => by
      refine ⟨f2, e1.symm, ?_⟩
      rw [e2, e1]
      exact um
    rcases Nat.lt_or_ge (idx + k + 1) L.length with c | c
    · have hm' : L[idx + k + 1]? = some m := by
        rw [List.getElem?_append_left (by rw [List.length_drop, List.length_drop]; omega), List.getElem?_drop, List.getElem?_drop] at hm
        rw [← hm]
        congr 1
        omega
      obtain ⟨g1, g2, g3, g4, g5⟩ := f _ m hm'
      rw [List.getElem?_append_left (by omega), g1] at f5
      exact fin (Option.some.inj f5) g3
    · have hk : k = L.length - idx - 1 := by omega
      have hm' : L[idx]? = some m := by
        rw [List.getElem?_append_right (by rw [List.length_drop, List.length_drop]; omega), List.length_drop, List.length_drop] at hm
        rw [show k - (L.length - idx - 1) = 0 by omega, List.getElem?_take_of_lt (by omega), List.getElem?_drop] at hm
        exact hm
      obtain ⟨g1, g2, g3, g4, g5⟩ := f _ m hm'
      rw [List.getElem?_append_right (by omega), show idx + k + 1 - ts.length = 0 by omega] at f5
      rw [hi] at g1
      have e1 : t = m.i := Option.some.inj g1
      have e2 : t = n.j := Option.some.inj f5
      exact fin (by rw [← e1, e2]) g3
section
variable {P : Program} {w : World} {K : PySem.W.Frag} {mg : Str → Option Value} {base : Heap}
def spRing : Sp := fun vs H Q _ => ∃ (a b p h : Addr) (one other last : List Int) (nds : List ND), vs = [.ref a, .ref b, .ref p, .ref h] ∧ H a = some (.tup (one.map V.int)) ∧ H b = some (.tup (other.map V.int)) ∧ H h = some (.tup (last.map V.int)) ∧ AskedAt H p nds ∧ (∀ n ∈ nds, n.Ok one other) ∧ other.length = one.length ∧ last.length = one.length ∧ one.length ≤ 12 ∧ nds.length ≤ 100 ∧ last ≠ other ∧ (∀ i, i < one.length → endF one other nds last i = plc last i) ∧
  ∀ H' g L, Same H H' → H g = none → H' g = some (.tup (lrefs L)) → NdsL H' L → RingAt one other nds (L.map (·.2)) → L.length ≤ 12 → Q (.ref g) H'
set_option maxHeartbeats 4000000 in
theorem ok_ring {f fH : Addr} {fd fdH : FuncData} {k : Nat} (F : Fun K "ring_at" "ring_at" kRing f fd) (Ho : Kn P w K mg base 3 "holding" ["one", "other", "asked", "here", "thing"] spHold fH fdH) (mr : mg "range" = none) (ml : mg "len" = none) (mt : mg "tuple" = none) : FnOk P w K mg base CX0 (k + 4) f fd ["one", "other", "asked", "here"] spRing := by
  refine F.ok scRing (fun vs H Q E h => ?_) (fun cdv A outer s H vs Q E hr h => ?_)
  · obtain ⟨a, b, p, h, one, other, last, nds, rfl, _⟩ := h
    rfl
  · obtain ⟨a, b, p, hh, one, other, last, nds, rfl, ea, eb, eh, ep, ok, lo, ll, l12, l100, ne, stop, q⟩ := h
    refine ⟨_, pss_cons (ps_set (i := 4) scRing.nd rfl (.inl rfl) (pe_ix ix_list (pe_lc (own := [("number", 7)]) (g := gName 7) (tt := tTest (tOp rNe (tOp (rIxT K) (tVar 3) (tVar 7)) (tOp (rIxT K) (tVar 1) (tVar 7)))) (te := tVar 7) rfl scRing.nd (pi_range1 (by rfl) mr (pa_cons (pe_callB call_len_seq (by rfl) ml PySem.boot_len (pa_cons (pv 3) pa_nil)) pa_nil)) (blkOk_by (N := nRing) (sc := defScope kRing) (by decide +kernel))
        (fun _ _ _ _ _ => pg_name (i := 7) scRing.nd rfl (.inl rfl) (hf := .inr rfl)) (fun _ _ _ _ _ => pts_one (pt_cmpR (r := rNe) op_ne (pe_ix (r := rIxT K) ix_tup (pv 3) (pv 7) (fun _ _ => rfl)) (pe_ix (r := rIxT K) ix_tup (pv 1) (pv 7) (fun _ _ => rfl)) (nomark _))) (fun _ _ _ _ _ => pv 7)) pe_int (fun _ _ => rfl)))
      (pss_cons (ps_set (i := 5) scRing.nd rfl (.inl rfl) (pe_lst pa_nil))
      (pss_cons (ps_set (i := 6) scRing.nd rfl (.inl rfl) (pe_lst pa_nil))
      (pss_cons (ps_while PassesOwn.never (pt_cmpR op_notIn_seq (pv 4) (pv 5) (by rfl))
        (pss_cons (ps_expr (pe_bm PySem.F.plainAttrs_list PySem.F.slot_list_append PySem.F.type_list_append mt_append (pv 5) (pa_cons (pv 4) pa_nil)))
        (pss_cons (ps_expr (pe_bm PySem.F.plainAttrs_list PySem.F.slot_list_append PySem.F.type_list_append mt_append (pv 6) (pa_cons (pe_kn Ho hr (by omega) (pa_cons (pv 0) (pa_cons (pv 1) (pa_cons (pv 2) (pa_cons (pv 3) (pa_cons (pv 4) pa_nil)))))) pa_nil)))
        (pss_one (ps_set (i := 4) scRing.nd rfl (.inl rfl) (pe_ix ix_tup (pe_ix ix_list (pv 6) (pe_un un_neg pe_int) (fun _ _ => rfl)) pe_int (fun _ _ => rfl)))))))
      (pss_one (ps_ret (pe_callTy call_tuple_of (by rfl) mt (by decide +kernel) (pa_cons (pe_slice sl_list (pv 6) (po_some (pe_bm PySem.F.plainAttrs_list PySem.F.slot_list_index PySem.F.type_list_index mt_index (pv 5) (pa_cons (pv 4) pa_nil))) po_none) pa_nil))))))), ?_⟩
    refine ⟨.ref hh, rfl, hh, _, rfl, .inr (.inl (.inl eh)), _, rfl, by rw [List.length_map]; omega, by rw [List.length_map]; omega, fun D nD => lc_it walk_range (fun m H' => Same H H' ∧ H' D = some (.lst (nats ((List.range m).filter fun k => !decide (plc last k = plc other k))))) ⟨same_new nD, upd_same⟩ (fun _ _ _ _ => trivial) (fun m v H1 H2 hm z y => ?_) (fun H1 z => ?_)⟩
    · obtain ⟨s1, eD⟩ := z
      obtain ⟨rfl, rfl⟩ := y
      have hm' : m < last.length := by
        rw [List.length_map] at hm
        omega
      have ft : (List.range (m + 1)).filter (fun k => !decide (plc last k = plc other k)) = (List.range m).filter (fun k => !decide (plc last k = plc other k)) ++ if (!decide (plc last m = plc other m)) = true then [m] else [] := by
        rw [List.range_succ, List.filter_append]
        congr 1
        simp only [List.filter_cons, List.filter_nil]
      have sm : (nats ((List.range m).filter fun k => !decide (plc last k = plc other k))).length < sizeLine := by
        rw [List.length_map]
        refine Nat.lt_of_le_of_lt (List.length_filter_le _ _) ?_
        rw [List.length_range]
        exact small1000 (by omega)
      have ed : (!decide (V.int (plc last m) = V.int (plc other m))) = !decide (plc last m = plc other m) := by
        congr 1
        by_cases c : plc last m = plc other m
        · rw [c]
          simp
        · rw [decide_eq_false c, decide_eq_false]
          intro h
          injection h with h
          exact c h
      have g1 : atI (last.map V.int) (0 + (m : Int)) = some (.int (plc last m)) := by
        rw [Int.zero_add, plc_get hm']
        exact at_int hm'
      have g2 : atI (other.map V.int) (0 + (m : Int)) = some (.int (plc other m)) := by
        rw [Int.zero_add, plc_get (show m < other.length by omega)]
        exact at_int (by omega)
      refine ⟨wipe_one, .ref hh, rfl, _, rfl, hh, _, _, _, rfl, rfl, .inl (.inl (s1 _ _ eh)), g1, .ref b, rfl, _, rfl, b, _, _, _, rfl, rfl, .inl (.inl (s1 _ _ eb)), g2, rfl, _, rfl, ?_⟩
      rw [ed]
      refine ite2 (fun c => ?_) (fun c => ?_)
      · refine ⟨_, rfl, _, eD, sm, same_over s1 nD, ?_⟩
        rw [upd_same, ft, if_pos c]
        show some (HO.lst (_ ++ [V.int (0 + (m : Int))])) = some (HO.lst (List.map _ (_ ++ [m])))
        rw [Int.zero_add, List.map_append]
        rfl
      · refine ⟨s1, ?_⟩
        rw [eD, ft, if_neg c, List.append_nil]
    obtain ⟨s1, eD⟩ := z
    rw [List.length_map, Int.toNat_natCast] at eD
    obtain ⟨t0, r0, eL⟩ : ∃ t0 r0, ((List.range last.length).filter fun k => !decide (plc last k = plc other k)) = t0 :: r0 := by
      obtain ⟨i, hi, hne⟩ := ne_place (by omega) ne
      have hmem : i ∈ (List.range last.length).filter fun k => !decide (plc last k = plc other k) := List.mem_filter.mpr ⟨List.mem_range.mpr hi, by rw [decide_eq_false hne]; rfl⟩
      cases e : ((List.range last.length).filter fun k => !decide (plc last k = plc other k)) with
      | nil =>
        rw [e] at hmem
        exact absurd hmem List.not_mem_nil
      | cons t0 r0 => exact ⟨t0, r0, rfl⟩
    have ht0 : t0 ∈ (List.range last.length).filter fun k => !decide (plc last k = plc other k) := by
      rw [eL]
      exact List.mem_cons_self
    rw [List.mem_filter, List.mem_range] at ht0
    have ht1 : plc last t0 ≠ plc other t0 := by
      have := ht0.2
      rw [Bool.not_eq_true', decide_eq_false_iff_not] at this
      exact this
    rw [eL] at eD
    refine ⟨D, _, 0, V.int (t0 : Int), rfl, rfl, .inl (.inl eD), atI_nat (j := 0) rfl, ?_⟩
    refine ⟨Nat.zero_le _, fun l nl => ⟨Nat.zero_le _, fun l2 nl2 => ?_⟩⟩
    have s2 := (s1.trans (same_new (o := HO.lst []) nl)).trans (same_new (o := HO.lst []) nl2)
    have el : (upd (upd H1 l (.lst [])) l2 (.lst [])) l = some (.lst (nats [])) := same_new nl2 _ _ upd_same
    have el2 : (upd (upd H1 l (.lst [])) l2 (.lst [])) l2 = some (.lst (lrefs [])) := upd_same
    have nlH : H l = none := s1.free nl
    have nl2H : H l2 = none := (s1.trans (same_new (o := HO.lst []) nl)).free nl2
    have l12' : l ≠ l2 := ne_of_none upd_same nl2
    generalize (upd (upd H1 l (.lst [])) l2 (.lst [])) = H2 at s2 el el2 ⊢
    refine ⟨fun m σ H' => ∃ (u7 : Option V) (t : Nat) (ts : List Nat) (L : List (Addr × ND)), σ = [some (.ref a), some (.ref b), some (.ref p), some (.ref hh), some (.int (t : Int)), some (.ref l), some (.ref l2), u7] ∧ m = one.length - ts.length ∧ Same H H' ∧ H' l = some (.lst (nats ts)) ∧ H' l2 = some (.lst (lrefs L)) ∧ NdsL H' L ∧ L.length = ts.length ∧ ts.Nodup ∧ (∀ x ∈ ts, x < one.length) ∧ t < one.length ∧ plc last t ≠ plc other t ∧
        ∀ (k : Nat) (z : ND), (L.map (·.2))[k]? = some z → ts[k]? = some z.i ∧ z ∈ nds ∧ z.s = plc last z.i ∧ met one other z last = false ∧ (ts ++ [t])[k + 1]? = some z.j,
      ⟨_, _, t0, [], [], rfl, rfl, s2, el, el2, (fun z hz => absurd hz List.not_mem_nil), rfl, List.nodup_nil, (fun x hx => absurd hx List.not_mem_nil), (by omega), ht1, fun k z h => by simp at h⟩, fun m σ H3 W => ?_⟩
    obtain ⟨u7, t, ts, L, rfl, em, s3, el3, el23, aL, lL, nd, lt, htl, htn, f⟩ := W
    have lts : ts.length ≤ one.length := by
      have := nat_nodup_len ts (List.range one.length) nd fun x hx => List.mem_range.mpr (lt x hx)
      rwa [List.length_range] at this
    refine ⟨_, rfl, .ref l, rfl, l, _, rfl, .inl (.inl (.inl el3)), rfl, nats_flat _, _, rfl, ?_⟩
    rw [if_pos rfl, in_nats]
    refine ite2 (fun c => ?_) (fun c => ?_)
    · have hnt : t ∉ ts := by
        rw [Bool.not_eq_true', decide_eq_false_iff_not] at c
        exact c
      have nd' : (ts ++ [t]).Nodup := by
        rw [List.nodup_append]
        refine ⟨nd, by simp, fun x hx y hy => ?_⟩
        rw [List.mem_singleton.mp hy]
        exact fun h => hnt (h ▸ hx)
      have lt' : ∀ x ∈ ts ++ [t], x < one.length := fun x hx => by
        rcases List.mem_append.mp hx with h | h
        · exact lt x h
        · rw [List.mem_singleton.mp h]
          exact htl
      have lts' : ts.length + 1 ≤ one.length := by
        have := nat_nodup_len (ts ++ [t]) (List.range one.length) nd' fun x hx => List.mem_range.mpr (lt' x hx)
        rw [List.length_range, List.length_append] at this
        exact this
      refine ⟨_, fun _ _ h => h, ?_⟩
      refine ⟨.ref l, rfl, .inl ⟨rfl, _, .inl (.inl el3)⟩, _, rfl, l, _, _, rfl, rfl, el3, by rw [List.length_map]; exact small1000 (by omega), ?_⟩
      have k4 : Keep H3 (upd H3 l (.lst (nats ts ++ [.int (t : Int)]))) := .upd el3
      have s4 : Same H (upd H3 l (.lst (nats ts ++ [.int (t : Int)]))) := same_over s3 nlH
      have el4 : (upd H3 l (.lst (nats ts ++ [.int (t : Int)]))) l = some (.lst (nats (ts ++ [t]))) := by
        rw [upd_same]
        show _ = some (HO.lst (List.map _ (_ ++ _)))
        rw [List.map_append]
        rfl
      have el24 : (upd H3 l (.lst (nats ts ++ [.int (t : Int)]))) l2 = some (.lst (lrefs L)) := by
        rw [upd_ne l12'.symm]
        exact el23
      have aL4 : NdsL (upd H3 l (.lst (nats ts ++ [.int (t : Int)]))) L := fun z hz => k4.tup (aL z hz)
      generalize (upd H3 l (.lst (nats ts ++ [.int (t : Int)]))) = H4 at s4 el4 el24 aL4 ⊢
      refine ⟨.ref l2, rfl, .inl ⟨rfl, _, .inl (.inl el24)⟩, .ref a, rfl, .ref b, rfl, .ref p, rfl, .ref hh, rfl, _, rfl, a, b, p, hh, one, other, last, nds, t, rfl, s4 _ _ ea, s4 _ _ eb, s4 _ _ eh, ep.keep (.same s4), ok, htl, lo, ll, l100, held_at (stop t htl) htn, fun H5 r n s5 rn hn hni hns hnm => ?_⟩
      have el25 := s5 _ _ el24
      refine ⟨l2, _, _, rfl, rfl, el25, by rw [List.length_map, lL]; exact small1000 (by omega), ?_⟩
      have k6 : Keep H5 (upd H5 l2 (.lst (lrefs L ++ [.ref r]))) := .upd el25
      have rn6 := k6.tup rn
      have rn6' : (upd H5 l2 (.lst (lrefs L ++ [.ref r]))) r = some (.tup [.int (n.i : Int), .int n.s, .int (n.j : Int), .int n.p]) := rn6
      have e6 : (upd H5 l2 (.lst (lrefs L ++ [.ref r]))) l2 = some (.lst (lrefs (L ++ [(r, n)]))) := by
        rw [upd_same, lrefs_snoc]
      have gl : atI (lrefs (L ++ [(r, n)])) (-1) = some (.ref r) := by
        unfold atI ixN
        have hl : (lrefs (L ++ [(r, n)])).length = L.length + 1 := by rw [List.length_map, List.length_append]; rfl
        rw [if_neg (by decide), if_pos (by rw [hl]; omega), hl, show (-1 + ((L.length + 1 : Nat) : Int)).toNat = L.length by omega, lrefs_snoc]
        show (lrefs L ++ [V.ref r])[L.length]? = _
        rw [List.getElem?_append_right (by rw [List.length_map]; exact Nat.le_refl _), List.length_map, Nat.sub_self]
        rfl
      refine ⟨.ref l2, rfl, 1, rfl, l2, _, _, _, rfl, rfl, .inl (.inl e6), gl, r, _, 2, _, rfl, rfl, .inl (.inl rn6'), rfl, ?_⟩
      have on := held_on ok hn hnm
      refine ⟨one.length - (ts ++ [t]).length, by rw [em, List.length_append]; simp only [List.length_cons, List.length_nil]; omega, _, n.j, ts ++ [t], L ++ [(r, n)], rfl, rfl, same_over (s4.trans s5) nl2H, ?_, e6, fun z hz => ?_, by rw [List.length_append, List.length_append, lL]; rfl, nd', lt', on.1, on.2, fun k z hk => ?_⟩
      · rw [upd_ne l12']
        exact s5 _ _ el4
      · rcases List.mem_append.mp hz with h | h
        · exact k6.tup (s5 _ _ (aL4 z h))
        · rw [List.mem_singleton.mp h]
          exact rn6
      · rw [List.map_append] at hk
        rcases Nat.lt_or_ge k L.length with h | h
        · rw [List.getElem?_append_left (by rw [List.length_map]; exact h)] at hk
          obtain ⟨f1, f2, f3, f4, f5⟩ := f k z hk
          refine ⟨by rw [List.getElem?_append_left (by omega)]; exact f1, f2, f3, f4, ?_⟩
          rw [List.getElem?_append_left (by rw [List.length_append]; simp only [List.length_cons, List.length_nil]; omega)]
          exact f5
        · rw [List.getElem?_append_right (by rw [List.length_map]; exact h), List.length_map] at hk
          have hk0 : k - L.length = 0 := by
            rcases Nat.eq_zero_or_pos (k - L.length) with e | e
            · exact e
            · rw [List.getElem?_eq_none (by simp only [List.map_cons, List.map_nil, List.length_cons, List.length_nil]; omega)] at hk
              cases hk
          have ek : k = ts.length := by omega
          rw [hk0] at hk
          have ez : n = z := Option.some.inj hk
          subst ez
          subst ek
          refine ⟨?_, hn, by rw [hni]; exact hns, hnm, ?_⟩
          · rw [List.getElem?_append_right (Nat.le_refl _), Nat.sub_self, hni]
            rfl
          · rw [List.getElem?_append_right (by rw [List.length_append]; exact Nat.le_refl _), List.length_append]
            simp
    · have hin : t ∈ ts := by
        refine Classical.byContradiction fun h => c ?_
        rw [decide_eq_false h]
        rfl
      obtain ⟨idx, hidx, eidx, fidx⟩ : ∃ idx, ts[idx]? = some t ∧ idx < ts.length ∧ ∀ m, m < idx → ts[m]? ≠ some t := by
        exact first_at hin
      have ix1 : (nats ts)[idx]? = some (V.int (t : Int)) := by rw [List.getElem?_map, hidx]; rfl
      refine ⟨.ref l2, rfl, .ref l, rfl, .inl ⟨rfl, _, .inl (.inl el3)⟩, _, rfl, l, _, _, idx, _, rfl, rfl, .inl (.inl el3), rfl, nats_flat _, ix1, (by show ((t : Int) == (t : Int)) = true; simp), (fun m z' hm hz => ?_), idx, rfl, ?_⟩
      · obtain ⟨x, ex, rfl⟩ := mapGet hz
        show ((x : Int) == (t : Int)) = false
        rw [beq_eq_false_iff_ne]
        intro e
        have : x = t := Int.ofNat.inj e
        rw [this] at ex
        exact fidx m hm ex
      show tNoPart _ _ _
      unfold tNoPart
      refine ⟨l2, _, rfl, .inl (.inl el23), fun g ng => ?_⟩
      have ec : cutV (lrefs L) (some (idx : Int)) none = lrefs (L.drop idx) := by
        have e1 : HT.sIx (lrefs L).length 0 (some (idx : Int)) = idx := by
          rw [HT.sIx_nat, List.length_map]
          omega
        unfold cutV
        rw [e1, HT.sIx_none, List.take_of_length_le (by rw [List.length_drop]; exact Nat.le_refl _)]
        exact List.map_drop.symm
      rw [ec]
      have sg := same_new (o := HO.lst (lrefs (L.drop idx))) ng
      refine ⟨g, _, rfl, .inl ⟨.inl (.inl upd_same), fun g2 ng2 => ?_⟩⟩
      have s5 := (s3.trans sg)
      have sg2 := same_new (o := HO.tup (lrefs (L.drop idx))) ng2
      refine q _ g2 (L.drop idx) (s5.trans sg2) (s5.free ng2) upd_same (fun z hz => (Keep.same (sg.trans sg2)).tup (aL z (List.mem_of_mem_drop hz))) ?_ (by rw [List.length_drop]; omega)
      rw [List.map_drop]
      exact ring_of (last := last) (by rw [List.length_map]; exact lL) f hidx
end
end K49

set_option Elab.async false
set_option linter.all false
set_option maxRecDepth 100000
namespace K49
open PySem PySem.Spec PyProof.Rows L2 NB

section
variable {P : Program} {w : World} {K : PySem.W.Frag} {mg : Str → Option Value} {base : Heap}
/-- what way tells -/
def WayTold (one other : List Int) (nds : List ND) (H : Hp) (g R : Addr) : Prop :=
  (∃ rws, H g = some (.tup [.str "way", .ref R]) ∧ RowsAt H R rws ∧ Amid one other nds rws other) ∨
  ∃ L, H g = some (.tup [.str "knot", .ref R]) ∧ H R = some (.tup (lrefs L)) ∧ NdsL H L ∧ RingAt one other nds (L.map (·.2)) ∧ L.length ≤ 12
def spWay (K : PySem.W.Frag) (C : Addr) : Sp := fun vs H Q _ => ∃ (x a b : Addr) (tops one other : List Int) (rs : List Rl), vs = [.ref x, .ref a, .ref b] ∧ PlanAtK K C H x tops rs ∧ H a = some (.tup (one.map V.int)) ∧ H b = some (.tup (other.map V.int)) ∧ tops.length ≤ 12 ∧ Pl tops ∧ rs.length ≤ 40 ∧ (∀ q ∈ rs, RuleOk tops q) ∧ one.length = tops.length ∧ other.length = tops.length ∧
  ∀ nds H' g R, NdsOf one other rs nds → Same H H' → H g = none → WayTold one other nds H' g R → Q (.ref g) H'
set_option maxHeartbeats 2000000 in
theorem ok_way {f fN fR fG C : Addr} {fd fdN fdR fdG : FuncData} {k : Nat} (F : Fun K "way" "way" kWay f fd) (Nd : Kn P w K mg base 4 "needs" ["plan", "one", "other"] (spNeeds K C) fN fdN) (Rw : Kn P w K mg base 4 "rows_towards" ["one", "other", "asked"] spRows fR fdR) (Rg : Kn P w K mg base 4 "ring_at" ["one", "other", "asked", "here"] spRing fG fdG) : FnOk P w K mg base CX0 (k + 5) f fd ["plan", "one", "other"] (spWay K C) := by
  refine F.ok scWay (fun vs H Q E h => ?_) (fun cdv A outer s H vs Q E hr h => ?_)
  · obtain ⟨x, a, b, tops, one, other, rs, rfl, _⟩ := h
    rfl
  · obtain ⟨x, a, b, tops, one, other, rs, rfl, hp, ea, eb, l12, pl, l31, rok, lo, lo', q⟩ := h
    refine ⟨_, pss_cons (ps_set (i := 3) scWay.nd rfl (.inl rfl) (pe_kn Nd hr (by omega) (pa_cons (pv 0) (pa_cons (pv 1) (pa_cons (pv 2) pa_nil)))))
      (pss_cons (ps_asg (pe_kn Rw hr (by omega) (pa_cons (pv 1) (pa_cons (pv 2) (pa_cons (pv 3) pa_nil)))) (pg_tup rfl (pgs_cons (pg_name (i := 4) scWay.nd rfl (.inl rfl)) (pgs_cons (pg_name (i := 5) scWay.nd rfl (.inl rfl)) pgs_nil))))
      (pss_cons (ps_if (pt_cmpR (op_eqD hr.units) (pv 5) (pv 2) (nomark _)) (pss_one (ps_ret (pe_tup (pa_cons pe_str (pa_cons (pv 4) pa_nil))))) pss_nil)
      (pss_one (ps_ret (pe_tup (pa_cons pe_str (pa_cons (pe_kn Rg hr (by omega) (pa_cons (pv 1) (pa_cons (pv 2) (pa_cons (pv 3) (pa_cons (pv 5) pa_nil))))) pa_nil))))))), ?_⟩
    refine ⟨.ref x, rfl, .ref a, rfl, .ref b, rfl, x, a, b, tops, one, other, rs, rfl, hp, ea, eb, l12, pl, l31, rok, lo, lo', fun H1 p ns s1 np hn In => ?_⟩
    obtain ⟨nds, rfl, N⟩ := nds_of lo lo' rok In
    have hA := hn.asked
    have l100 : nds.length ≤ 100 := by
      have := N.is.few
      rw [List.length_map] at this
      omega
    refine ⟨.ref a, rfl, .ref b, rfl, .ref p, rfl, a, b, p, one, other, nds, rfl, s1 _ _ ea, s1 _ _ eb, hA, N.ok, by omega, by omega, l100, fun H2 g R h rws last s2 ng eg hR eh Am st => ?_⟩
    have s02 := s1.trans s2
    refine ⟨g, _, rfl, .inl (.inl eg), rfl, _, _, rfl, _, _, rfl, rfl, ?_⟩
    refine ⟨.ref h, rfl, .ref b, rfl, _, _, dpt eh, dpt (s02 _ _ eb), shaped_ints _, shaped_ints _, _, rfl, ?_⟩
    have e : PyData.eqv (.tuple (last.map PyData.int)) (.tuple (other.map PyData.int)) = decide (last = other) := by
      simp only [PyData.eqv]
      exact eqv_ints last other
    rw [e]
    refine ite2 (fun c => ?_) (fun c => ?_)
    · have c' := of_decide_eq_true c
      subst c'
      refine ⟨_, rfl, (show 2 ≤ sizeLine by decide), fun g2 ng2 => ?_⟩
      have sg := same_new (o := HO.tup [V.str "way", V.ref R]) ng2
      exact q nds _ g2 R N (s02.trans sg) (s02.free ng2) (.inl ⟨rws, upd_same, hR.keep (.same sg), Am⟩)
    · have c' : last ≠ other := fun z => c (decide_eq_true z)
      refine ⟨.ref a, rfl, .ref b, rfl, .ref p, rfl, .ref h, rfl, a, b, p, h, one, other, last, nds, rfl, s02 _ _ ea, s02 _ _ eb, eh, hA.keep (.same s2), N.ok, by omega, Am.wi.1, by omega, l100, c', st, fun H3 g3 L s3 ng3 eg3 aL rg lL => ?_⟩
      have s03 := s02.trans s3
      refine ⟨(show 2 ≤ sizeLine by decide), fun g2 ng2 => ?_⟩
      have sg := same_new (o := HO.tup [V.str "knot", V.ref g3]) ng2
      exact q nds _ g2 g3 N (s03.trans sg) (s03.free ng2) (.inr ⟨L, upd_same, sg _ _ eg3, fun z hz => (Keep.same sg).tup (aL z hz), rg, lL⟩)
end
/-! ### there and back -/
section
variable {one other : List Int}
theorem gone_back {i : Nat} (p : Int) (h : 0 < tot one other i) : gone other one i p = tot one other i - gone one other i p := by
  rw [tot_eq] at h
  unfold tot gone
  split <;> split <;> omega
theorem in_len {st : List Int} {s : Sd} (h : inB st s = true) : s.1 < st.length := by
  unfold inB at h
  rcases Nat.lt_or_ge s.1 st.length with c | c
  · exact c
  · rw [List.getElem?_eq_none c] at h
    cases h
theorem need_back {l e : Sd} (h : needOf one other l e = some [(l.1 : Int), l.2.2, (e.1 : Int), e.2.2]) : needOf other one e l = some [(e.1 : Int), e.2.2, (l.1 : Int), l.2.2] := by
  obtain ⟨_, h1, h2, h3⟩ := needOf_shape h
  unfold needOf
  rw [h1, h2, Bool.and_self, if_pos rfl, if_neg]
  rintro ⟨e1, e2⟩
  refine h3 ⟨e1.symm, ?_⟩
  have a1 : l.1 < one.length := by
    unfold isLeft at h1
    exact in_len (Bool.and_eq_true _ _ ▸ h1).1
  have a2 : l.1 < other.length := by
    unfold isLeft at h2
    rw [← e1]
    exact in_len (Bool.and_eq_true _ _ ▸ h2).1
  have lg := left_gone a1 a2 h1
  have tp : 0 < tot one other l.1 := by omega
  rw [gone_back _ tp, e1, gone_back _ tp] at e2
  rw [e1]
  omega
theorem NdsOf.back {rs : List Rl} {nds mds : List ND} (N : NdsOf one other rs nds) (M : NdsOf other one rs mds) {n : ND} (hn : n ∈ nds) : (⟨n.j, n.p, n.i, n.s⟩ : ND) ∈ mds := by
  obtain ⟨q, hq, h⟩ := cands_mem.mp ((N.is.mem n.toL).mp (List.mem_map.mpr ⟨n, hn, rfl⟩))
  have main : ∀ {l e : Sd}, ((q.1 = l ∧ q.2 = e) ∨ (q.2 = l ∧ q.1 = e)) → needOf one other l e = some n.toL → (⟨n.j, n.p, n.i, n.s⟩ : ND) ∈ mds := fun {l e} hs h => by
    have sh := (needOf_shape h).1
    have en : n = ⟨l.1, l.2.2, e.1, e.2.2⟩ := toL_inj sh
    subst en
    exact M.mem (need_back h) hq (by
      rcases hs with ⟨a, b⟩ | ⟨a, b⟩
      · exact .inr ⟨b, a⟩
      · exact .inl ⟨b, a⟩)
  rcases h with h | h
  · exact main (.inl ⟨rfl, rfl⟩) h
  · exact main (.inr ⟨rfl, rfl⟩) h
/-- a ring as it is looked at by who stays -/
theorem back_bars {rs : List Rl} {nds mds : List ND} (N : NdsOf one other rs nds) (M : NdsOf other one rs mds) {r : List ND} (R : RingAt one other nds r) {rows : List (Nat × Int)} {last : List Int} (hg : Goes other one mds other rows last) : last ≠ one := fun el => by
  have mem : ∀ n ∈ r, n ∈ nds ∧ ∃ m ∈ r, n.j = m.i ∧ gn one other m.i m.s < gn one other n.j n.p := fun n hn => by
    obtain ⟨k, hk, e⟩ := List.getElem_of_mem hn
    have hk' : k < (r.drop 1 ++ r.take 1).length := by
      rw [List.length_append, List.length_drop, List.length_take]
      omega
    have h := R.2 k n _ (by rw [List.getElem?_eq_getElem hk, e]) (List.getElem?_eq_getElem hk')
    refine ⟨h.1, _, ?_, h.2.1, h.2.2⟩
    rcases List.mem_append.mp (List.getElem_mem hk') with z | z
    · exact List.mem_of_mem_drop z
    · exact List.mem_of_mem_take z
  -- of each m of the ring there is an n ahead of it
  have ahead : ∀ m ∈ r, ∃ n ∈ r, n ∈ nds ∧ n.j = m.i ∧ gn one other m.i m.s < gn one other n.j n.p := fun m hm => by
    have hm' : m ∈ r.drop 1 ++ r.take 1 := by
      have e : r.take 1 ++ r.drop 1 = r := List.take_append_drop 1 r
      rw [← e] at hm
      rcases List.mem_append.mp hm with z | z
      · exact List.mem_append.mpr (.inr z)
      · exact List.mem_append.mpr (.inl z)
    obtain ⟨k, hk, e⟩ := List.getElem_of_mem hm'
    have hk' : k < r.length := by
      rw [List.length_append, List.length_drop, List.length_take] at hk
      omega
    have h := R.2 k _ m (List.getElem?_eq_getElem hk') (by rw [List.getElem?_eq_getElem hk, e])
    exact ⟨_, List.getElem_mem hk', h.1, h.2.1, h.2.2⟩
  have stay : ∀ n ∈ r, gn other one n.j (plc last n.j) ≤ gn other one n.j n.p := by
    clear el
    induction hg with
    | nil =>
      intro n hn
      have e : gn other one n.j (plc other n.j) = 0 := gone_one n.j
      rw [e]
      exact (M.ok _ (N.back M (mem n hn).1)).s0
    | snoc g sf wi li ne h0 h1 ih =>
      rename_i m rows i e
      intro n hn
      have hl : i < m.length := by rw [wi.1]; exact li
      by_cases c : i = n.j
      · subst c
        rw [plc_set_self hl]
        refine Int.le_trans h1 ((endF_spec mds m _).2.2 ⟨n.j, n.p, n.i, n.s⟩ (N.back M (mem n hn).1) rfl ?_)
        obtain ⟨n', hn', hnd', ej, lt⟩ := ahead n hn
        have st := ih n' hn'
        unfold met
        rw [decide_eq_false_iff_not]
        show ¬ gone other one n.i n.s ≤ gone other one n.i (plc m n.i)
        rw [ej] at st lt
        have okn := N.ok n (mem n hn).1
        have tp : 0 < tot one other n.i := by
          have := okn.s0
          have := okn.s1
          omega
        have b1 := gone_back (one := one) (other := other) n.s tp
        have b2 := gone_back (one := one) (other := other) n'.p tp
        unfold gn at st lt
        omega
      · rw [plc_set_ne c]
        exact ih n hn
  obtain ⟨n, hn⟩ := List.exists_mem_of_ne_nil r R.1
  have h := stay n hn
  have lt : gn other one n.j n.p < gn other one n.j (plc one n.j) := (M.ok _ (N.back M (mem n hn).1)).s1
  rw [el] at h
  omega
end
end K49

set_option Elab.async false
set_option linter.all false
set_option maxRecDepth 100000
set_option maxHeartbeats 1000000
/-! What a plain search wants: sorted of any number of tuples, dicts whose keys are tuples. -/
namespace SrtO
open PySem PyProof.Rows Srt
section
variable {prog : Program} {w : World} {A : Around} {E : Value → Shared → Prop} {s : Shared}
def rkT (h : Heap) (B : Int) (v : Value) : Int := TS.code B (TS.intsOf h v)
theorem swo_rk (r : Value → Int) : Swo fun v u => decide (r v < r u) := by
  refine ⟨fun x y h => ?_, fun x y z h1 h2 => ?_⟩
  · have a := of_decide_eq_true h
    exact decide_eq_false (by omega)
  · have a := of_decide_eq_false h1
    have b := of_decide_eq_false h2
    exact decide_eq_false (by omega)
theorem tups_cmp {d : Nat} {B : Int} {vs : List Value} {r : Value → Int} (x : TS.TupsOk s.heap d B vs) (hr : ∀ v, v ∈ vs → ∀ ns, TS.TupInts s.heap v ns → r v = TS.code B ns) : Cmp prog w A s (tuples' true) (fun p => p.1 ∈ vs) (lt2 fun v u => decide (r v < r u)) := by
  intro p q hp hq
  obtain ⟨ns, tp, lp, bp⟩ := x _ hp
  obtain ⟨ms, tq, lq, bq⟩ := x _ hq
  have ep := hr _ hp _ tp
  have eq2 := hr _ hq _ tq
  show wpAny (model prog w) A (keyLt' (tuples' true) p.1 q.1) (fun b s' => s' = s ∧ b = decide (r p.1 < r q.1)) (fun _ _ => False) s
  rw [ep, eq2]
  obtain ⟨a, xs, e1, ⟨o, ho, hc, n, hdt⟩, i⟩ := tp
  obtain ⟨a', ys, e2, ⟨o', ho', hc', n', hdt'⟩, i'⟩ := tq
  rw [e1, e2]
  refine PySem.W.kat_lt ho hdt ho' hdt' ?_
  have sz : decide (xs.size < ys.size) = false := by
    have l1 := i.length
    have l2 := i'.length
    rw [Array.length_toList] at l1 l2
    exact decide_eq_false (by omega)
  rw [sz]
  exact TS.lex_ints 0 i i' (by omega) bp bq ⟨rfl, rfl⟩
theorem tups_sortableO {a : Addr} {vs : List Value} {d : Nat} {B : Int} {r : Value → Int} (hd1 : 1 ≤ d) (h2 : 2 ≤ vs.length) (x : TS.TupsOk s.heap d B vs) (hr : ∀ v, v ∈ vs → ∀ ns, TS.TupInts s.heap v ns → r v = TS.code B ns) (ha : ∀ o, s.heap.get? a = some o → o.cls ≠ .type "tuple") :
    SortableO prog w A s a vs fun v u => decide (r v < r u) := by
  intro h' keep
  have kp : ∀ b o, s.heap.get? b = some o → o.cls = .type "tuple" → h'.get? b = some o := fun b o e c => keep b o (fun z => by subst z; exact ha o e c) e
  have x' : TS.TupsOk h' d B vs := x.keeps kp
  obtain ⟨fs, h1, hl, h3⟩ := TS.firsts_of hd1 vs x'
  refine ⟨tuples' true, fun Q E hq => ?_, tups_cmp (s := { s with heap := h' }) x' fun v hv ns t => ?_⟩
  · refine PySem.W.kat_kind (T := .type "int") h1 (by omega) (fun f hm => ?_) (by rfl) ?_
    · obtain ⟨n, t, rfl⟩ := h3 f hm
      exact PySem.W.Looks.of_pure rfl
    · have e : (Value.type "int" != Value.type "tuple") = true := by first | decide +kernel | rfl | decide
      rw [e]
      exact hq
  · obtain ⟨ns0, t0, _⟩ := x v hv
    have e : ns = ns0 := t.ints.symm.trans (t0.keeps kp).ints
    rw [e]
    exact hr v hv ns0 t0
end
end SrtO

namespace NB
open PySem PySem.Spec PyProof.Rows L2
/-- sorted(xs), xs a list of tuples of d whole numbers each: a new list of the same ones -/
def rSortTT (K : PySem.W.Frag) (d : Nat) (B : Int) : List V → Hp → VK → Prop := fun vs H Q => ∃ (a : Addr) (L : List (Addr × List Int)), vs = [V.ref a] ∧ SqL K H a (L.map fun z => V.ref z.1) ∧ (∀ z ∈ L, H z.1 = some (.tup (z.2.map V.int)) ∧ z.2.length = d ∧ TS.Bd B z.2) ∧
  ∀ (ys : List V) (p : Addr), ys.Perm (L.map fun z => V.ref z.1) → H p = none → Q (.ref p) (upd H p (.lst ys))
section
variable {X : Cx}
theorem cr_sortTT {d : Nat} {B : Int} (hd1 : 1 ≤ d) : CallR X (.builtin "sorted") (rSortTT X.K d B) := by
  intro pins s σ H vs us Q I r h
  obtain ⟨a, L, rfl, hs, hx, q⟩ := h
  obtain ⟨its, rv, hl, hz⟩ := I.list hs
  obtain ⟨u, rfl, ru⟩ := vals1 r
  obtain rfl : u = Value.ref a := ru
  obtain ⟨e1, e2⟩ := refs_back rv fun x m => by
    obtain ⟨z, _, e⟩ := List.mem_map.mp m
    exact ⟨z.1, e.symm⟩
  have ok : TS.TupsOk s.heap d B its := fun v hv => by
    obtain ⟨t, rfl⟩ := e2 v hv
    have hm : V.ref t ∈ L.map fun z => V.ref z.1 := by rw [e1]; exact List.mem_map.mpr ⟨_, hv, rfl⟩
    obtain ⟨z, hz, e⟩ := List.mem_map.mp hm
    obtain ⟨ht, hn, hb⟩ := hx z hz
    have e' : z.1 = t := V.ref.inj e
    subst e'
    obtain ⟨its2, r2, p2, _⟩ := I.tuple (.inl (.inl ht))
    exact ⟨z.2, ⟨z.1, _, rfl, p2, by simpa using r2.ints⟩, hn, hb⟩
  refine SrtO.sorted_ord (SrtO.swo_rk fun v => TS.code B (TS.intsOf s.heap v)) hl.isList (by rw [← rv.length]; exact hz) (fun h2 h₁ a' ha' kk => ?_) fun out h1 h2 => ?_
  · have kp : ∀ b o, s.heap.get? b = some o → o.cls = .type "tuple" → h₁.get? b = some o := fun b o e _ => (kk b o e).2
    refine SrtO.tups_sortableO (s := { s with heap := h₁ }) hd1 h2 (ok.keeps kp) (fun v hv ns t => ?_) fun o e => ?_
    · obtain ⟨ns0, t0, _⟩ := ok v hv
      have e : ns = ns0 := t.ints.symm.trans (t0.keeps kp).ints
      rw [e, t0.ints]
    · have e' : some o = some (seqObj "list" its.toArray 0) := e.symm.trans ha'
      cases e'
      intro c
      exact absurd (Value.type.inj c) (by decide)
  · have h3 : ∀ u ∈ out, ∃ a, u = Value.ref a := fun u hu => e2 u (h2.perm.mem_iff.mp hu)
    obtain ⟨ep, he'⟩ := PyProof.Rows.sortedAll_at s.heap its out.toArray
    have hp : (out.map backV).Perm (L.map fun z => V.ref z.1) := by
      rw [e1]
      exact h2.perm.map backV
    refine ⟨.ref _, upd H (s.heap.objs.size + 1) (.lst (out.map backV)), I.laid (t' := s.toks) (fun _ _ => PyProof.Rows.sortedAll_old) (Nat.le_succ _) ⟨?_, out, ep, vals_back h3, he'⟩, rfl, q _ _ hp (I.hok.fresh (Nat.le_succ _))⟩
    rw [hp.length_eq]
    exact hz
/-- a dict made of pairs, each key a tuple -/
def putAll (ms : List (List Key × V)) : List (List Key × V) := ms.foldl (fun acc kv => putK acc kv.1 kv.2) []
theorem KT.putAll {H : Hp} {ms : List (List Key × V)} {ps : List (List Key × Addr × Value)} (r : Paired (fun m p => m.1 = p.1 ∧ H p.2.1 = some (.tup (p.1.map kV)) ∧ L2.RelV m.2 p.2.2) ms ps) : ∀ {acc : List (List Key × V)} {xs : List (List Key × Addr × Value)}, KT H acc xs →
    KT H (ms.foldl (fun acc kv => putK acc kv.1 kv.2) acc) (storedAllH xs ps) := by
  induction r with
  | nil => exact fun h => h
  | @cons m p ms ps h t ih =>
    intro acc xs hk
    have e : KT H (putK acc m.1 m.2) (storedH xs p.1 p.2.1 p.2.2) := by
      rw [h.1]
      exact hk.put p.1 h.2.1 h.2.2
    exact ih e
theorem putAll_len : ∀ (ms acc : List (List Key × V)), (ms.foldl (fun acc kv => putK acc kv.1 kv.2) acc).length ≤ acc.length + ms.length
  | [], acc => by simp
  | m :: ms, acc => by
    have h1 := putAll_len ms (putK acc m.1 m.2)
    have h2 := length_putK acc m.1 m.2
    rw [List.foldl_cons, List.length_cons]
    omega
/-- dict(xs), xs a list of pairs (tuple, value) -/
theorem call_dictT (hcalm : X.calm = true) (hu : X.A.units + 8 < cLine) : CallR X (.type "dict") (fun xs H Q => ∃ (a : Addr) (L : List (Addr × Addr × List Key × V)), xs = [.ref a] ∧ H a = some (.lst (L.map fun z => V.ref z.1)) ∧ (∀ z ∈ L, H z.1 = some (.tup [.ref z.2.1, z.2.2.2]) ∧ H z.2.1 = some (.tup (z.2.2.1.map kV))) ∧
    ∀ p, H p = none → Q (.ref p) (upd H p (.dT (putAll (L.map fun z => (z.2.2.1, z.2.2.2)))))) := by
  intro pins s σ H xs us Q I r q
  obtain ⟨a, L, ex, hq, hp, q⟩ := q
  subst ex
  obtain ⟨u, eu, rx⟩ := vals1 r
  subst eu
  cases rx
  obtain ⟨its, rv, pl, hz⟩ := I.list (.inl (.inl hq))
  have ei : its = L.map fun z => Value.ref z.1 := by
    have e : (L.map fun z => V.ref z.1) = (L.map (·.1)).map V.ref := by rw [List.map_map]; rfl
    rw [e] at rv
    rw [refs_at rv, List.map_map]
    rfl
  subst ei
  rw [List.length_map] at hz
  -- the pairs as they stand in the machine
  have mk : ∀ (M : List (Addr × Addr × List Key × V)), (∀ z ∈ M, z ∈ L) → ∃ ps : List (List Key × Addr × Value), Paired (fun m p => m.1 = p.1 ∧ H p.2.1 = some (.tup (p.1.map kV)) ∧ RelV m.2 p.2.2) (M.map fun z => (z.2.2.1, z.2.2.2)) ps ∧ ps.length = M.length ∧
      ∀ (j : Nat) (p : List Key × Addr × Value), ps[j]? = some p → ∃ z, M[j]? = some z ∧ p.1 = z.2.2.1 ∧ p.2.1 = z.2.1 ∧ IsTup s.heap z.1 #[.ref p.2.1, p.2.2] := by
    intro M
    induction M with
    | nil => exact fun _ => ⟨[], .nil, rfl, fun j p e => by simp at e⟩
    | cons z M ih =>
      intro hM
      obtain ⟨ps, h1, h2, h3⟩ := ih fun y hy => hM y (List.mem_cons_of_mem _ hy)
      obtain ⟨hz1, hz2⟩ := hp z (hM z List.mem_cons_self)
      obtain ⟨its2, r2, p2, _⟩ := I.tuple (.inl (.inl hz1))
      obtain ⟨u1, u2, rfl, ra, rb⟩ := vals2 r2
      obtain rfl : u1 = Value.ref z.2.1 := ra
      refine ⟨(z.2.2.1, z.2.1, u2) :: ps, .cons ⟨rfl, hz2, rb⟩ h1, by rw [List.length_cons, List.length_cons, h2], fun j p e => ?_⟩
      cases j with
      | zero =>
        have e' : (z.2.2.1, z.2.1, u2) = p := Option.some.inj e
        subst e'
        exact ⟨z, rfl, rfl, rfl, p2⟩
      | succ j => exact h3 j p (by simpa using e)
  obtain ⟨ps, rel, hl, hps⟩ := mk L fun z hz => hz
  obtain ⟨o, n, ho, hc, hd, hdat⟩ := pl
  have items : PairItems s.heap (L.map fun z => Value.ref z.1).toArray (fun j => (L.getD j (0, 0, [], .non)).1) (ps.map fun p => (Value.ref p.2.1, p.2.2)) := by
    refine ⟨by simp [hl], fun j k v e => ?_⟩
    rw [List.getElem?_map] at e
    cases ej : ps[j]? with
    | none => rw [ej] at e; cases e
    | some p =>
      rw [ej] at e
      have e' : (Value.ref p.2.1, p.2.2) = (k, v) := Option.some.inj e
      cases e'
      obtain ⟨z, hz1, _, _, hz4⟩ := hps j p ej
      have eg : L.getD j (0, 0, [], .non) = z := by rw [List.getD_eq_getElem?_getD, hz1]; rfl
      refine ⟨by simp [hz1, eg], .inl ?_⟩
      show s.heap.IsTuple (L.getD j (0, 0, [], .non)).1 _
      rw [eg]
      exact hz4
  have hst : KeysStay (tupleKind (mixKind X.prog X.w)) s.heap s.heap.objs.size [] ps := fun h' hk x hx => by
    obtain ⟨j, hj, e⟩ := List.getElem_of_mem hx
    obtain ⟨z, hz1, e1, e2, _⟩ := hps j x (by rw [List.getElem?_eq_getElem hj, e])
    have hz2 := (hp z (List.mem_of_getElem? hz1)).2
    rw [e1, e2]
    obtain ⟨_, its3, r3, o3, q1, q2, n3, q3⟩ := (show ObjOk X.prog X.w H s.heap z.2.1 (.tup (z.2.2.1.map kV)) from I.hok _ _ hz2)
    exact ⟨o3, its3.toArray, n3, hk _ _ (Nat.ne_of_lt (Heap.lt_size q1)) (by simp) q1, q2, q3, by simpa using items_are r3⟩
  refine PySem.call_dict_pairsH (knd := tupleKind (mixKind X.prog X.w)) (ps := ps) (PairArg.list a _ _ (ps.map fun p => (Value.ref p.2.1, p.2.2))) (I.ok.hd hcalm) (tupleKind_room_in1 (A := X.A.in1) (by show X.A.units + 1 + 1 < cLine; omega)) ⟨⟨o, n, ho, hc, hd, hdat⟩, items⟩ ⟨by rw [List.length_map], fun i key v e => ?_⟩ hst (by rw [List.length_map, hl]; exact hz) fun h' tk hd' k => ?_
  · have e' : (ps.map fun p => (Value.ref p.2.1, p.2.2))[i]? = some (key, v) := e
    rw [List.getElem?_map] at e'
    cases ej : ps[i]? with
    | none => rw [ej] at e'; cases e'
    | some p =>
      rw [ej] at e'
      have e2 : (Value.ref p.2.1, p.2.2) = (key, v) := Option.some.inj e'
      cases e2
      exact ⟨p.1, p.2.1, rfl, rfl⟩
  · have hm : (s.heap.objs.size == sysModules) = false := beq_eq_false_iff_ne.mpr (Nat.ne_of_gt I.big)
    have hlen : (putAll (L.map fun z => (z.2.2.1, z.2.2.2))).length ≤ sizeLine := by
      have := putAll_len (L.map fun z => (z.2.2.1, z.2.2.2)) []
      rw [List.length_nil, List.length_map] at this
      unfold putAll
      omega
    have nw := I.hok.fresh (Nat.le_refl s.heap.objs.size)
    have kt : KT (upd H s.heap.objs.size (.dT (putAll (L.map fun z => (z.2.2.1, z.2.2.2))))) (putAll (L.map fun z => (z.2.2.1, z.2.2.2))) (storedAllH [] ps) := (KT.putAll (acc := []) (xs := []) rel .nil).keeps fun b ys e => by
      rw [upd_ne (ne_of_none e nw)]
      exact e
    obtain ⟨q', es, ep, g1, g2, g3, g4, _, g5⟩ := hd'
    exact ⟨.ref s.heap.objs.size, upd H s.heap.objs.size (.dT (putAll (L.map fun z => (z.2.2.1, z.2.2.2)))), I.laid (t' := tk) (fun b o e => k b o (by simp) e) (Nat.le_refl _) (show ObjOk X.prog X.w _ _ _ (.dT (putAll (L.map fun z => (z.2.2.1, z.2.2.2)))) from ⟨hlen, hm, _, kt, q', es, ep, g1, g2, g3, g4, g5⟩), rfl, q _ nw⟩
/-- {t: v}, t a tuple -/
def tDispT (tk tv : TE) : TE := fun σ H Q => ∀ p, H p = none → tk σ (upd H p (.dT [])) fun x H1 => tv σ H1 fun y H2 => ∃ (b : Addr) (k : List Key), x = .ref b ∧ H2 b = some (.tup (k.map kV)) ∧ H2 p = some (.dT []) ∧ Q (.ref p) (upd H2 p (.dT [(k, y)]))
theorem pe_dispT {pos : Pos} {ke ve : Expr} {tk tv : TE} (hk : PE X ke tk) (hv : PE X ve tv) (hu : X.A.units + 8 < cLine) : PE X (.Dict [some ke] [ve] pos) (tDispT tk tv) := by
  refine ⟨fun pins s σ H Q I q => ?_⟩
  have hn := I.hok.fresh (Nat.le_refl s.heap.objs.size)
  have hsys : (s.heap.objs.size == sysModules) = false := beq_eq_false_iff_ne.mpr (Nat.ne_of_gt I.big)
  have I1 := I.laid (a := s.heap.objs.size) (o := .dT []) (h' := s.heap.push { cls := .type "dict", data := .dict #[] }) (t' := s.toks) (fun _ _ q => Heap.get?_push_of_some _ q) (Nat.le_refl _)
    (show ObjOk X.prog X.w _ _ _ (.dT []) from ⟨Nat.zero_le _, hsys, [], .nil, by
      obtain ⟨o, es, ep, g1, g2, g3, g4, _, g5⟩ := (Heap.DictOfH.new (knd := tupleKind (mixKind X.prog X.w)) s.heap)
      exact ⟨o, es, ep, g1, g2, g3, g4, g5⟩⟩)
  refine wpAny_Dict_any (by rfl) (by rfl) (by intro z; cases z) (show 1 ≤ 15 by decide) ?_
  refine pairTrees_cons_walk (thn (hk.run pins _ σ _ _ I1 (q _ hn)) fun u s1 ⟨x, H1, J1, rx, q1⟩ => thn (hv.run pins s1 σ H1 _ J1 q1) fun w2 s2 ⟨y, H2, J2, ry, q2⟩ => pairTrees_nil_walk ?_)
  obtain ⟨b, k, rfl, eb, ep, q3⟩ := q2
  cases rx
  obtain ⟨z, hd, xs, rel, dd⟩ := dt_of J2.hok ep
  cases rel
  refine wpAny_bind (wpAny_bind (wpAny_dictSet_heap (knd := tupleKind (mixKind X.prog X.w)) (hsz := Nat.zero_le _) (show X.A.units < cLine by omega) (key_of J2.hok eb) dd fun h' dd' hs => wpAny_pure ?_))
  refine wpAny_pure ?_
  obtain ⟨q', es, ep', g1, g2, g3, g4, _, g5⟩ := dd'
  refine ⟨.ref s.heap.objs.size, _, d_write (t' := _) J2 (by rw [ep]; exact True.intro) hs ⟨q', g1⟩ (ob := .dT [(k, y)]) ⟨(show 1 ≤ sizeLine by decide), hd, _, .cons ⟨rfl, ?_, ry⟩ .nil, q', es, ep', g1, g2, g3, g4, g5⟩, rfl, q3⟩
  rw [upd_ne (ne_of eb ep (fun z => nomatch z))]
  exact eb
end
end NB

set_option Elab.async false
set_option linter.all false
set_option maxRecDepth 100000
set_option maxHeartbeats 1000000
/-! sorted of a list of tuples, with its order. -/
namespace NB
open PySem PySem.Spec PyProof.Rows L2
def rSortTO (K : PySem.W.Frag) (d : Nat) (B : Int) : List V → Hp → VK → Prop := fun vs H Q => ∃ (a : Addr) (L : List (Addr × List Int)), vs = [V.ref a] ∧ SqL K H a (L.map fun z => V.ref z.1) ∧ (∀ z ∈ L, H z.1 = some (.tup (z.2.map V.int)) ∧ z.2.length = d ∧ TS.Bd B z.2) ∧
  ∀ (ys : List V) (p : Addr), ys.Perm (L.map fun z => V.ref z.1) → (ys.Pairwise fun u v => ∀ z ∈ L, ∀ z' ∈ L, u = V.ref z.1 → v = V.ref z'.1 → TS.code B z.2 ≤ TS.code B z'.2) → H p = none → Q (.ref p) (upd H p (.lst ys))
section
variable {X : Cx}
theorem cr_sortTO {d : Nat} {B : Int} (hd1 : 1 ≤ d) : CallR X (.builtin "sorted") (rSortTO X.K d B) := by
  intro pins s σ H vs us Q I r h
  obtain ⟨a, L, rfl, hs, hx, q⟩ := h
  obtain ⟨its, rv, hl, hz⟩ := I.list hs
  obtain ⟨u, rfl, ru⟩ := vals1 r
  obtain rfl : u = Value.ref a := ru
  obtain ⟨e1, e2⟩ := refs_back rv fun x m => by
    obtain ⟨z, _, e⟩ := List.mem_map.mp m
    exact ⟨z.1, e.symm⟩
  have ok : TS.TupsOk s.heap d B its := fun v hv => by
    obtain ⟨t, rfl⟩ := e2 v hv
    have hm : V.ref t ∈ L.map fun z => V.ref z.1 := by rw [e1]; exact List.mem_map.mpr ⟨_, hv, rfl⟩
    obtain ⟨z, hz, e⟩ := List.mem_map.mp hm
    obtain ⟨ht, hn, hb⟩ := hx z hz
    have e' : z.1 = t := V.ref.inj e
    subst e'
    obtain ⟨its2, r2, p2, _⟩ := I.tuple (.inl (.inl ht))
    exact ⟨z.2, ⟨z.1, _, rfl, p2, by simpa using r2.ints⟩, hn, hb⟩
  refine SrtO.sorted_ord (SrtO.swo_rk fun v => TS.code B (TS.intsOf s.heap v)) hl.isList (by rw [← rv.length]; exact hz) (fun h2 h₁ a' ha' kk => ?_) fun out h1 h2 => ?_
  · have kp : ∀ b o, s.heap.get? b = some o → o.cls = .type "tuple" → h₁.get? b = some o := fun b o e _ => (kk b o e).2
    refine SrtO.tups_sortableO (s := { s with heap := h₁ }) hd1 h2 (ok.keeps kp) (fun v hv ns t => ?_) fun o e => ?_
    · obtain ⟨ns0, t0, _⟩ := ok v hv
      have e : ns = ns0 := t.ints.symm.trans (t0.keeps kp).ints
      rw [e, t0.ints]
    · have e' : some o = some (seqObj "list" its.toArray 0) := e.symm.trans ha'
      cases e'
      intro c
      exact absurd (Value.type.inj c) (by decide)
  · have h3 : ∀ u ∈ out, ∃ a, u = Value.ref a := fun u hu => e2 u (h2.perm.mem_iff.mp hu)
    obtain ⟨ep, he'⟩ := PyProof.Rows.sortedAll_at s.heap its out.toArray
    have hp : (out.map backV).Perm (L.map fun z => V.ref z.1) := by
      rw [e1]
      exact h2.perm.map backV
    have ho : (out.map backV).Pairwise fun u v => ∀ z ∈ L, ∀ z' ∈ L, u = V.ref z.1 → v = V.ref z'.1 → TS.code B z.2 ≤ TS.code B z'.2 := by
      rw [List.pairwise_map]
      refine h1.imp_of_mem fun {u v} hu hv lt z hz z' hz' eu ev => ?_
      have code : ∀ {u : Value} {z : Addr × List Int}, u ∈ out → z ∈ L → backV u = V.ref z.1 → TS.intsOf s.heap u = z.2 := fun {u z} hu hz e => by
        obtain ⟨b, rfl⟩ := h3 u hu
        have eb : b = z.1 := V.ref.inj e
        subst eb
        obtain ⟨its2, r2, p2, _⟩ := I.tuple (.inl (.inl (hx z hz).1))
        have t : TS.TupInts s.heap (.ref z.1) z.2 := ⟨z.1, _, rfl, p2, by simpa using r2.ints⟩
        exact t.ints
      have l := of_decide_eq_false lt
      rw [code hu hz eu, code hv hz' ev] at l
      omega
    refine ⟨.ref _, upd H (s.heap.objs.size + 1) (.lst (out.map backV)), I.laid (t' := s.toks) (fun _ _ => PyProof.Rows.sortedAll_old) (Nat.le_succ _) ⟨?_, out, ep, vals_back h3, he'⟩, rfl, q _ _ hp ho (I.hok.fresh (Nat.le_succ _))⟩
    rw [hp.length_eq]
    exact hz
end
end NB

set_option Elab.async false
set_option linter.all false
set_option maxRecDepth 100000
set_option maxHeartbeats 1000000
/-! max(list of ints, default=a number) -/
namespace NB
open PySem PySem.Spec PyProof.Rows L2
/-- the greatest, or what else is told -/
def mxOr (d : Int) : List Int → Int
  | [] => d
  | n :: ns => ns.foldl max n
def rMaxDf (K : PySem.W.Frag) : List V → List V → Hp → VK → Prop := fun vs zs H Q => ∃ (a : Addr) (ns : List Int) (d : Int), vs = [V.ref a] ∧ zs = [.int d] ∧ SqL K H a (ns.map V.int) ∧ Q (.int (mxOr d ns)) H
theorem depth_ints : ∀ ns : List Int, PyData.depthAll (ns.map PyData.int) ≤ 1
  | [] => by simp [PyData.depthAll]
  | n :: ns => by
    have := depth_ints ns
    simp [PyData.depthAll, PyData.depth] at this ⊢
    try omega
section
variable {X : Cx}
theorem cr_maxDf (hc : X.calm = true) (hu : X.A.units + 64 < cLine) : CallRK X (.builtin "max") [Str.ofString "default"] (rMaxDf X.K) := by
  intro pins s σ H vs zs us ws Q I r rz h
  obtain ⟨a, ns, d, rfl, rfl, hs, q⟩ := h
  obtain ⟨its, rv, hl, _⟩ := I.list hs
  obtain rfl := Vals.ref1 r
  obtain ⟨w1, rfl, e1⟩ := vals1 rz
  obtain ⟨t, rfl⟩ := (show ∃ t, w1 = Value.int d t from e1)
  have al : PySem.W.AlikeAll (ns.map PyData.int) := by
    constructor
    · intro x hx y hy
      obtain ⟨i, _, rfl⟩ := List.mem_map.mp hx
      obtain ⟨j, _, rfl⟩ := List.mem_map.mp hy
      rfl
    · intro x hx
      obtain ⟨i, _, rfl⟩ := List.mem_map.mp hx
      exact fun z => nomatch z
  refine PySem.W.max_list_default (xs := ns.map PyData.int) (as := []) (I.ok.hd hc) hl.isList (by simpa using rv.ints.reads _) al (by have := depth_ints ns; omega) (fun e h' tk hk => ?_) (fun y ys i v h' tk bs e hv hr hk => ?_)
  · have e' : ns = [] := List.map_eq_nil_iff.mp e
    subst e'
    exact ⟨.int _, H, I.kept hk, ⟨_, rfl⟩, q⟩
  · cases ns with
    | nil => cases e
    | cons n ns =>
      rw [List.map_cons, List.cons.injEq] at e
      obtain ⟨rfl, rfl⟩ := e
      rw [PySem.W.maxD_ints] at hr
      obtain ⟨t', rfl⟩ : ∃ t', v = Value.int (ns.foldl max n) t' := by
        cases hr
        exact ⟨_, rfl⟩
      exact ⟨.int _, H, I.kept hk, ⟨_, rfl⟩, q⟩
end
end NB

set_option Elab.async false
set_option linter.all false
set_option maxRecDepth 100000
namespace K49
open PySem PySem.Spec PyProof.Rows L2 NB

/-! ### waves: the mathematics -/
abbrev Lgs := Nat → List (Int × Int)
def mxl (xs : List Int) : Int := xs.foldl max 0
/-- with which wave a thing with these legs comes to so many steps -/
def cw (ls : List (Int × Int)) (m : Int) : Int := m + mxl ((ls.filter fun x => decide (x.1 < m)).map (·.2))
def lastLag (ls : List (Int × Int)) : Int := (ls.getLast?.map (·.2)).getD 0
def stepN (i : Nat) (e : Int) (L : Lgs) (c : ND) : Lgs :=
  if c.i = i ∧ c.s < e ∧ lastLag (L i) < cw (L c.j) c.p - c.s then (fun k => if k = i then L i ++ [(c.s, cw (L c.j) c.p - c.s)] else L k) else L
def stepW (cs : List ND) (L : Lgs) (r : Nat × Int) : Lgs := cs.foldl (stepN r.1 r.2) L
def earl (cs : List ND) (rows : List (Nat × Int)) : Lgs := rows.foldl (stepW cs) fun _ => [(0, 0)]
/-- a need counted by steps gone -/
def cnt (one other : List Int) (n : ND) : ND := ⟨n.i, gn one other n.i n.s, n.j, gn one other n.j n.p⟩
def crow (one other : List Int) (r : Nat × Int) : Nat × Int := (r.1, gn one other r.1 r.2)
abbrev Asc (ls : List (Int × Int)) : Prop := ls.Pairwise fun x y => x.1 ≤ y.1 ∧ x.2 < y.2
theorem foldl_max_le {xs : List Int} {a b : Int} (h : xs.foldl max a ≤ b) : a ≤ b ∧ ∀ x ∈ xs, x ≤ b := by
  induction xs generalizing a with
  | nil => exact ⟨h, fun _ z => absurd z List.not_mem_nil⟩
  | cons x xs ih =>
    obtain ⟨h1, h2⟩ := ih h
    exact ⟨by omega, fun y hy => by
      rcases List.mem_cons.mp hy with rfl | hy
      · omega
      · exact h2 y hy⟩
theorem foldl_max_mem {xs : List Int} {a : Int} : xs.foldl max a = a ∨ xs.foldl max a ∈ xs := by
  induction xs generalizing a with
  | nil => exact .inl rfl
  | cons x xs ih =>
    rcases ih (a := max a x) with h | h
    · rw [List.foldl_cons, h]
      rcases Int.le_total a x with c | c
      · exact .inr (by rw [Int.max_eq_right c]; exact List.mem_cons_self)
      · exact .inl (Int.max_eq_left c)
    · exact .inr (List.mem_cons_of_mem _ h)
theorem mxl_nn (xs : List Int) : 0 ≤ mxl xs := (foldl_max_le (Int.le_refl _)).1
theorem mxl_ge {xs : List Int} {x : Int} (h : x ∈ xs) : x ≤ mxl xs := (foldl_max_le (Int.le_refl _)).2 x h
theorem mxl_mem (xs : List Int) : mxl xs = 0 ∨ mxl xs ∈ xs := foldl_max_mem
theorem cw_ge (ls : List (Int × Int)) (m : Int) : m ≤ cw ls m := by
  have := mxl_nn ((ls.filter fun x => decide (x.1 < m)).map (·.2))
  unfold cw
  omega
theorem cw_leg {ls : List (Int × Int)} {m : Int} {x : Int × Int} (h : x ∈ ls) (hm : x.1 < m) : m + x.2 ≤ cw ls m := by
  have := mxl_ge (List.mem_map.mpr ⟨x, List.mem_filter.mpr ⟨h, decide_eq_true hm⟩, rfl⟩ : x.2 ∈ ((ls.filter fun x => decide (x.1 < m)).map (·.2)))
  unfold cw
  omega
theorem cw_at (ls : List (Int × Int)) (m : Int) : cw ls m = m ∨ ∃ x ∈ ls, x.1 < m ∧ cw ls m = m + x.2 := by
  unfold cw
  rcases mxl_mem ((ls.filter fun x => decide (x.1 < m)).map (·.2)) with h | h
  · rw [h]
    exact .inl (Int.add_zero _)
  · obtain ⟨x, hx, e⟩ := List.mem_map.mp h
    obtain ⟨h1, h2⟩ := List.mem_filter.mp hx
    exact .inr ⟨x, h1, of_decide_eq_true h2, by rw [e]⟩
/-- what comes later changes nothing of what was -/
theorem cw_ext {ls t : List (Int × Int)} {o m : Int} (h : ∀ x ∈ t, o ≤ x.1) (hm : m ≤ o) : cw (ls ++ t) m = cw ls m := by
  unfold cw
  rw [List.filter_append]
  have : t.filter (fun x => decide (x.1 < m)) = [] := List.filter_eq_nil_iff.mpr fun x hx z => by
    have := h x hx
    have := of_decide_eq_true z
    omega
  rw [this, List.append_nil]
theorem lastLag_app (ls : List (Int × Int)) (x : Int × Int) : lastLag (ls ++ [x]) = x.2 := by
  unfold lastLag
  rw [List.getLast?_append]
  rfl
theorem lastLag_ge {ls : List (Int × Int)} (a : Asc ls) {x : Int × Int} (hx : x ∈ ls) : x.2 ≤ lastLag ls := by
  rcases List.eq_nil_or_concat ls with rfl | ⟨t, y, e⟩
  · exact absurd hx List.not_mem_nil
  · rw [List.concat_eq_append] at e
    subst e
    rw [lastLag_app]
    rcases List.mem_append.mp hx with h | h
    · have := (List.pairwise_append.mp a).2.2 x h y (List.mem_singleton.mpr rfl)
      omega
    · rw [List.mem_singleton.mp h]
      exact Int.le_refl _
theorem lastLag_at {ls : List (Int × Int)} (ne : ls ≠ []) : ∃ x ∈ ls, x.2 = lastLag ls := by
  rcases List.eq_nil_or_concat ls with rfl | ⟨t, y, e⟩
  · exact absurd rfl ne
  · rw [List.concat_eq_append] at e
    subst e
    exact ⟨y, List.mem_append.mpr (.inr (List.mem_singleton.mpr rfl)), (lastLag_app _ _).symm⟩
section
variable {one other : List Int}
/-- the needs, counted, in their order -/
structure Cnts (one other : List Int) (nds cs : List ND) : Prop where
  mem : ∀ c, c ∈ cs ↔ ∃ n ∈ nds, c = cnt one other n
  up : cs.Pairwise fun a b => a.i = b.i → a.s ≤ b.s
/-- legs of those that have come so far -/
structure LegI (one other : List Int) (cs : List ND) (h : List Int) (L : Lgs) : Prop where
  hd : ∀ i, ∃ t, L i = (0, 0) :: t
  asc : ∀ i, Asc (L i)
  rng : ∀ i, ∀ x ∈ L i, x = (0, 0) ∨ (0 ≤ x.1 ∧ x.1 < gn one other i (plc h i))
  lo : ∀ c ∈ cs, c.s < gn one other c.i (plc h c.i) → ∃ x ∈ L c.i, x.1 ≤ c.s ∧ cw (L c.j) c.p - c.s ≤ x.2
  up : ∀ i, ∀ x ∈ L i, x = (0, 0) ∨ ∃ c ∈ cs, c.i = i ∧ c.s = x.1 ∧ x.2 = cw (L c.j) c.p - x.1 ∧ c.p ≤ gn one other c.j (plc h c.j)
theorem met_cnt {nds cs : List ND} (C : Cnts one other nds cs) {h : List Int} {c : ND} (hc : c ∈ cs) {e : Int} (he : e ≤ gn one other c.i (endF one other nds h c.i)) (lt : c.s < e) : c.p ≤ gn one other c.j (plc h c.j) := by
  obtain ⟨n, hn, rfl⟩ := (C.mem c).mp hc
  cases m : met one other n h with
  | true => exact of_decide_eq_true m
  | false =>
    have := (endF_spec nds h n.i).2.2 n hn rfl m
    have e1 : (cnt one other n).s = gn one other n.i n.s := rfl
    have e2 : (cnt one other n).i = n.i := rfl
    rw [e2] at he
    rw [e1] at lt
    omega
theorem met_safe {nds cs : List ND} (C : Cnts one other nds cs) {h : List Int} (sf : Safe one other nds h) {c : ND} (hc : c ∈ cs) (lt : c.s < gn one other c.i (plc h c.i)) : c.p ≤ gn one other c.j (plc h c.j) := by
  obtain ⟨n, hn, rfl⟩ := (C.mem c).mp hc
  rcases sf n hn with z | z
  · have e1 : (cnt one other n).s = gn one other n.i n.s := rfl
    have e2 : (cnt one other n).i = n.i := rfl
    rw [e1, e2] at lt
    omega
  · exact of_decide_eq_true z
theorem LegI.first {nds cs : List ND} (ok : ∀ n ∈ nds, n.Ok one other) (C : Cnts one other nds cs) : LegI one other cs one fun _ => [(0, 0)] where
  hd _ := ⟨[], rfl⟩
  asc _ := List.pairwise_singleton _ _
  rng _ x hx := .inl (List.mem_singleton.mp hx)
  lo c hc lt := by
    obtain ⟨n, hn, rfl⟩ := (C.mem c).mp hc
    have h0 := (ok n hn).s0
    rw [gn, gone_one] at lt
    have e1 : (cnt one other n).s = gn one other n.i n.s := rfl
    omega
  up _ x hx := .inl (List.mem_singleton.mp hx)
/-- one row -/
structure RowI (one other : List Int) (cs : List ND) (h : List Int) (L0 : Lgs) (i : Nat) (e : Int) (done : List ND) (L : Lgs) : Prop where
  else' : ∀ k, k ≠ i → L k = L0 k
  ext : ∃ t, L i = L0 i ++ t ∧ ∀ x ∈ t, gn one other i (plc h i) ≤ x.1 ∧ x.1 < e ∧ ∃ c ∈ done, c.i = i ∧ c.s = x.1 ∧ x.2 = cw (L0 c.j) c.p - x.1 ∧ c.p ≤ gn one other c.j (plc h c.j)
  asc : Asc (L i)
  lo : ∀ c ∈ done, c.i = i → c.s < e → ∃ x ∈ L i, x.1 ≤ c.s ∧ cw (L0 c.j) c.p - c.s ≤ x.2
theorem RowI.cwe {cs done : List ND} {h : List Int} {L0 L : Lgs} {i : Nat} {e : Int} (R : RowI one other cs h L0 i e done L) {j : Nat} {p : Int} (hp : p ≤ gn one other j (plc h j)) : cw (L j) p = cw (L0 j) p := by
  by_cases c : j = i
  · subst c
    obtain ⟨t, et, ht⟩ := R.ext
    rw [et]
    exact cw_ext (fun x hx => (ht x hx).1) hp
  · rw [R.else' j c]
theorem RowI.step {nds cs done rest : List ND} (C : Cnts one other nds cs) {h : List Int} {L0 L : Lgs} {i : Nat} {e : Int} {c : ND} (I : LegI one other cs h L0) (w0 : 0 ≤ gn one other i (plc h i)) (he : e ≤ gn one other i (endF one other nds h i))
    (ecs : cs = done ++ c :: rest) (R : RowI one other cs h L0 i e done L) : RowI one other cs h L0 i e (done ++ [c]) (stepN i e L c) := by
  have hc : c ∈ cs := by rw [ecs]; exact List.mem_append.mpr (.inr List.mem_cons_self)
  have skip : (c.i = i → c.s < e → ∃ x ∈ L i, x.1 ≤ c.s ∧ cw (L0 c.j) c.p - c.s ≤ x.2) → RowI one other cs h L0 i e (done ++ [c]) L := fun g => by
    refine ⟨R.else', ?_, R.asc, fun d hd => ?_⟩
    · obtain ⟨t, et, ht⟩ := R.ext
      exact ⟨t, et, fun x hx => ⟨(ht x hx).1, (ht x hx).2.1, by
        obtain ⟨d, hd, z⟩ := (ht x hx).2.2
        exact ⟨d, List.mem_append.mpr (.inl hd), z⟩⟩⟩
    · rcases List.mem_append.mp hd with hd | hd
      · exact R.lo d hd
      · rw [List.mem_singleton.mp hd]
        exact g
  by_cases ci : c.i = i ∧ c.s < e
  rotate_left
  · have es : stepN i e L c = L := if_neg fun z => ci ⟨z.1, z.2.1⟩
    rw [es]
    exact skip fun a b => absurd ⟨a, b⟩ ci
  obtain ⟨ci, lt⟩ := ci
  have mt := met_cnt C hc (by rw [ci]; exact he) lt
  have ecw := R.cwe mt
  obtain ⟨t, et, ht⟩ := R.ext
  -- all legs so far are begun no later
  have ahead : gn one other i (plc h i) ≤ c.s → ∀ y ∈ L i, y.1 ≤ c.s := fun ho y hy => by
    rw [et] at hy
    rcases List.mem_append.mp hy with hy | hy
    · rcases I.rng i y hy with rfl | z
      · exact Int.le_trans w0 ho
      · omega
    · obtain ⟨_, _, d, hd, d1, d2, _⟩ := ht y hy
      have := C.up
      rw [ecs] at this
      have := (List.pairwise_append.mp this).2.2 d hd c List.mem_cons_self (d1.trans ci.symm)
      omega
  have old : c.s < gn one other i (plc h i) → ∃ x ∈ L i, x.1 ≤ c.s ∧ cw (L0 c.j) c.p - c.s ≤ x.2 := fun z => by
    obtain ⟨x, hx, a, b⟩ := I.lo c hc (by rw [ci]; exact z)
    rw [ci] at hx
    exact ⟨x, by rw [et]; exact List.mem_append.mpr (.inl hx), a, b⟩
  have ne : L i ≠ [] := by
    obtain ⟨u, eu⟩ := I.hd i
    rw [et, eu]
    exact fun z => nomatch z
  by_cases lg : lastLag (L i) < cw (L c.j) c.p - c.s
  · have es : stepN i e L c = fun k => if k = i then L i ++ [(c.s, cw (L c.j) c.p - c.s)] else L k := if_pos ⟨ci, lt, lg⟩
    have ho : gn one other i (plc h i) ≤ c.s := by
      rcases Int.lt_or_le c.s (gn one other i (plc h i)) with z | z
      · obtain ⟨x, hx, _, b⟩ := old z
        have := lastLag_ge R.asc hx
        rw [ecw] at lg
        omega
      · exact z
    have ei : (if i = i then L i ++ [(c.s, cw (L c.j) c.p - c.s)] else L i) = L i ++ [(c.s, cw (L c.j) c.p - c.s)] := if_pos rfl
    rw [es]
    refine ⟨fun k hk => ?_, ⟨t ++ [(c.s, cw (L c.j) c.p - c.s)], ?_, fun x hx => ?_⟩, ?_, fun d hd d1 d2 => ?_⟩
    · show (if k = i then _ else L k) = _
      rw [if_neg hk]
      exact R.else' k hk
    · rw [ei, et, List.append_assoc]
    · rcases List.mem_append.mp hx with hx | hx
      · refine ⟨(ht x hx).1, (ht x hx).2.1, ?_⟩
        obtain ⟨d, hd, z⟩ := (ht x hx).2.2
        exact ⟨d, List.mem_append.mpr (.inl hd), z⟩
      · rw [List.mem_singleton.mp hx]
        exact ⟨ho, lt, c, List.mem_append.mpr (.inr (List.mem_singleton.mpr rfl)), ci, rfl, by rw [ecw], mt⟩
    · rw [ei]
      refine List.pairwise_append.mpr ⟨R.asc, List.pairwise_singleton _ _, fun y hy z hz => ?_⟩
      rw [List.mem_singleton.mp hz]
      have := lastLag_ge R.asc hy
      exact ⟨ahead ho y hy, by omega⟩
    · rw [ei]
      rcases List.mem_append.mp hd with hd | hd
      · obtain ⟨x, hx, z⟩ := R.lo d hd d1 d2
        exact ⟨x, List.mem_append.mpr (.inl hx), z⟩
      · rw [List.mem_singleton.mp hd]
        exact ⟨_, List.mem_append.mpr (.inr (List.mem_singleton.mpr rfl)), Int.le_refl _, by rw [ecw]; exact Int.le_refl _⟩
  · have es : stepN i e L c = L := if_neg fun z => lg z.2.2
    rw [es]
    refine skip fun _ _ => ?_
    rcases Int.lt_or_le c.s (gn one other i (plc h i)) with z | z
    · exact old z
    · obtain ⟨x, hx, ex⟩ := lastLag_at ne
      exact ⟨x, hx, ahead z x hx, by rw [ecw] at lg; omega⟩
theorem RowI.all {nds cs : List ND} (C : Cnts one other nds cs) {h : List Int} {L0 : Lgs} {i : Nat} {e : Int} (I : LegI one other cs h L0) (w0 : 0 ≤ gn one other i (plc h i)) (he : e ≤ gn one other i (endF one other nds h i)) :
    RowI one other cs h L0 i e cs (stepW cs L0 (i, e)) := by
  have main : ∀ (rest done : List ND) (L : Lgs), cs = done ++ rest → RowI one other cs h L0 i e done L → RowI one other cs h L0 i e cs (rest.foldl (stepN i e) L) := by
    intro rest
    induction rest with
    | nil =>
      intro done L ed R
      rw [List.append_nil] at ed
      rw [ed] at R ⊢
      exact R
    | cons c rest ih =>
      intro done L ed R
      exact ih (done ++ [c]) _ (by rw [ed, List.append_assoc]; rfl) (R.step C I w0 he ed)
  exact main cs [] L0 rfl ⟨fun _ _ => rfl, ⟨[], (List.append_nil _).symm, fun _ z => absurd z List.not_mem_nil⟩, I.asc i, fun _ z => absurd z List.not_mem_nil⟩
theorem LegI.row {nds cs : List ND} (C : Cnts one other nds cs) {h : List Int} {L0 : Lgs} {i : Nat} {x : Int} (I : LegI one other cs h L0) (sf : Safe one other nds h) (wi : Within one other h) (li : i < one.length) (h0 : gn one other i (plc h i) ≤ gn one other i x) (h1 : gn one other i x ≤ gn one other i (endF one other nds h i)) :
    LegI one other cs (h.set i x) (stepW cs L0 (i, gn one other i x)) := by
  have hl : i < h.length := by rw [wi.1]; exact li
  have w0 := (wi.2 i li).1
  have R := RowI.all C I w0 h1
  generalize stepW cs L0 (i, gn one other i x) = L at R
  have gs : ∀ k, gn one other k (plc h k) ≤ gn one other k (plc (h.set i x) k) := fun k => by
    by_cases c : i = k
    · subst c
      rw [plc_set_self hl]
      exact h0
    · rw [plc_set_ne c]
      exact Int.le_refl _
  have gi : gn one other i (plc (h.set i x) i) = gn one other i x := by rw [plc_set_self hl]
  have gk : ∀ k, k ≠ i → gn one other k (plc (h.set i x) k) = gn one other k (plc h k) := fun k hk => by rw [plc_set_ne (Ne.symm hk)]
  obtain ⟨t, et, ht⟩ := R.ext
  refine ⟨fun k => ?_, fun k => ?_, fun k y hy => ?_, fun c hc lt => ?_, fun k y hy => ?_⟩
  · by_cases c : k = i
    · subst c
      obtain ⟨u, eu⟩ := I.hd k
      exact ⟨u ++ t, by rw [et, eu]; rfl⟩
    · rw [R.else' k c]
      exact I.hd k
  · by_cases c : k = i
    · subst c
      exact R.asc
    · rw [R.else' k c]
      exact I.asc k
  · by_cases c : k = i
    · subst c
      rw [et] at hy
      rw [gi]
      rcases List.mem_append.mp hy with hy | hy
      · rcases I.rng k y hy with z | z
        · exact .inl z
        · exact .inr ⟨z.1, by omega⟩
      · have := ht y hy
        exact .inr ⟨by omega, this.2.1⟩
    · rw [R.else' k c] at hy
      rw [gk k c]
      exact I.rng k y hy
  · by_cases ci : c.i = i
    · rw [ci, gi] at lt
      have mt := met_cnt C hc (by rw [ci]; exact h1) lt
      obtain ⟨y, hy, a, b⟩ := R.lo c hc ci lt
      rw [R.cwe mt, ci]
      exact ⟨y, hy, a, b⟩
    · rw [gk c.i ci] at lt
      have mt := met_safe C sf hc lt
      rw [R.cwe mt, R.else' c.i ci]
      exact I.lo c hc lt
  · have keep : ∀ c ∈ cs, y.2 = cw (L0 c.j) c.p - y.1 → c.p ≤ gn one other c.j (plc h c.j) → y.2 = cw (L c.j) c.p - y.1 ∧ c.p ≤ gn one other c.j (plc (h.set i x) c.j) := fun c _ a b => ⟨by rw [R.cwe b]; exact a, Int.le_trans b (gs _)⟩
    have back : (y = (0, 0) ∨ ∃ c ∈ cs, c.i = k ∧ c.s = y.1 ∧ y.2 = cw (L0 c.j) c.p - y.1 ∧ c.p ≤ gn one other c.j (plc h c.j)) → (y = (0, 0) ∨ ∃ c ∈ cs, c.i = k ∧ c.s = y.1 ∧ y.2 = cw (L c.j) c.p - y.1 ∧ c.p ≤ gn one other c.j (plc (h.set i x) c.j)) := fun z => z.imp id fun ⟨c, hc, a, b, d, f⟩ => ⟨c, hc, a, b, keep c hc d f⟩
    by_cases ck : k = i
    · subst ck
      rw [et] at hy
      rcases List.mem_append.mp hy with hy | hy
      · exact back (I.up k y hy)
      · obtain ⟨_, _, c, hc, z⟩ := ht y hy
        exact back (.inr ⟨c, hc, z⟩)
    · rw [R.else' k ck] at hy
      exact back (I.up k y hy)
theorem LegI.goes {nds cs : List ND} (ok : ∀ n ∈ nds, n.Ok one other) (C : Cnts one other nds cs) {rows : List (Nat × Int)} {last : List Int} (G : Goes one other nds one rows last) : LegI one other cs last (earl cs (rows.map (crow one other))) := by
  induction G with
  | nil => exact LegI.first ok C
  | snoc g sf wi li ne h0 h1 ih =>
    rw [List.map_append]
    unfold earl
    rw [List.foldl_append]
    exact ih.row C sf wi li h0 h1
/-! the waves by themselves -/
/-- what every wave is: behind all that it waits for, and no later -/
structure IsW (cs : List ND) (W : Nat → Int → Int) : Prop where
  ge : ∀ i m, m ≤ W i m
  lo : ∀ c ∈ cs, ∀ m, c.s < m → W c.j c.p + m - c.s ≤ W c.i m
  at' : ∀ i m, W i m = m ∨ ∃ c ∈ cs, c.i = i ∧ c.s < m ∧ W i m = W c.j c.p + m - c.s
theorem LegI.isW {nds cs : List ND} (ok : ∀ n ∈ nds, n.Ok one other) (C : Cnts one other nds cs) {L : Lgs} (I : LegI one other cs other L) : IsW cs fun i m => cw (L i) m := by
  refine ⟨fun i m => cw_ge _ _, fun c hc m hm => ?_, fun i m => ?_⟩
  · have lt : c.s < gn one other c.i (plc other c.i) := by
      obtain ⟨n, hn, rfl⟩ := (C.mem c).mp hc
      exact (ok n hn).s1
    obtain ⟨x, hx, a, b⟩ := I.lo c hc lt
    have := cw_leg hx (show x.1 < m by omega)
    show cw (L c.j) c.p + m - c.s ≤ cw (L c.i) m
    omega
  · rcases cw_at (L i) m with h | ⟨x, hx, lt, e⟩
    · exact .inl h
    · rcases I.up i x hx with rfl | ⟨c, hc, a, b, d, _⟩
      · exact .inl (by rw [e]; exact Int.add_zero _)
      · exact .inr ⟨c, hc, a, by omega, by show cw (L i) m = cw (L c.j) c.p + m - c.s; omega⟩
/-- more needs, later waves; along a way of the fewer -/
theorem IsW.le {nds cs : List ND} (ok : ∀ n ∈ nds, n.Ok one other) (C : Cnts one other nds cs) {ds : List ND} {V W : Nat → Int → Int} (v : IsW cs V) (w : IsW ds W) (sub : ∀ c ∈ cs, c ∈ ds) {rows : List (Nat × Int)} {last : List Int} (G : Goes one other nds one rows last) :
    ∀ i m, m ≤ gn one other i (plc last i) → V i m ≤ W i m := by
  have core : ∀ i m, (∀ c ∈ cs, c.i = i → c.s < m → V c.j c.p ≤ W c.j c.p) → V i m ≤ W i m := fun i m h => by
    rcases v.at' i m with z | ⟨c, hc, ci, lt, e⟩
    · rw [z]
      exact w.ge i m
    · have a := h c hc ci lt
      have b := w.lo c (sub c hc) m lt
      rw [ci] at b
      omega
  induction G with
  | nil =>
    intro i m hm
    rw [gn, gone_one] at hm
    refine core i m fun c hc ci lt => ?_
    obtain ⟨n, hn, rfl⟩ := (C.mem c).mp hc
    have h0 := (ok n hn).s0
    have e1 : (cnt one other n).s = gn one other n.i n.s := rfl
    omega
  | snoc g sf wi li ne h0 h1 ih =>
    rename_i mm rows i e
    have hl : i < mm.length := by rw [wi.1]; exact li
    intro k m hm
    by_cases c : i = k
    · subst c
      rw [plc_set_self hl] at hm
      refine core i m fun c hc ci lt => ih _ _ (met_cnt C hc (e := m) ?_ lt)
      rw [ci]
      exact Int.le_trans hm h1
    · rw [plc_set_ne c] at hm
      exact ih k m hm
theorem IsW.same {nds cs : List ND} (ok : ∀ n ∈ nds, n.Ok one other) (C : Cnts one other nds cs) {V W : Nat → Int → Int} (v : IsW cs V) (w : IsW cs W) {rows : List (Nat × Int)} (G : Goes one other nds one rows other) {i : Nat} {m : Int} (hm : m ≤ tot one other i) : V i m = W i m :=
  Int.le_antisymm (v.le ok C w (fun _ h => h) G i m hm) (w.le ok C v (fun _ h => h) G i m hm)
end

/-! ### waves: the program -/
theorem iteTr {c : Bool} {A B : Prop} (e : c = true) (h : A) : if c = true then A else B := by rw [e]; exact h
theorem iteFa {c : Bool} {A B : Prop} (e : c = false) (h : B) : if c = true then A else B := by rw [e]; exact h
/-- pairs of whole numbers in a list -/
def PrL (H : Hp) (as : List Addr) (ls : List (Int × Int)) : Prop := as.length = ls.length ∧ ∀ (k : Nat) (a : Addr) (x : Int × Int), as[k]? = some a → ls[k]? = some x → H a = some (.tup [.int x.1, .int x.2])
def LegAt (H : Hp) (l : Addr) (ls : List (Int × Int)) : Prop := ∃ as : List Addr, H l = some (.lst (as.map V.ref)) ∧ PrL H as ls
def CtAt (H : Hp) (l : Addr) (cs : List ND) : Prop := ∃ as : List Addr, H l = some (.lst (as.map V.ref)) ∧ as.length = cs.length ∧ ∀ (k : Nat) (a : Addr) (c : ND), as[k]? = some a → cs[k]? = some c → NdAt H a c
theorem CtAt.same {H H' : Hp} {l : Addr} {cs : List ND} (h : CtAt H l cs) (s : Same H H') : CtAt H' l cs := by
  obtain ⟨as, e, l, f⟩ := h
  exact ⟨as, s _ _ e, l, fun k a c h1 h2 => s _ _ (f k a c h1 h2)⟩
theorem PrL.same {H H' : Hp} {as : List Addr} {ls : List (Int × Int)} (h : PrL H as ls) (s : Same H H') : PrL H' as ls := ⟨h.1, fun k a x h1 h2 => s _ _ (h.2 k a x h1 h2)⟩
theorem LegAt.same {H H' : Hp} {l : Addr} {ls : List (Int × Int)} (h : LegAt H l ls) (s : Same H H') : LegAt H' l ls := by
  obtain ⟨as, e, p⟩ := h
  exact ⟨as, s _ _ e, p.same s⟩
/-- places that are such -/
def Sml (st : List Int) : Prop := ∀ x ∈ st, 0 ≤ x ∧ x < BB
theorem Sml.at' {st : List Int} (h : Sml st) (i : Nat) : 0 ≤ plc st i ∧ plc st i < BB := by
  unfold plc
  rw [List.getD_eq_getElem?_getD]
  cases e : st[i]? with
  | none => exact ⟨Int.le_refl _, by decide⟩
  | some x => exact h x (List.mem_of_getElem? e)
theorem tot_lt {one other : List Int} (h1 : Sml one) (h2 : Sml other) (i : Nat) : tot one other i < BB := by
  have a := h1.at' i
  have b := h2.at' i
  rw [tot_eq]
  unfold plc at a b
  omega
theorem cnt_ok {one other : List Int} {n : ND} (o : n.Ok one other) (l12 : one.length ≤ 12) (h1 : Sml one) (h2 : Sml other) : (cnt one other n).toL.length = 4 ∧ TS.Bd BB (cnt one other n).toL := by
  refine ⟨rfl, fun m hm => ?_⟩
  have a1 := o.s0
  have a2 := o.s1
  have a3 := o.p0
  have a4 := o.p1
  have t1 := tot_lt h1 h2 n.i
  have t2 := tot_lt h1 h2 n.j
  have l1 := o.li
  have l2 := o.lj
  have hb : (12 : Int) < BB := by decide
  have hm' : m = (n.i : Int) ∨ m = gn one other n.i n.s ∨ m = (n.j : Int) ∨ m = gn one other n.j n.p := by
    simpa [ND.toL, cnt] using hm
  rcases hm' with h | h | h | h <;> rw [h] <;> constructor <;> omega
theorem pme {α β : Type} {f : α → β} {ys zs : List β} (h : ys.Perm zs) : ∀ fs : List α, zs = fs.map f → ∃ ps : List α, ps.Perm fs ∧ ys = ps.map f := by
  induction h with
  | nil =>
    intro fs e
    obtain rfl : fs = [] := List.map_eq_nil_iff.mp e.symm
    exact ⟨[], .nil, rfl⟩
  | cons x _ ih =>
    intro fs e
    cases fs with
    | nil => cases e
    | cons g gs =>
      rw [List.map_cons, List.cons.injEq] at e
      obtain ⟨ps, hp, hy⟩ := ih gs e.2
      exact ⟨g :: ps, hp.cons g, by rw [List.map_cons, ← e.1, hy]⟩
  | swap x y l =>
    intro fs e
    cases fs with
    | nil => cases e
    | cons g gs =>
      cases gs with
      | nil => cases e
      | cons g' gs =>
        rw [List.map_cons, List.map_cons, List.cons.injEq, List.cons.injEq] at e
        exact ⟨g' :: g :: gs, .swap g g' gs, by rw [List.map_cons, List.map_cons, ← e.1, ← e.2.1, ← e.2.2]⟩
  | trans _ _ ih1 ih2 =>
    intro fs e
    obtain ⟨ps, hp, hy⟩ := ih2 fs e
    obtain ⟨qs, hq, hz⟩ := ih1 ps hy
    exact ⟨qs, hq.trans hp, hz⟩
/-- the order of codes puts the needs of one thing by their stops -/
theorem code_up {c d : ND} (hc : TS.Bd BB c.toL) (hd : TS.Bd BB d.toL) (h : TS.code BB c.toL ≤ TS.code BB d.toL) (e : c.i = d.i) : c.s ≤ d.s := by
  rcases Int.lt_or_le d.s c.s with lt | le
  · exfalso
    have e1 : TS.code BB d.toL < TS.code BB c.toL := by
      unfold ND.toL at hc hd ⊢
      rw [e]
      refine (TS.code_same (r := [d.s, (d.j : Int), d.p]) (q := [c.s, (c.j : Int), c.p]) rfl).mpr ?_
      exact TS.code_lt rfl (fun m hm => hd m (List.mem_cons_of_mem _ (List.mem_cons_of_mem _ hm))) (fun m hm => hc m (List.mem_cons_of_mem _ (List.mem_cons_of_mem _ hm))) lt
    omega
  · exact le
section
variable {P : Program} {w : World} {K : PySem.W.Frag} {mg : Str → Option Value} {base : Heap}
def spWr (K : PySem.W.Frag) (C CK : Addr) : Sp := fun vs H Q E => ∃ (x a b : Addr) (tops one other : List Int) (rs : List Rl), vs = [.ref x, .ref a, .ref b] ∧ PlanAtK K C H x tops rs ∧ H a = some (.tup (one.map V.int)) ∧ H b = some (.tup (other.map V.int)) ∧ tops.length ≤ 12 ∧ Pl tops ∧ rs.length ≤ 40 ∧ (∀ q ∈ rs, RuleOk tops q) ∧ one.length = tops.length ∧ other.length = tops.length ∧
  (∀ nds H' R rws, NdsOf one other rs nds → Same H H' → RowsAt H' R rws → Amid one other nds rws other → Q (.ref R) H') ∧
  ∀ nds H' dd R L, NdsOf one other rs nds → Same H H' → H dd = none → H' R = some (.tup (lrefs L)) → NdsL H' L → RingAt one other nds (L.map (·.2)) → H' dd = some (.xd [("ring", .ref R)]) → E (.ref CK) (some dd) H'
abbrev a_way_or_refusal : Stmt := topS 35
abbrev n_way_or_refusal : List Str := ["plan", "one", "other", "word", "told"]
theorem sc_way_or_refusal : FnScope n_way_or_refusal ["plan", "one", "other"] (defScope a_way_or_refusal) := ⟨rfl, rfl, rfl, by decide +kernel, rfl, by decide +kernel, by decide +kernel⟩
set_option maxHeartbeats 8000000 in
theorem ok_way_or_refusal {f fWy : Addr} {fd fdWy : FuncData} {k : Nat} {C CK fN : Addr} {fdN : FuncData} (F : Fun K "way_or_refusal" "way_or_refusal" a_way_or_refusal f fd) (Wy : Kn P w K mg base 5 "way" ["plan", "one", "other"] (spWay K C) fWy fdWy) (TN : ExT K mg "Knotted" "ring" CK fN fdN) (GN : FnOk P w K mg base CX0 1 fN fdN ["self", "ring"] (spXI CK "ring"))  : FnOk P w K mg base (L2.CX P w) (k + 6) f fd ["plan", "one", "other"] (spWr K C CK) := by
  refine F.okX sc_way_or_refusal (fun vs H Q E h => ?_) (fun cdv A outer s H vs Q E hr h => ?_)
  · obtain ⟨x, a, b, tops, one, other, rs, rfl, _⟩ := h
    rfl
  · obtain ⟨x, a, b, tops, one, other, rs, rfl, hp, ea, eb, l12, pl, l31, rok, lo, lo', q, qE⟩ := h
    refine ⟨_, (pss_cons (ps_asg (pe_kn Wy hr (by omega) (pa_cons (pv 0) (pa_cons (pv 1) (pa_cons (pv 2) pa_nil)))) (pg_tup rfl (pgs_cons (pg_name (i := 3) sc_way_or_refusal.nd rfl (.inl rfl)) (pgs_cons (pg_name (i := 4) sc_way_or_refusal.nd rfl (.inl rfl)) pgs_nil))))
      (pss_cons (ps_if (pt_cmpR op_eq (pv 3) pe_str (nomark _)) (pss_one (ps_raise rfl (takes_of rfl rfl rfl rfl) (pmk_x TN GN hr (by omega) (pa_cons (pv 4) pa_nil)))) pss_nil)
      (pss_one (ps_ret (pv 4))))), ?_⟩
    refine ⟨.ref x, rfl, .ref a, rfl, .ref b, rfl, x, a, b, tops, one, other, rs, rfl, hp, ea, eb, l12, pl, l31, rok, lo, lo', fun nds H1 g R N s1 ng wt => ?_⟩
    rcases wt with ⟨rws, eg, hR, Am⟩ | ⟨L, eg, eR, hL, ring, l⟩
    · refine ⟨g, _, rfl, .inl (.inl eg), rfl, _, _, rfl, _, _, rfl, rfl, ?_⟩
      exact ⟨_, rfl, rfl, _, rfl, iteFa (by decide +kernel) ⟨_, rfl, q nds H1 R rws N s1 hR Am⟩⟩
    · refine ⟨g, _, rfl, .inl (.inl eg), rfl, _, _, rfl, _, _, rfl, rfl, ?_⟩
      refine ⟨_, rfl, rfl, _, rfl, iteTr (by decide +kernel) ⟨_, rfl, mkX fun dd nd => ?_⟩⟩
      have sd := same_new (o := HO.xd [("ring", V.ref R)]) nd
      exact qE nds _ dd R L N (s1.trans sd) (s1.free nd) (sd _ _ eR) (fun z hz => (Keep.same sd).tup (hL z hz)) ring upd_same

def spCw : Sp := fun vs H Q _ => ∃ (l : Addr) (m : Int) (ls : List (Int × Int)), vs = [.ref l, .int m] ∧ LegAt H l ls ∧ ls.length ≤ 200 ∧ (∀ x ∈ ls, 0 ≤ x.2) ∧ ∀ H', Same H H' → Q (.int (cw ls m)) H'
theorem mxOr0 {xs : List Int} (h : ∀ x ∈ xs, 0 ≤ x) : mxOr 0 xs = mxl xs := by
  cases xs with
  | nil => rfl
  | cons a xs =>
    show xs.foldl max a = (a :: xs).foldl max 0
    rw [List.foldl_cons, Int.max_eq_right (h a List.mem_cons_self)]
abbrev a_comes_with : Stmt := topS 36
abbrev n_comes_with : List Str := ["legs", "many", "begun", "lag"]
theorem sc_comes_with : FnScope n_comes_with ["legs", "many"] (defScope a_comes_with) := ⟨rfl, rfl, rfl, by decide +kernel, rfl, by decide +kernel, by decide +kernel⟩
set_option maxHeartbeats 8000000 in
theorem ok_comes_with {f  : Addr} {fd  : FuncData} {k : Nat}  (F : Fun K "comes_with" "comes_with" a_comes_with f fd)   (m_max : mg "max" = none) : FnOk P w K mg base CX0 (k + 2) f fd ["legs", "many"] spCw := by
  refine F.ok sc_comes_with (fun vs H Q E h => ?_) (fun cdv A outer s H vs Q E hr h => ?_)
  · obtain ⟨l, m, ls, rfl, _⟩ := h
    rfl
  · obtain ⟨l, m, ls, rfl, hl, few, nn, q⟩ := h
    refine ⟨_, (pss_one (ps_ret (pe_op op_add (pv 1) (pe_callBK (cr_maxDf rfl (show (A.deeper (envOfC "comes_with" (defScope a_comes_with) s.heap.objs.size f cdv)).units + 64 < cLine by have := hr.un; omega)) (by rfl) m_max (by rfl) (pa_cons (
        pe_lc (own := [("begun", 2), ("lag", 3)]) (g := (gTup K 2 (gCons (gName 2) (gCons (gName 3) gNil)))) (tt := (tTest (tOp (rI0 fun i j => .bl (decide (i < j))) (tVar 2) (tVar 1)))) (te := (tVar 3)) rfl sc_comes_with.nd (pi_list (pv 0)) (blkOk_by (N := n_comes_with) (sc := defScope a_comes_with) (by decide +kernel))
          (fun _ _ _ _ _ => (pg_tup rfl (pgs_cons (pg_name (i := 2) sc_comes_with.nd rfl (.inl rfl) (hf := .inr rfl)) (pgs_cons (pg_name (i := 3) sc_comes_with.nd rfl (.inl rfl) (hf := .inr rfl)) pgs_nil)))) (fun _ _ _ _ _ => pts_one (pt_cmpR op_lt (pv 2) (pv 1) (nomark _))) (fun _ _ _ _ _ => (pv 3))) pa_nil) (pk_cons pe_int pk_nil))))), ?_⟩
    obtain ⟨as, el, la, ha⟩ := hl
    refine ⟨_, rfl, .ref l, rfl, l, rfl, ⟨_, .inl (.inl el)⟩, fun D nD => lc_it (walk_list (xs := as.map V.ref)) (fun j H' => Same H H' ∧ H' D = some (.lst (((ls.take j).filter fun x => decide (x.1 < m)).map fun x => V.int x.2))) ⟨same_new nD, upd_same⟩ (fun j H' _ p => .inl (.inl (p.1 _ _ el))) (fun j v H2 H3 hj p y => ?_) (fun H2 p => ?_)⟩
    · obtain ⟨s2, eD⟩ := p
      obtain ⟨rfl, gv⟩ := y
      obtain ⟨r, er, rfl⟩ := mapGet gv
      have hj' : j < ls.length := by rw [← la]; simpa using hj
      have ej : ls[j]? = some ls[j] := List.getElem?_eq_getElem hj'
      have hr' := s2 _ _ (ha j r _ er ej)
      have tk : ((ls.take (j + 1)).filter fun x => decide (x.1 < m)) = ((ls.take j).filter fun x => decide (x.1 < m)) ++ (if ls[j].1 < m then [ls[j]] else []) := by
        rw [List.take_add_one, ej, List.filter_append]
        congr 1
        by_cases c : ls[j].1 < m
        · simp [c]
        · simp [c]
      refine ⟨r, _, rfl, .inl (.inl hr'), rfl, _, _, rfl, _, _, rfl, rfl, rfl, _, rfl, _, rfl, _, _, rfl, rfl, _, rfl, ite2 (fun c => ?_) (fun c => ?_)⟩
      · refine ⟨_, rfl, _, eD, ?_, same_over s2 nD, ?_⟩
        · rw [List.length_map]
          exact small1000 (Nat.le_trans (List.length_filter_le _ _) (by rw [List.length_take]; omega))
        · rw [upd_same, tk, if_pos (of_decide_eq_true c), List.map_append]
          rfl
      · refine ⟨s2, ?_⟩
        rw [eD, tk, if_neg (fun z => c (decide_eq_true z)), List.append_nil]
    · obtain ⟨s2, eD⟩ := p
      rw [List.length_map, la, List.take_length] at eD
      have eD' : H2 D = some (.lst ((((ls.filter fun x => decide (x.1 < m)).map (·.2))).map V.int)) := by
        rw [eD, List.map_map]
        rfl
      refine ⟨D, _, 0, rfl, rfl, .inl (.inl eD'), _, _, rfl, rfl, ?_⟩
      rw [mxOr0 fun x hx => by
        obtain ⟨y, hy, rfl⟩ := List.mem_map.mp hx
        exact nn y (List.mem_filter.mp hy).1]
      exact q H2 s2

def spCo : Sp := fun vs H Q _ => ∃ (a b p : Addr) (one other : List Int) (nds : List ND), vs = [.ref a, .ref b, .ref p] ∧ H a = some (.tup (one.map V.int)) ∧ H b = some (.tup (other.map V.int)) ∧ AskedAt H p nds ∧ (∀ n ∈ nds, n.Ok one other) ∧ other.length = one.length ∧ one.length ≤ 12 ∧ Sml one ∧ Sml other ∧ nds.length ≤ 100 ∧
  ∀ H' l cs, Same H H' → CtAt H' l cs → Cnts one other nds cs → cs.length = nds.length → (cs.Pairwise fun x y => TS.code BB x.toL ≤ TS.code BB y.toL) → Q (.ref l) H'
abbrev a_counted : Stmt := topS 37
abbrev n_counted : List Str := ["one", "other", "asked", "i", "stop", "j", "place"]
theorem sc_counted : FnScope n_counted ["one", "other", "asked"] (defScope a_counted) := ⟨rfl, rfl, rfl, by decide +kernel, rfl, by decide +kernel, by decide +kernel⟩
set_option maxHeartbeats 8000000 in
theorem ok_counted {f fGo : Addr} {fd fdGo : FuncData} {k : Nat}  (F : Fun K "counted" "counted" a_counted f fd) (Go : Kn P w K mg base 1 "gone_at" ["one", "other", "thing", "place"] spGone fGo fdGo)  (m_sorted : mg "sorted" = none) : FnOk P w K mg base CX0 (k + 2) f fd ["one", "other", "asked"] spCo := by
  refine F.ok sc_counted (fun vs H Q E h => ?_) (fun cdv A outer s H vs Q E hr h => ?_)
  · obtain ⟨a, b, p, one, other, nds, rfl, _⟩ := h
    rfl
  · obtain ⟨a, b, p, one, other, nds, rfl, ea, eb, hA, ok, lo, l12, h1, h2, few, q⟩ := h
    refine ⟨_, (pss_one (ps_ret (pe_callB (cr_sortTO (d := 4) (B := BB) (by decide)) (by rfl) m_sorted (by decide +kernel) (pa_cons (
        pe_lc (own := [("i", 3), ("stop", 4), ("j", 5), ("place", 6)]) (g := (gTup K 4 (gCons (gName 3) (gCons (gName 4) (gCons (gName 5) (gCons (gName 6) gNil)))))) (tt := tYes) (te := (tTup (tCons (tVar 3) (tCons (tCall spGone [] E0 (tCons (tVar 0) (tCons (tVar 1) (tCons (tVar 3) (tCons (tVar 4) tNil))))) (tCons (tVar 5) (tCons (tCall spGone [] E0 (tCons (tVar 0) (tCons (tVar 1) (tCons (tVar 5) (tCons (tVar 6) tNil))))) tNil)))))) rfl sc_counted.nd (pi_tup (pv 2)) (blkOk_by (N := n_counted) (sc := defScope a_counted) (by decide +kernel))
          (fun _ _ _ _ _ => (pg_tup rfl (pgs_cons (pg_name (i := 3) sc_counted.nd rfl (.inl rfl) (hf := .inr rfl)) (pgs_cons (pg_name (i := 4) sc_counted.nd rfl (.inl rfl) (hf := .inr rfl)) (pgs_cons (pg_name (i := 5) sc_counted.nd rfl (.inl rfl) (hf := .inr rfl)) (pgs_cons (pg_name (i := 6) sc_counted.nd rfl (.inl rfl) (hf := .inr rfl)) pgs_nil)))))) (fun _ _ _ _ _ => pts_nil) (fun _ _ _ _ _ => (pe_tup (pa_cons (pv 3) (pa_cons (pe_kn Go hr (by omega) (pa_cons (pv 0) (pa_cons (pv 1) (pa_cons (pv 3) (pa_cons (pv 4) pa_nil))))) (pa_cons (pv 5) (pa_cons (pe_kn Go hr (by omega) (pa_cons (pv 0) (pa_cons (pv 1) (pa_cons (pv 5) (pa_cons (pv 6) pa_nil))))) pa_nil))))))) pa_nil)))), ?_⟩
    obtain ⟨as, ep, la, fa⟩ := hA
    refine ⟨.ref p, rfl, p, rfl, ⟨_, .inl (.inl ep)⟩, fun D nD => lc_it (walk_tup (xs := as.map V.ref)) (fun j H' => Same H H' ∧ ∃ bs : List Addr, H' D = some (.lst (bs.map V.ref)) ∧ bs.length = j ∧ ∀ (k : Nat) (b : Addr) (n : ND), bs[k]? = some b → nds[k]? = some n → NdAt H' b (cnt one other n)) ⟨same_new nD, [], upd_same, rfl, fun k b n z => by simp at z⟩ (fun j H' _ y => .inl (.inl (y.1 _ _ ep))) (fun j v H2 H3 hj y z => ?_) (fun H2 y => ?_)⟩
    · obtain ⟨s2, bs, eD, lb, fb⟩ := y
      obtain ⟨rfl, gv⟩ := z
      obtain ⟨r, er, rfl⟩ := mapGet gv
      have hj' : j < nds.length := by rw [← la]; simpa using hj
      have ej : nds[j]? = some nds[j] := List.getElem?_eq_getElem hj'
      have hr' := s2 _ _ (fa j r _ er ej)
      have okn := ok _ (List.getElem_mem hj')
      rcases hn : nds[j] with ⟨i, st, jj, pl⟩
      have e1 : H3 r = some (.tup [.int (i : Int), .int st, .int (jj : Int), .int pl]) := by
        have := hr'
        rw [hn] at this
        exact this
      rw [hn] at okn
      have li : i < one.length := okn.li
      have lj : jj < one.length := okn.lj
      refine ⟨r, _, rfl, .inl (.inl e1), rfl, _, _, rfl, _, _, rfl, _, _, rfl, _, _, rfl, rfl, rfl, _, rfl, .ref a, rfl, .ref b, rfl, _, rfl, _, rfl, a, b, one, other, i, st, rfl, s2 _ _ ea, s2 _ _ eb, li, by omega, _, rfl, .ref a, rfl, .ref b, rfl, _, rfl, _, rfl, a, b, one, other, jj, pl, rfl, s2 _ _ ea, s2 _ _ eb, lj, by omega, (show 4 ≤ sizeLine by decide), fun T nT => ?_⟩
      have sT := same_new (o := HO.tup [V.int (i : Int), V.int (gone one other i st), V.int (jj : Int), V.int (gone one other jj pl)]) nT
      refine ⟨_, sT _ _ eD, by rw [List.length_map]; exact small1000 (by omega), same_over (s2.trans sT) nD, bs ++ [T], by rw [upd_same, List.map_append]; rfl, by rw [List.length_append, lb]; rfl, fun k b n h1 h2 => ?_⟩
      have nTD : D ≠ T := ne_of_none eD nT
      have kD : ∀ x o, upd H3 T (.tup [V.int (i : Int), V.int (gone one other i st), V.int (jj : Int), V.int (gone one other jj pl)]) x = some (.tup o) → (upd (upd H3 T (.tup [V.int (i : Int), V.int (gone one other i st), V.int (jj : Int), V.int (gone one other jj pl)])) D (.lst (bs.map V.ref ++ [V.ref T]))) x = some (.tup o) := fun x o e => (Keep.upd (sT _ _ eD)).tup e
      rcases Nat.lt_or_ge k bs.length with c | c
      · rw [List.getElem?_append_left c] at h1
        exact kD _ _ (sT _ _ (fb k b n h1 h2))
      · have e0 : k = bs.length := by
          rcases Nat.lt_or_ge bs.length k with z | z
          · rw [List.getElem?_append_right c, List.getElem?_eq_none (by simp only [List.length_cons, List.length_nil]; omega)] at h1
            cases h1
          · omega
        subst e0
        rw [List.getElem?_append_right (Nat.le_refl _), Nat.sub_self] at h1
        cases h1
        rw [lb, ej] at h2
        cases h2
        rw [hn]
        exact kD _ _ upd_same
    · obtain ⟨s2, bs, eD, lb, fb⟩ := y
      rw [List.length_map, la] at lb
      have eL : bs.map V.ref = (bs.zip (nds.map fun n => (cnt one other n).toL)).map fun z => V.ref z.1 := by
        have : (bs.zip (nds.map fun n => (cnt one other n).toL)).map (fun z => V.ref z.1) = ((bs.zip (nds.map fun n => (cnt one other n).toL)).map Prod.fst).map V.ref := by rw [List.map_map]; rfl
        rw [this, List.map_fst_zip (by rw [List.length_map]; omega)]
      have hz : ∀ z ∈ bs.zip (nds.map fun n => (cnt one other n).toL), H2 z.1 = some (.tup (z.2.map V.int)) ∧ ∃ n ∈ nds, z.2 = (cnt one other n).toL := fun z hz => by
        obtain ⟨k, hk, ek⟩ := List.getElem_of_mem hz
        have hk' : k < bs.length ∧ k < nds.length := by
          rw [List.length_zip, List.length_map] at hk
          omega
        have eb' : bs[k]? = some z.1 := by
          rw [← ek, List.getElem_zip, List.getElem?_eq_getElem hk'.1]
        have en : z.2 = (cnt one other nds[k]).toL := by
          rw [← ek, List.getElem_zip, List.getElem_map]
        rw [en]
        exact ⟨fb k z.1 nds[k] eb' (List.getElem?_eq_getElem hk'.2), _, List.getElem_mem hk'.2, rfl⟩
      have hz2 : ∀ n ∈ nds, ∃ z ∈ bs.zip (nds.map fun n => (cnt one other n).toL), z.2 = (cnt one other n).toL := fun n hn => by
        obtain ⟨k, hk, ek⟩ := List.getElem_of_mem hn
        have hk' : k < (bs.zip (nds.map fun n => (cnt one other n).toL)).length := by
          rw [List.length_zip, List.length_map]
          omega
        exact ⟨_, List.getElem_mem hk', by rw [List.getElem_zip, List.getElem_map, ek]⟩
      have lz : (bs.zip (nds.map fun n => (cnt one other n).toL)).length = nds.length := by
        rw [List.length_zip, List.length_map]
        omega
      generalize bs.zip (nds.map fun n => (cnt one other n).toL) = L at eL hz hz2 lz
      rw [eL] at eD
      have bd : ∀ z ∈ L, z.2.length = 4 ∧ TS.Bd BB z.2 := fun z h => by
        obtain ⟨_, n, hn, e⟩ := hz z h
        rw [e]
        exact cnt_ok (ok n hn) l12 h1 h2
      refine ⟨D, L, rfl, .inl (.inl eD), fun z h => ⟨(hz z h).1, bd z h⟩, fun ys p' pm od np => ?_⟩
      obtain ⟨L', pL, rfl⟩ := pme pm L rfl
      have s3 := same_new (o := HO.lst (L'.map fun z => V.ref z.1)) np
      have mL : ∀ z, z ∈ L' ↔ z ∈ L := fun z => pL.mem_iff
      have toN : ∀ z ∈ L', (ofL z.2).toL = z.2 := fun z h => by
        obtain ⟨_, n, _, e⟩ := hz z ((mL z).mp h)
        rw [e, ofL_toL]
      refine q _ p' (L'.map fun z => ofL z.2) (s2.trans s3) ⟨L'.map (·.1), by rw [upd_same, List.map_map]; rfl, by rw [List.length_map, List.length_map], fun k a' c' e1 e2 => ?_⟩ ⟨fun c' => ⟨fun hc => ?_, fun ⟨n, hn, e⟩ => ?_⟩, ?_⟩ (by rw [List.length_map, pL.length_eq, lz]) (by
        rw [List.pairwise_map]
        rw [List.pairwise_map] at od
        refine od.imp_of_mem fun {u v} hu hv h => ?_
        have hc := h u ((mL u).mp hu) v ((mL v).mp hv) rfl rfl
        rw [toN u hu, toN v hv]
        exact hc)
      · rw [List.getElem?_map] at e1 e2
        cases ez : L'[k]? with
        | none =>
          rw [ez] at e1
          cases e1
        | some z =>
          rw [ez] at e1 e2
          cases e1
          cases e2
          have hm := List.mem_of_getElem? ez
          show _ = some (HO.tup ((ofL z.2).toL.map V.int))
          rw [toN z hm]
          exact s3 _ _ (hz z ((mL z).mp hm)).1
      · obtain ⟨z, h, rfl⟩ := List.mem_map.mp hc
        obtain ⟨_, n, hn, e⟩ := hz z ((mL z).mp h)
        exact ⟨n, hn, by rw [e, ofL_toL]⟩
      · obtain ⟨z, h, ez⟩ := hz2 n hn
        exact List.mem_map.mpr ⟨z, (mL z).mpr h, by rw [e, ez, ofL_toL]⟩
      · rw [List.pairwise_map]
        rw [List.pairwise_map] at od
        refine od.imp_of_mem fun {u v} hu hv h e => ?_
        have hc := h u ((mL u).mp hu) v ((mL v).mp hv) rfl rfl
        have bu := (bd u ((mL u).mp hu)).2
        have bv := (bd v ((mL v).mp hv)).2
        rw [← toN u hu] at hc bu
        rw [← toN v hv] at hc bv
        exact code_up bu bv hc e
end
end K49

set_option Elab.async false
set_option linter.all false
set_option maxRecDepth 100000
namespace K49
open PySem PySem.Spec PyProof.Rows L2 NB

/-! ### waves: the legs -/
theorem ndl {α : Type} [DecidableEq α] : ∀ {l m : List α}, l.Nodup → (∀ x ∈ l, x ∈ m) → l.length ≤ m.length
  | [], _, _, _ => Nat.zero_le _
  | a :: l, m, nd, h => by
    obtain ⟨na, nd'⟩ := List.nodup_cons.mp nd
    have ha := h a List.mem_cons_self
    have := ndl (l := l) (m := m.erase a) nd' fun x hx => (List.mem_erase_of_ne (fun e : x = a => na (by rw [← e]; exact hx))).mpr (h x (List.mem_cons_of_mem _ hx))
    rw [List.length_erase_of_mem ha] at this
    have pos : 0 < m.length := List.length_pos_of_mem ha
    rw [List.length_cons]
    omega
theorem asc_few {ls : List (Int × Int)} {cs : List ND} {f : ND → Int × Int} (a : Asc ls) (h : ∀ x ∈ ls, x = (0, 0) ∨ ∃ c ∈ cs, x = f c) : ls.length ≤ cs.length + 1 := by
  have nd : ls.Nodup := a.imp fun {x y} z e => by
    subst e
    omega
  have := ndl (m := (0, 0) :: cs.map f) nd fun x hx => by
    rcases h x hx with e | ⟨c, hc, e⟩
    · rw [e]
      exact List.mem_cons_self
    · rw [e]
      exact List.mem_cons_of_mem _ (List.mem_map.mpr ⟨c, hc, rfl⟩)
  simpa using this
theorem asc_nn {ls : List (Int × Int)} (a : Asc ls) (h : ∃ t, ls = (0, 0) :: t) : ∀ x ∈ ls, 0 ≤ x.2 := fun x hx => by
  obtain ⟨t, rfl⟩ := h
  rcases List.mem_cons.mp hx with rfl | hx
  · exact Int.le_refl _
  · have := (List.pairwise_cons.mp a).1 x hx
    exact Int.le_of_lt this.2
section
variable {one other : List Int}
theorem Goes.pre {nds : List ND} {h last : List Int} {rows : List (Nat × Int)} (G : Goes one other nds h rows last) : ∀ k, k < rows.length → ∃ m i e, rows[k]? = some (i, e) ∧ Goes one other nds h (rows.take k) m ∧ Safe one other nds m ∧ Within one other m ∧ i < one.length ∧ gn one other i (plc m i) ≤ gn one other i e ∧ gn one other i e ≤ gn one other i (endF one other nds m i) := by
  induction G with
  | nil => exact fun k hk => absurd hk (Nat.not_lt_zero _)
  | snoc g sf wi li ne h0 h1 ih =>
    rename_i m rows i e
    intro k hk
    rw [List.length_append, List.length_singleton] at hk
    rcases Nat.lt_or_ge k rows.length with c | c
    · obtain ⟨m', i', e', a, b⟩ := ih k c
      refine ⟨m', i', e', by rw [List.getElem?_append_left c]; exact a, ?_⟩
      rw [List.take_append_of_le_length (Nat.le_of_lt c)]
      exact b
    · have e0 : k = rows.length := by omega
      subst e0
      refine ⟨m, i, e, by rw [List.getElem?_append_right (Nat.le_refl _), Nat.sub_self]; rfl, ?_, sf, wi, li, h0, h1⟩
      rw [List.take_append_of_le_length (Nat.le_refl _), List.take_length]
      exact g
theorem RowI.pre {nds cs : List ND} (C : Cnts one other nds cs) {h : List Int} {L0 : Lgs} {i : Nat} {e : Int} (I : LegI one other cs h L0) (w0 : 0 ≤ gn one other i (plc h i)) (he : e ≤ gn one other i (endF one other nds h i)) :
    ∀ k, RowI one other cs h L0 i e (cs.take k) ((cs.take k).foldl (stepN i e) L0)
  | 0 => ⟨fun _ _ => rfl, ⟨[], (List.append_nil _).symm, fun _ z => absurd z List.not_mem_nil⟩, I.asc i, fun _ z => absurd z List.not_mem_nil⟩
  | k + 1 => by
    have ih := RowI.pre C I w0 he k
    cases ek : cs[k]? with
    | none =>
      rw [List.take_add_one, ek]
      simpa using ih
    | some c =>
      rw [List.take_add_one, ek, List.foldl_append]
      refine ih.step (rest := cs.drop (k + 1)) C I w0 he ?_
      obtain ⟨hk, e⟩ := List.getElem?_eq_some_iff.mp ek
      rw [← e, ← List.drop_eq_getElem_cons hk, List.take_append_drop]
/-- what is known of the legs at any time -/
structure LegB (cs : List ND) (L : Lgs) : Prop where
  hd : ∀ i, ∃ t, L i = (0, 0) :: t
  nn : ∀ i, ∀ x ∈ L i, 0 ≤ x.2
  few : ∀ i, (L i).length ≤ cs.length + 1
theorem LegI.b {cs : List ND} {h : List Int} {L : Lgs} (I : LegI one other cs h L) : LegB cs L :=
  ⟨I.hd, fun i => asc_nn (I.asc i) (I.hd i), fun i => asc_few (f := fun c => (c.s, cw (L c.j) c.p - c.s)) (I.asc i) fun x hx => (I.up i x hx).imp id fun ⟨c, hc, _, a, b, _⟩ => ⟨c, hc, by
    show x = (c.s, cw (L c.j) c.p - c.s)
    rw [a, ← b]⟩⟩
theorem RowI.b {cs done : List ND} {h : List Int} {L0 L : Lgs} {i : Nat} {e : Int} (sub : ∀ c ∈ done, c ∈ cs) (I : LegI one other cs h L0) (R : RowI one other cs h L0 i e done L) : LegB cs L := by
  obtain ⟨t, et, ht⟩ := R.ext
  have hd : ∃ t, L i = (0, 0) :: t := by
    obtain ⟨u, eu⟩ := I.hd i
    exact ⟨u ++ t, by rw [et, eu]; rfl⟩
  refine ⟨fun k => ?_, fun k => ?_, fun k => ?_⟩
  · by_cases c : k = i
    · rw [c]
      exact hd
    · rw [R.else' k c]
      exact I.hd k
  · by_cases c : k = i
    · rw [c]
      exact asc_nn R.asc hd
    · rw [R.else' k c]
      exact I.b.nn k
  · by_cases c : k = i
    · rw [c]
      refine asc_few (f := fun c => (c.s, cw (L0 c.j) c.p - c.s)) R.asc fun x hx => ?_
      rw [et] at hx
      rcases List.mem_append.mp hx with hx | hx
      · exact (I.up i x hx).imp id fun ⟨c, hc, _, a, b, _⟩ => ⟨c, hc, by
          show x = (c.s, cw (L0 c.j) c.p - c.s)
          rw [a, ← b]⟩
      · obtain ⟨_, _, c, hc, _, a, b, _⟩ := ht x hx
        exact .inr ⟨c, sub c hc, by
          show x = (c.s, cw (L0 c.j) c.p - c.s)
          rw [a, ← b]⟩
    · rw [R.else' k c]
      exact I.b.few k
end
/-- legs in memory -/
structure LgsAt (H : Hp) (l : Addr) (Rs : List Addr) (L : Lgs) (n : Nat) : Prop where
  eL : H l = some (.lst (Rs.map V.ref))
  len : Rs.length = n
  nd : Rs.Nodup
  nl : l ∉ Rs
  at' : ∀ (i : Nat) (R : Addr), Rs[i]? = some R → LegAt H R (L i)
theorem LgsAt.same {H H' : Hp} {l : Addr} {Rs : List Addr} {L : Lgs} {n : Nat} (h : LgsAt H l Rs L n) (s : Same H H') : LgsAt H' l Rs L n := ⟨s _ _ h.eL, h.len, h.nd, h.nl, fun i R e => (h.at' i R e).same s⟩
theorem LgsAt.app {H : Hp} {l : Addr} {Rs : List Addr} {L : Lgs} {n i : Nat} {R T : Addr} {as : List Addr} {x : Int × Int} (h : LgsAt H l Rs L n) (eR : Rs[i]? = some R) (el : H R = some (.lst (as.map V.ref))) (pl : PrL H as (L i)) (eT : H T = some (.tup [.int x.1, .int x.2])) :
    LgsAt (upd H R (.lst (as.map V.ref ++ [.ref T]))) l Rs (fun k => if k = i then L i ++ [x] else L k) n := by
  have k4 : Keep H (upd H R (.lst (as.map V.ref ++ [.ref T]))) := .upd el
  refine ⟨?_, h.len, h.nd, h.nl, fun j R' e => ?_⟩
  · rw [upd_ne (fun z : l = R => h.nl (by rw [z]; exact List.mem_of_getElem? eR))]
    exact h.eL
  · by_cases c : j = i
    · subst c
      rw [eR] at e
      cases e
      show LegAt _ _ (if j = j then L j ++ [x] else L j)
      rw [if_pos rfl]
      refine ⟨as ++ [T], by rw [upd_same, List.map_append]; rfl, by rw [List.length_append, List.length_append, pl.1]; rfl, fun k a y h1 h2 => ?_⟩
      rcases Nat.lt_or_ge k as.length with z | z
      · rw [List.getElem?_append_left z] at h1
        rw [List.getElem?_append_left (by have := pl.1; omega)] at h2
        exact k4.tup (pl.2 k a y h1 h2)
      · have e0 : k = as.length := by
          rcases Nat.lt_or_ge as.length k with z' | z'
          · rw [List.getElem?_append_right z, List.getElem?_eq_none (by simp only [List.length_cons, List.length_nil]; omega)] at h1
            cases h1
          · omega
        rw [e0, List.getElem?_append_right (Nat.le_refl _), Nat.sub_self] at h1
        rw [e0, List.getElem?_append_right (by have := pl.1; omega), show as.length - (L j).length = 0 by have := pl.1; omega] at h2
        cases h1
        cases h2
        exact k4.tup eT
    · show LegAt _ _ (if j = i then L i ++ [x] else L j)
      rw [if_neg c]
      have ne : R' ≠ R := fun z => c (by
        obtain ⟨li, ei⟩ := List.getElem?_eq_some_iff.mp e
        obtain ⟨lj, ej⟩ := List.getElem?_eq_some_iff.mp eR
        have pw := List.pairwise_iff_getElem.mp h.nd
        rcases Nat.lt_trichotomy j i with c | c | c
        · exact absurd (by rw [ei, ej, z]) (pw _ _ li lj c)
        · exact c
        · exact absurd (by rw [ei, ej, z]) (pw _ _ lj li c))
      obtain ⟨bs, eb, pb⟩ := h.at' j R' e
      exact ⟨bs, by rw [upd_ne ne]; exact eb, pb.1, fun k a y h1 h2 => k4.tup (pb.2 k a y h1 h2)⟩
theorem LgsAt.snoc {H : Hp} {D T R : Addr} {Rs : List Addr} {j : Nat} (h : LgsAt H D Rs (fun _ => [(0, 0)]) j) (nT : H T = none) (nR : upd H T (.tup [.int 0, .int 0]) R = none) :
    LgsAt (upd (upd (upd H T (.tup [.int 0, .int 0])) R (.lst [.ref T])) D (.lst (Rs.map V.ref ++ [.ref R]))) D (Rs ++ [R]) (fun _ => [(0, 0)]) (j + 1) := by
  have sT := same_new (o := HO.tup [V.int 0, V.int 0]) nT
  have sR := same_new (o := HO.lst [V.ref T]) nR
  have s := sT.trans sR
  have hs := h.same s
  have eT := sR _ _ (upd_same : (upd H T (.tup [.int 0, .int 0])) T = _)
  have nD : ∀ R' ∈ Rs ++ [R], R' ≠ D := fun R' m z => by
    rcases List.mem_append.mp m with m | m
    · exact h.nl (by rw [← z]; exact m)
    · rw [List.mem_singleton.mp m] at z
      have := sT _ _ h.eL
      rw [← z, nR] at this
      cases this
  have nw : R ∉ Rs := fun m => by
    obtain ⟨i, hi, e⟩ := List.getElem_of_mem m
    obtain ⟨as, ea, _⟩ := h.at' i R (by rw [List.getElem?_eq_getElem hi, e])
    have := sT _ _ ea
    rw [nR] at this
    cases this
  have eR : (upd (upd H T (.tup [.int 0, .int 0])) R (.lst [.ref T])) R = some (.lst [.ref T]) := upd_same
  have kD : Keep (upd (upd H T (.tup [.int 0, .int 0])) R (.lst [.ref T])) (upd (upd (upd H T (.tup [.int 0, .int 0])) R (.lst [.ref T])) D (.lst (Rs.map V.ref ++ [.ref R]))) := .upd hs.eL
  refine ⟨by rw [upd_same, List.map_append]; rfl, by rw [List.length_append, h.len]; rfl, ?_, fun m => absurd rfl (nD _ m), fun i R' e => ?_⟩
  · rw [List.nodup_append]
    refine ⟨h.nd, List.nodup_cons.mpr ⟨List.not_mem_nil, List.nodup_nil⟩, fun x hx y hy e => ?_⟩
    rw [List.mem_singleton.mp hy] at e
    exact nw (by rw [← e]; exact hx)
  · have ne := nD R' (List.mem_of_getElem? e)
    rcases Nat.lt_or_ge i Rs.length with c | c
    · rw [List.getElem?_append_left c] at e
      obtain ⟨bs, eb, pb⟩ := hs.at' i R' e
      exact ⟨bs, by rw [upd_ne ne]; exact eb, pb.1, fun k a y h1 h2 => kD.tup (pb.2 k a y h1 h2)⟩
    · have e0 : i = Rs.length := by
        rcases Nat.lt_or_ge Rs.length i with z | z
        · rw [List.getElem?_append_right c, List.getElem?_eq_none (by simp only [List.length_cons, List.length_nil]; omega)] at e
          cases e
        · omega
      rw [e0, List.getElem?_append_right (Nat.le_refl _), Nat.sub_self] at e
      cases e
      refine ⟨[T], by rw [upd_ne ne]; exact eR, rfl, fun k a y h1 h2 => ?_⟩
      cases k with
      | zero =>
        cases h1
        cases h2
        exact kD.tup eT
      | succ k => cases h1
section
variable {P : Program} {w : World} {K : PySem.W.Frag} {mg : Str → Option Value} {base : Heap}
/-- what earliest tells -/
structure Earl (one other : List Int) (rs : List Rl) (nds cs : List ND) (L : Lgs) : Prop where
  N : NdsOf one other rs nds
  C : Cnts one other nds cs
  few : cs.length < 64
  G : ∃ rows, Goes one other nds one rows other ∧ rows.length ≤ 80
  I : LegI one other cs other L
def preEa (K : PySem.W.Frag) (C : Addr) (H : Hp) (x a b : Addr) (tops one other : List Int) (rs : List Rl) : Prop := PlanAtK K C H x tops rs ∧ H a = some (.tup (one.map V.int)) ∧ H b = some (.tup (other.map V.int)) ∧ tops.length ≤ 12 ∧ Pl tops ∧ rs.length ≤ 40 ∧ (∀ q ∈ rs, RuleOk tops q) ∧ one.length = tops.length ∧ other.length = tops.length ∧ Sml one ∧ Sml other
def knEa (CK : Addr) (H : Hp) (one other : List Int) (rs : List Rl) (E : XK) : Prop := ∀ nds H' dd R L, NdsOf one other rs nds → Same H H' → H dd = none → H' R = some (.tup (lrefs L)) → NdsL H' L → RingAt one other nds (L.map (·.2)) → H' dd = some (.xd [("ring", .ref R)]) → E (.ref CK) (some dd) H'
def spEa (K : PySem.W.Frag) (C CK : Addr) : Sp := fun vs H Q E => ∃ (x a b : Addr) (tops one other : List Int) (rs : List Rl), vs = [.ref x, .ref a, .ref b] ∧ preEa K C H x a b tops one other rs ∧
  (∀ nds cs L H' l Rs, Earl one other rs nds cs L → Same H H' → H l = none → LgsAt H' l Rs L one.length → Q (.ref l) H') ∧ knEa CK H one other rs E
abbrev a_earliest : Stmt := topS 38
abbrev n_earliest : List Str := ["plan", "one", "other", "rows", "asked", "thing", "legs", "there", "i", "stop", "j", "many", "lag"]
theorem sc_earliest : FnScope n_earliest ["plan", "one", "other"] (defScope a_earliest) := ⟨rfl, rfl, rfl, by decide +kernel, rfl, by decide +kernel, by decide +kernel⟩
set_option maxHeartbeats 8000000 in
theorem ok_earliest {f fWr fNd fGo fCw fCo : Addr} {fd fdWr fdNd fdGo fdCw fdCo : FuncData} {k : Nat} {C CK : Addr} (F : Fun K "earliest" "earliest" a_earliest f fd) (Wr : KnX P w K mg base 6 "way_or_refusal" ["plan", "one", "other"] (spWr K C CK) fWr fdWr) (Nd : Kn P w K mg base 4 "needs" ["plan", "one", "other"] (spNeeds K C) fNd fdNd) (Go : Kn P w K mg base 1 "gone_at" ["one", "other", "thing", "place"] spGone fGo fdGo) (Cw : Kn P w K mg base 2 "comes_with" ["legs", "many"] spCw fCw fdCw) (Co : Kn P w K mg base 2 "counted" ["one", "other", "asked"] spCo fCo fdCo)   : FnOk P w K mg base (L2.CX P w) (k + 7) f fd ["plan", "one", "other"] (spEa K C CK) := by
  refine F.okX sc_earliest (fun vs H Q E h => ?_) (fun cdv A outer s H vs Q E hr h => ?_)
  · obtain ⟨x, a, b, tops, one, other, rs, rfl, _⟩ := h
    rfl
  · obtain ⟨x, a, b, tops, one, other, rs, rfl, ⟨hp, ea, eb, l12, pl, l31, rok, lo, lo', h1, h2⟩, q, qE⟩ := h
    refine ⟨_, (pss_cons (ps_set (i := 3) sc_earliest.nd rfl (.inl rfl) (pe_knP Wr hr (by omega) (takes_of rfl rfl rfl rfl) (pa_cons (pv 0) (pa_cons (pv 1) (pa_cons (pv 2) pa_nil)))))
      (pss_cons (ps_set (i := 4) sc_earliest.nd rfl (.inl rfl) (pe_kn Co hr (by omega) (pa_cons (pv 1) (pa_cons (pv 2) (pa_cons (pe_kn Nd hr (by omega) (pa_cons (pv 0) (pa_cons (pv 1) (pa_cons (pv 2) pa_nil)))) pa_nil)))))
      (pss_cons (ps_setLc (i := 6) (own := [("thing", 5)]) (g := (gName 5)) (tt := tYes) (te := (tLst (tCons (tTup (tCons (tC (.int 0)) (tCons (tC (.int 0)) tNil))) tNil))) rfl sc_earliest.nd rfl rfl (sw_true rfl rfl rfl (by decide +kernel)) (pi_tup (pv 1)) (blkOk_by (N := n_earliest) (sc := defScope a_earliest) (by decide +kernel))
          (fun _ _ _ _ _ => (pg_name (i := 5) sc_earliest.nd rfl (.inl rfl) (hf := .inr rfl))) (fun _ _ _ _ _ => pts_nil) (fun _ _ _ _ _ => (pe_lst (pa_cons (pe_tup (pa_cons pe_int (pa_cons pe_int pa_nil))) pa_nil))))
      (pss_cons (ps_for (passes_of rfl) rfl (pi_tup (pv 3)) (pg_tup rfl (pgs_cons (pg_name (i := 5) sc_earliest.nd rfl (.inl rfl)) (pgs_cons (pg_name (i := 7) sc_earliest.nd rfl (.inl rfl)) pgs_nil)))
        (pss_one (ps_for (passes_of rfl) rfl (pi_list (pv 4)) (pg_tup rfl (pgs_cons (pg_name (i := 8) sc_earliest.nd rfl (.inl rfl)) (pgs_cons (pg_name (i := 9) sc_earliest.nd rfl (.inl rfl)) (pgs_cons (pg_name (i := 10) sc_earliest.nd rfl (.inl rfl)) (pgs_cons (pg_name (i := 11) sc_earliest.nd rfl (.inl rfl)) pgs_nil)))))
        (pss_one (ps_if (PW.pt (pw_and (pt_cmpR op_eq (pv 8) (pv 5) (nomark _)) (pw_and1 (pt_cmpR op_lt (pv 9) (pe_kn Go hr (by omega) (pa_cons (pv 1) (pa_cons (pv 2) (pa_cons (pv 5) (pa_cons (pv 7) pa_nil))))) (nomark _))))) (pss_cons (ps_set (i := 12) sc_earliest.nd rfl (.inl rfl) (pe_op op_sub (pe_kn Cw hr (by omega) (pa_cons (pe_ix ix_list (pv 6) (pv 10) (fun _ _ => rfl)) (pa_cons (pv 11) pa_nil))) (pv 9)))
      (pss_one (ps_if (pt_cmpR op_gt (pv 12) (pe_ix ix_tup (pe_ix ix_list (pe_ix ix_list (pv 6) (pv 5) (fun _ _ => rfl)) (pe_un un_neg pe_int) (fun _ _ => rfl)) pe_int (fun _ _ => rfl)) (nomark _)) (pss_one (ps_expr (pe_bm PySem.F.plainAttrs_list PySem.F.slot_list_append PySem.F.type_list_append mt_append (pe_ix ix_list (pv 6) (pv 5) (fun _ _ => rfl)) (pa_cons (pe_tup (pa_cons (pv 9) (pa_cons (pv 12) pa_nil))) pa_nil)))) pss_nil))) pss_nil)))))
      (pss_one (ps_ret (pv 6))))))), ?_⟩
    refine ⟨.ref x, rfl, .ref a, rfl, .ref b, rfl, x, a, b, tops, one, other, rs, rfl, hp, ea, eb, l12, pl, l31, rok, lo, lo', fun nds H1 R rws N s1 hR Am => ?_, fun nds H1 dd R L N s1 nd eR hL rg ed => qE nds H1 dd R L N s1 nd eR hL rg ed⟩
    have l100 : nds.length < 64 := by
      have := N.is.few
      rwa [List.length_map] at this
    refine ⟨_, rfl, _, rfl, .ref x, rfl, .ref a, rfl, .ref b, rfl, x, a, b, tops, one, other, rs, rfl, hp.keep (.same s1), s1 _ _ ea, s1 _ _ eb, l12, pl, l31, rok, lo, lo', fun H2 p ns s2 np hn In => ?_⟩
    have e2 : ns = nds.map ND.toL := IsNeeds.one l12 pl rok In N.is
    subst e2
    have s02 := s1.trans s2
    refine ⟨a, b, p, one, other, nds, rfl, s02 _ _ ea, s02 _ _ eb, hn.asked, N.ok, by omega, by omega, h1, h2, by omega, fun H3 lc cs s3 hC C lcs _ => ?_⟩
    have s03 := s02.trans s3
    refine ⟨_, rfl, a, rfl, ⟨_, .inl (.inl (s03 _ _ ea))⟩, fun D nD => lc_it (walk_tup (xs := one.map V.int)) (fun j H' => Same H3 H' ∧ ∃ Rs : List Addr, LgsAt H' D Rs (fun _ => [(0, 0)]) j ∧ ∀ R ∈ Rs, H3 R = none) ⟨same_new nD, [], ⟨upd_same, rfl, List.nodup_nil, List.not_mem_nil, fun i R e => by simp at e⟩, fun _ z => absurd z List.not_mem_nil⟩ (fun j H' _ y => .inl (.inl (y.1 _ _ (s03 _ _ ea)))) (fun j v H4 H5 hj y z => ?_) (fun H4 y => ?_)⟩
    · obtain ⟨s4, Rs, hL, nR⟩ := y
      obtain ⟨rfl, gv⟩ := z
      have hj' : j < one.length := by simpa using hj
      refine ⟨wipe_one, (show 2 ≤ sizeLine by decide), fun T nT => ⟨(show 1 ≤ sizeLine by decide), fun R' nR' => ?_⟩⟩
      have sT := same_new (o := HO.tup [V.int 0, V.int 0]) nT
      have sR := same_new (o := HO.lst [V.ref T]) nR'
      refine ⟨_, (sT.trans sR) _ _ hL.eL, by rw [List.length_map, hL.len]; exact small1000 (by omega), same_over (s4.trans (sT.trans sR)) nD, _, hL.snoc nT nR', fun R m => ?_⟩
      rcases List.mem_append.mp m with m | m
      · exact nR R m
      · rw [List.mem_singleton.mp m]
        exact s4.free (sT.free nR')
    · obtain ⟨s4, Rs, hL, nR⟩ := y
      rw [List.length_map] at hL
      obtain ⟨as, eR, lR, fR⟩ := hR
      obtain ⟨cas, eC, lC, fC⟩ := hC
      have eR3 := s3 _ _ (s2 _ _ eR)
      refine ⟨_, rfl, R, rfl, ⟨_, .inl (.inl (s4 _ _ eR3))⟩, for_it (walk_tup (xs := as.map V.ref)) (fun k σ H' => (∃ u5 u7 u8 u9 u10 u11 u12, σ = [some (.ref x), some (.ref a), some (.ref b), some (.ref R), some (.ref lc), u5, some (.ref D), u7, u8, u9, u10, u11, u12]) ∧ Same H3 H' ∧ LgsAt H' D Rs (earl cs ((rws.take k).map (crow one other))) one.length) ⟨⟨_, _, _, _, _, _, _, rfl⟩, s4, hL⟩ (fun k σ H' _ y => .inl (.inl (y.2.1 _ _ eR3))) (fun k v σ H5 H6 hk y z => ?_) (fun σ H5 y => ?_)⟩
      · obtain ⟨⟨u5, u7, u8, u9, u10, u11, u12, rfl⟩, s5, hL5⟩ := y
        obtain ⟨rfl, gv⟩ := z
        obtain ⟨r, er, rfl⟩ := mapGet gv
        have hk' : k < rws.length := by rw [← lR]; simpa using hk
        obtain ⟨m, i, e, ek, Gk, sf, wi, li, g0, g1⟩ := Am.go.pre k hk'
        have er6 := s5 _ _ (s3 _ _ (s2 _ _ (fR k r _ er ek)))
        have Ik := LegI.goes N.ok C Gk
        have w0 := (wi.2 i li).1
        have ekk : earl cs ((rws.take (k + 1)).map (crow one other)) = stepW cs (earl cs ((rws.take k).map (crow one other))) (i, gn one other i e) := by
          rw [List.take_add_one, ek, List.map_append]
          unfold earl
          rw [List.foldl_append]
          rfl
        rw [ekk]
        generalize earl cs ((rws.take k).map (crow one other)) = L0 at hL5 Ik
        refine ⟨r, _, rfl, .inl (.inl er6), rfl, _, _, rfl, _, _, rfl, rfl, ?_⟩
        have eC5 := s5 _ _ eC
        have inC : ∀ c ∈ cs, c.j < one.length := fun c hc => by
          obtain ⟨n, hn, rfl⟩ := (C.mem c).mp hc
          exact (N.ok n hn).lj
        refine ⟨_, rfl, lc, rfl, ⟨_, .inl (.inl eC5)⟩, for_it (walk_list (xs := cas.map V.ref)) (fun j σ H' => (∃ u8 u9 u10 u11 u12, σ = [some (.ref x), some (.ref a), some (.ref b), some (.ref R), some (.ref lc), some (.int (i : Int)), some (.ref D), some (.int e), u8, u9, u10, u11, u12]) ∧ Same H3 H' ∧ LgsAt H' D Rs ((cs.take j).foldl (stepN i (gn one other i e)) L0) one.length) ⟨⟨_, _, _, _, _, rfl⟩, s5, hL5⟩ (fun j σ H' _ y => .inl (.inl (y.2.1 _ _ eC))) (fun j v σ H7 H8 hj y z => ?_) (fun σ H7 y => ?_)⟩
        · obtain ⟨⟨u8, u9, u10, u11, u12, rfl⟩, s7, hL7⟩ := y
          obtain ⟨rfl, gv⟩ := z
          obtain ⟨rc, erc, rfl⟩ := mapGet gv
          have hj' : j < cs.length := by rw [← lC]; simpa using hj
          have ej : cs[j]? = some cs[j] := List.getElem?_eq_getElem hj'
          have mj := List.getElem_mem hj'
          have er8 := s7 _ _ (fC j rc _ erc ej)
          have lcj := inC _ mj
          have RI := RowI.pre C Ik w0 g1 j
          have B := RI.b (fun c hc => List.mem_of_mem_take hc) Ik
          have tk : (cs.take (j + 1)).foldl (stepN i (gn one other i e)) L0 = stepN i (gn one other i e) ((cs.take j).foldl (stepN i (gn one other i e)) L0) cs[j] := by
            rw [List.take_add_one, ej, List.foldl_append]
            rfl
          rw [tk]
          generalize (cs.take j).foldl (stepN i (gn one other i e)) L0 = L1 at hL7 B
          rcases hn : cs[j] with ⟨ci, cst, cj, cp⟩
          rw [hn] at lcj
          have er9 : H8 rc = some (.tup [.int (ci : Int), .int cst, .int (cj : Int), .int cp]) := by
            have := er8
            rw [hn] at this
            exact this
          have lcj' : cj < one.length := lcj
          refine ⟨rc, _, rfl, .inl (.inl er9), rfl, _, _, rfl, _, _, rfl, _, _, rfl, _, _, rfl, rfl, ?_⟩
          refine ⟨_, rfl, _, rfl, rfl, _, rfl, ite2 (fun c => ?_) (fun c => ?_)⟩
          · have ce : ci = i := by
              have := of_decide_eq_true c
              injection this with h
              exact Int.ofNat.inj h
            subst ce
            refine ⟨_, rfl, .ref a, rfl, .ref b, rfl, _, rfl, _, rfl, a, b, one, other, ci, e, rfl, s7 _ _ (s03 _ _ ea), s7 _ _ (s03 _ _ eb), li, by omega, _, _, rfl, rfl, _, rfl, ite2 (fun c2 => ?_) (fun c2 => ?_)⟩
            · have lRj : cj < Rs.length := by rw [hL7.len]; exact lcj'
              have lRi : ci < Rs.length := by rw [hL7.len]; exact li
              have eRj : Rs[cj]? = some Rs[cj] := List.getElem?_eq_getElem lRj
              have eRi : Rs[ci]? = some Rs[ci] := List.getElem?_eq_getElem lRi
              refine ⟨_, rfl, _, rfl, D, _, cj, _, rfl, rfl, .inl (.inl hL7.eL), atI_nat (by rw [List.getElem?_map, eRj]; rfl), _, rfl, _, cp, L1 cj, rfl, hL7.at' cj _ eRj, by have := B.few cj; have := C; omega, B.nn cj, fun H9 s9 => ?_⟩
              have s79 := s7.trans s9
              have hL9 := hL7.same s9
              refine ⟨_, rfl, _, _, rfl, rfl, _, rfl, ?_⟩
              obtain ⟨las, el, hla⟩ := hL9.at' ci _ eRi
              obtain ⟨lt, ly, ee⟩ : ∃ t y, L1 ci = t ++ [y] := by
                obtain ⟨u, eu⟩ := B.hd ci
                rcases List.eq_nil_or_concat (L1 ci) with z | ⟨t, y, e⟩
                · rw [z] at eu
                  cases eu
                · exact ⟨t, y, by rw [e, List.concat_eq_append]⟩
              obtain ⟨lat, lay, eel⟩ : ∃ t y, las = t ++ [y] := by
                rcases List.eq_nil_or_concat las with z | ⟨t, y, e⟩
                · have := hla.1
                  rw [z, ee, List.length_append] at this
                  simp at this
                · exact ⟨t, y, by rw [e, List.concat_eq_append]⟩
              have lll : lat.length = lt.length := by
                have := hla.1
                rw [eel, ee, List.length_append, List.length_append] at this
                simpa using this
              have ey : H9 lay = some (.tup [.int ly.1, .int ly.2]) := hla.2 lat.length lay ly (by rw [eel, List.getElem?_append_right (Nat.le_refl _), Nat.sub_self]; rfl) (by rw [ee, lll, List.getElem?_append_right (Nat.le_refl _), Nat.sub_self]; rfl)
              have lg : lastLag (L1 ci) = ly.2 := by rw [ee, lastLag_app]
              have el' : H9 Rs[ci] = some (.lst (lat.map V.ref ++ [.ref lay])) := by
                rw [el, eel, List.map_append]
                rfl
              refine ⟨_, rfl, _, rfl, D, _, ci, _, rfl, rfl, .inl (.inl hL9.eL), atI_nat (by rw [List.getElem?_map, eRi]; rfl), 1, rfl, _, _, -1, _, rfl, rfl, .inl (.inl el'), atI_last _ _, lay, _, 1, _, rfl, rfl, .inl (.inl ey), atI_nat (j := 1) rfl, _, _, rfl, rfl, _, rfl, ite2 (fun c3 => ?_) (fun c3 => ?_)⟩
              · have c3' : ly.2 < cw (L1 cj) cp - cst := of_decide_eq_true c3
                have nRi : H3 Rs[ci] = none := nR _ (List.getElem_mem lRi)
                refine ⟨_, rfl, _, rfl, D, _, ci, .ref Rs[ci], rfl, rfl, .inl (.inl hL9.eL), atI_nat (by rw [List.getElem?_map, eRi]; rfl), .inl ⟨rfl, _, .inl (.inl el)⟩, _, rfl, _, rfl, (show 2 ≤ sizeLine by decide), fun T nT => ?_⟩
                have sT := same_new (o := HO.tup [V.int cst, V.int (cw (L1 cj) cp - cst)]) nT
                have hLT := hL9.same sT
                have few := B.few ci
                refine ⟨_, _, _, rfl, rfl, sT _ _ el, by rw [List.length_map, hla.1]; exact small1000 (by omega), ⟨_, _, _, _, _, rfl⟩, same_over ((s79.trans sT)) nRi, ?_⟩
                rw [show stepN ci (gn one other ci e) L1 ⟨ci, cst, cj, cp⟩ = (fun k => if k = ci then L1 ci ++ [(cst, cw (L1 cj) cp - cst)] else L1 k) from if_pos ⟨rfl, of_decide_eq_true c2, by rw [lg]; exact c3'⟩]
                exact hLT.app eRi (sT _ _ el) (hla.same sT) upd_same
              · rw [show stepN ci (gn one other ci e) L1 ⟨ci, cst, cj, cp⟩ = L1 from if_neg fun z => c3 (decide_eq_true (by rw [← lg]; exact z.2.2))]
                exact ⟨⟨_, _, _, _, _, rfl⟩, s79, hL9⟩
            · rw [show stepN ci (gn one other ci e) L1 ⟨ci, cst, cj, cp⟩ = L1 from if_neg fun z => c2 (decide_eq_true z.2.1)]
              exact ⟨⟨_, _, _, _, _, rfl⟩, s7, hL7⟩
          · rw [show stepN i (gn one other i e) L1 ⟨ci, cst, cj, cp⟩ = L1 from if_neg fun z => c (decide_eq_true (by rw [show ci = i from z.1]))]
            exact ⟨⟨_, _, _, _, _, rfl⟩, s7, hL7⟩
        · obtain ⟨⟨u8, u9, u10, u11, u12, rfl⟩, s7, hL7⟩ := y
          rw [List.length_map, lC, List.take_length] at hL7
          exact ⟨⟨_, _, _, _, _, _, _, rfl⟩, s7, hL7⟩
      · obtain ⟨⟨u5, u7, u8, u9, u10, u11, u12, rfl⟩, s5, hL5⟩ := y
        rw [List.length_map, lR, List.take_length] at hL5
        exact ⟨_, rfl, q nds cs _ H5 D Rs ⟨N, C, by omega, ⟨_, Am.go, by have := Am.few; omega⟩, LegI.goes N.ok C Am.go⟩ (s03.trans s5) (s03.free nD) hL5⟩
end
end K49

set_option Elab.async false
set_option linter.all false
set_option maxRecDepth 100000
namespace K49
open PySem PySem.Spec PyProof.Rows L2 NB

/-! ### waves: how many, and when -/
/-- how many waves there are -/
def IsMany (one other : List Int) (L : Lgs) (m : Int) : Prop := (∃ i, i < one.length ∧ m = cw (L i) (tot one other i)) ∧ ∀ i, i < one.length → cw (L i) (tot one other i) ≤ m
theorem IsMany.one {one other : List Int} {L : Lgs} {m m' : Int} (a : IsMany one other L m) (b : IsMany one other L m') : m = m' := by
  obtain ⟨⟨i, hi, ei⟩, ha⟩ := a
  obtain ⟨⟨j, hj, ej⟩, hb⟩ := b
  have h1 := ha j hj
  have h2 := hb i hi
  omega
section
variable {P : Program} {w : World} {K : PySem.W.Frag} {mg : Str → Option Value} {base : Heap}
def spAs : Sp := fun vs H Q _ => ∃ (a b : Addr) (one other : List Int) (i : Nat), vs = [.ref a, .ref b, .int i] ∧ H a = some (.tup (one.map V.int)) ∧ H b = some (.tup (other.map V.int)) ∧ i < one.length ∧ i < other.length ∧ Q (.int (tot one other i)) H
abbrev a_all_steps : Stmt := topS 17
abbrev n_all_steps : List Str := ["one", "other", "thing"]
theorem sc_all_steps : FnScope n_all_steps ["one", "other", "thing"] (defScope a_all_steps) := ⟨rfl, rfl, rfl, by decide +kernel, rfl, by decide +kernel, by decide +kernel⟩
set_option maxHeartbeats 8000000 in
theorem ok_all_steps {f  : Addr} {fd  : FuncData} {k : Nat}  (F : Fun K "all_steps" "all_steps" a_all_steps f fd)   (m_abs : mg "abs" = none) : FnOk P w K mg base CX0 (k + 1) f fd ["one", "other", "thing"] spAs := by
  refine F.ok sc_all_steps (fun vs H Q E h => ?_) (fun cdv A outer s H vs Q E hr h => ?_)
  · obtain ⟨a, b, one, other, i, rfl, _⟩ := h
    rfl
  · obtain ⟨a, b, one, other, i, rfl, ea, eb, la, lb, q⟩ := h
    refine ⟨_, (pss_one (ps_ret (pe_callB call_abs (by rfl) m_abs (by decide +kernel) (pa_cons (pe_op op_sub (pe_ix ix_tup (pv 1) (pv 2) (fun _ _ => rfl)) (pe_ix ix_tup (pv 0) (pv 2) (fun _ _ => rfl))) pa_nil)))), ?_⟩
    have e : ((other[i] - one[i]).natAbs : Int) = tot one other i := by
      rw [tot_eq, List.getD_eq_getElem?_getD, List.getD_eq_getElem?_getD, List.getElem?_eq_getElem la, List.getElem?_eq_getElem lb]
      rfl
    refine ⟨.ref b, rfl, .int i, rfl, b, _, i, _, rfl, rfl, .inl (.inl eb), at_int lb, .ref a, rfl, .int i, rfl, a, _, i, _, rfl, rfl, .inl (.inl ea), at_int la, _, _, rfl, rfl, ?_⟩
    have e2 : (if (other[i] - one[i]) < 0 then -(other[i] - one[i]) else (other[i] - one[i])) = tot one other i := by
      rw [← e]
      split <;> omega
    refine ⟨_, rfl, ?_⟩
    rw [e2]
    exact q
def spWv (K : PySem.W.Frag) (C CK : Addr) : Sp := fun vs H Q E => ∃ (x a b : Addr) (tops one other : List Int) (rs : List Rl), vs = [.ref x, .ref a, .ref b] ∧ preEa K C H x a b tops one other rs ∧ 0 < one.length ∧
  (∀ nds cs L H' m, Earl one other rs nds cs L → Same H H' → IsMany one other L m → Q (.int m) H') ∧ knEa CK H one other rs E
def spWf (K : PySem.W.Frag) (C CK : Addr) : Sp := fun vs H Q E => ∃ (x a b : Addr) (tops one other : List Int) (rs : List Rl) (i : Nat) (p : Int), vs = [.ref x, .ref a, .ref b, .int i, .int p] ∧ preEa K C H x a b tops one other rs ∧ i < one.length ∧
  (∀ nds cs L H', Earl one other rs nds cs L → Same H H' → Q (.int (cw (L i) (gn one other i p))) H') ∧ knEa CK H one other rs E
end
end K49

set_option Elab.async false
set_option linter.all false
set_option maxRecDepth 100000
namespace K49
open PySem PySem.Spec PyProof.Rows L2 NB

/-! ### places gone to -/
def paf (one other : List Int) (i : Nat) (m : Int) : Int := if other.getD i 0 < one.getD i 0 then one.getD i 0 - m else one.getD i 0 + m
def RnL (H : Hp) (as : List Addr) (rs : List (List Int)) : Prop := as.length = rs.length ∧ ∀ (k : Nat) (a : Addr) (r : List Int), as[k]? = some a → rs[k]? = some r → H a = some (.tup (r.map V.int))
theorem RnL.same {H H' : Hp} {as : List Addr} {rs : List (List Int)} (h : RnL H as rs) (s : Same H H') : RnL H' as rs := ⟨h.1, fun k a r h1 h2 => s _ _ (h.2 k a r h1 h2)⟩
theorem RnL.keep {H H' : Hp} {as : List Addr} {rs : List (List Int)} (h : RnL H as rs) (s : Keep H H') : RnL H' as rs := ⟨h.1, fun k a r h1 h2 => s.tup (h.2 k a r h1 h2)⟩
theorem RnL.nil (H : Hp) : RnL H [] [] := ⟨rfl, fun k a r h => by simp at h⟩
theorem RnL.app {H : Hp} {as bs : List Addr} {rs qs : List (List Int)} (h : RnL H as rs) (g : RnL H bs qs) : RnL H (as ++ bs) (rs ++ qs) := by
  refine ⟨by rw [List.length_append, List.length_append, h.1, g.1], fun k a r h1 h2 => ?_⟩
  rcases Nat.lt_or_ge k as.length with c | c
  · rw [List.getElem?_append_left c] at h1
    rw [List.getElem?_append_left (by have := h.1; omega)] at h2
    exact h.2 k a r h1 h2
  · rw [List.getElem?_append_right c] at h1
    rw [List.getElem?_append_right (by have := h.1; omega), ← h.1] at h2
    exact g.2 _ a r h1 h2
theorem RnL.single {H : Hp} {a : Addr} {r : List Int} (h : H a = some (.tup (r.map V.int))) : RnL H [a] [r] := ⟨rfl, fun k b q h1 h2 => by
  cases k with
  | zero =>
    cases h1
    cases h2
    exact h
  | succ k => cases h1⟩
def RunsAt (H : Hp) (p : Addr) (rl : List (List Int)) : Prop := ∃ as : List Addr, H p = some (.tup (as.map V.ref)) ∧ RnL H as rl
section
variable {P : Program} {w : World} {K : PySem.W.Frag} {mg : Str → Option Value} {base : Heap}
def spPa : Sp := fun vs H Q _ => ∃ (a b : Addr) (one other : List Int) (i : Nat) (m : Int), vs = [.ref a, .ref b, .int i, .int m] ∧ H a = some (.tup (one.map V.int)) ∧ H b = some (.tup (other.map V.int)) ∧ i < one.length ∧ i < other.length ∧ Q (.int (paf one other i m)) H
abbrev a_place_after : Stmt := topS 16
abbrev n_place_after : List Str := ["one", "other", "thing", "many"]
theorem sc_place_after : FnScope n_place_after ["one", "other", "thing", "many"] (defScope a_place_after) := ⟨rfl, rfl, rfl, by decide +kernel, rfl, by decide +kernel, by decide +kernel⟩
set_option maxHeartbeats 8000000 in
theorem ok_place_after {f  : Addr} {fd  : FuncData} {k : Nat}  (F : Fun K "place_after" "place_after" a_place_after f fd)    : FnOk P w K mg base CX0 (k + 1) f fd ["one", "other", "thing", "many"] spPa := by
  refine F.ok sc_place_after (fun vs H Q E h => ?_) (fun cdv A outer s H vs Q E hr h => ?_)
  · obtain ⟨a, b, one, other, i, m, rfl, _⟩ := h
    rfl
  · obtain ⟨a, b, one, other, i, m, rfl, ea, eb, la, lb, q⟩ := h
    refine ⟨_, (pss_cons (ps_if (pt_cmpR op_lt (pe_ix ix_tup (pv 1) (pv 2) (fun _ _ => rfl)) (pe_ix ix_tup (pv 0) (pv 2) (fun _ _ => rfl)) (nomark _)) (pss_one (ps_ret (pe_op op_sub (pe_ix ix_tup (pv 0) (pv 2) (fun _ _ => rfl)) (pv 3)))) pss_nil)
      (pss_one (ps_ret (pe_op op_add (pe_ix ix_tup (pv 0) (pv 2) (fun _ _ => rfl)) (pv 3))))), ?_⟩
    have ga : atI (one.map V.int) (i : Int) = some (.int one[i]) := at_int la
    have gb : atI (other.map V.int) (i : Int) = some (.int other[i]) := at_int lb
    unfold paf at q
    rw [List.getD_eq_getElem?_getD, List.getD_eq_getElem?_getD, List.getElem?_eq_getElem la, List.getElem?_eq_getElem lb] at q
    simp only [Option.getD_some] at q
    refine ⟨.ref b, rfl, .int i, rfl, b, _, i, _, rfl, rfl, .inl (.inl eb), gb, .ref a, rfl, .int i, rfl, a, _, i, _, rfl, rfl, .inl (.inl ea), ga, _, _, rfl, rfl, _, rfl, ite2 (fun c => ?_) (fun c => ?_)⟩
    · rw [if_pos (of_decide_eq_true c)] at q
      exact ⟨.ref a, rfl, .int i, rfl, a, _, i, _, rfl, rfl, .inl (.inl ea), ga, .int m, rfl, _, m, rfl, rfl, q⟩
    · rw [if_neg (fun z => c (decide_eq_true z))] at q
      exact ⟨.ref a, rfl, .int i, rfl, a, _, i, _, rfl, rfl, .inl (.inl ea), ga, .int m, rfl, _, m, rfl, rfl, q⟩
end

/-! ### waits: the mathematics -/
theorem gn_paf {one other : List Int} (i : Nat) (m : Int) : gn one other i (paf one other i m) = m := by
  unfold gn gone paf
  split <;> omega
/-- the last leg begun before so many steps -/
structure LastLeg (ls : List (Int × Int)) (m : Int) (x : Int × Int) : Prop where
  mem : x ∈ ls
  lt : x.1 < m
  top : ∀ y ∈ ls, y.1 < m → y.1 ≤ x.1 ∧ y.2 ≤ x.2
theorem last_leg {ls : List (Int × Int)} (a : Asc ls) {m : Int} {x : Int × Int} (h : (ls.filter fun x => decide (x.1 < m)).getLast? = some x) : LastLeg ls m x := by
  have hm := List.mem_of_getLast? h
  obtain ⟨h1, h2⟩ := List.mem_filter.mp hm
  refine ⟨h1, of_decide_eq_true h2, fun y hy lt => ?_⟩
  have hy' : y ∈ ls.filter fun x => decide (x.1 < m) := List.mem_filter.mpr ⟨hy, decide_eq_true lt⟩
  have a' := a.sublist (List.filter_sublist (p := fun x => decide (x.1 < m)))
  obtain ⟨ini, e⟩ : ∃ ini, (ls.filter fun x => decide (x.1 < m)) = ini ++ [x] := by
    rcases List.eq_nil_or_concat (ls.filter fun x => decide (x.1 < m)) with z | ⟨ini, z, ez⟩
    · rw [z] at hm
      exact absurd hm List.not_mem_nil
    · rw [List.concat_eq_append] at ez
      rw [ez, List.getLast?_append] at h
      cases h
      exact ⟨ini, ez⟩
  rw [e] at hy' a'
  rcases List.mem_append.mp hy' with z | z
  · have := (List.pairwise_append.mp a').2.2 y z x (List.mem_singleton.mpr rfl)
    exact ⟨this.1, Int.le_of_lt this.2⟩
  · rw [List.mem_singleton.mp z]
    exact ⟨Int.le_refl _, Int.le_refl _⟩
theorem LastLeg.cw {ls : List (Int × Int)} {m : Int} {x : Int × Int} (l : LastLeg ls m x) (nn : ∀ y ∈ ls, 0 ≤ y.2) : K49.cw ls m = m + x.2 := by
  refine Int.le_antisymm ?_ (cw_leg l.mem l.lt)
  rcases cw_at ls m with e | ⟨y, hy, lt, e⟩
  · have := nn x l.mem
    omega
  · have := (l.top y hy lt).2
    omega
theorem LastLeg.one {ls : List (Int × Int)} {m : Int} {x y : Int × Int} (a : LastLeg ls m x) (b : LastLeg ls m y) : x = y := by
  have h1 := a.top y b.mem b.lt
  have h2 := b.top x a.mem a.lt
  exact Prod.ext (by omega) (by omega)
/-- the first of the needs that hold a leg -/
structure Held (cs : List ND) (L : Lgs) (i : Nat) (b W : Int) (c : ND) : Prop where
  mem : c ∈ cs
  i' : c.i = i
  s' : c.s = b
  w : cw (L c.j) c.p = W
  least : ∀ d ∈ cs, d.i = i → d.s = b → cw (L d.j) d.p = W → TS.code BB c.toL ≤ TS.code BB d.toL
/-- a chain of waits, from its end on -/
inductive WCh (cs : List ND) (L : Lgs) : Nat → Int → List (Nat × Int × Int) → Prop
  | stop {i : Nat} {m : Int} {x : Int × Int} : LastLeg (L i) m x → x.1 + x.2 = 0 → WCh cs L i m [(i, x.1, m)]
  | step {i : Nat} {m : Int} {x : Int × Int} {c : ND} {r : List (Nat × Int × Int)} : LastLeg (L i) m x → 0 < x.1 + x.2 → Held cs L i x.1 (x.1 + x.2) c → WCh cs L c.j c.p r → WCh cs L i m ((i, x.1, m) :: r)
def wSum (ch : List (Nat × Int × Int)) : Int := (ch.map fun z => z.2.2 - z.2.1).sum
theorem WCh.sum {cs : List ND} {L : Lgs} (nn : ∀ i, ∀ y ∈ L i, 0 ≤ y.2) {i : Nat} {m : Int} {ch : List (Nat × Int × Int)} (h : WCh cs L i m ch) : wSum ch = cw (L i) m := by
  induction h with
  | stop l e =>
    rename_i i m x
    rw [l.cw (nn i)]
    show (m - x.1) + 0 = _
    omega
  | step l p hd _ ih =>
    rename_i i m x c r _
    rw [l.cw (nn i)]
    show (m - x.1) + wSum r = _
    rw [ih, hd.w]
    omega
theorem WCh.hd {cs : List ND} {L : Lgs} {i : Nat} {m : Int} {ch : List (Nat × Int × Int)} (h : WCh cs L i m ch) : ∃ x r, LastLeg (L i) m x ∧ ch = (i, x.1, m) :: r := by
  cases h with
  | stop l e => exact ⟨_, _, l, rfl⟩
  | step l p hd h => exact ⟨_, _, l, rfl⟩
theorem WCh.ne {cs : List ND} {L : Lgs} {i : Nat} {m : Int} {ch : List (Nat × Int × Int)} (h : WCh cs L i m ch) : ch ≠ [] := by
  obtain ⟨x, r, _, e⟩ := h.hd
  rw [e]
  exact List.cons_ne_nil _ _
/-- each is a stretch of its thing's way -/
theorem WCh.rng {one other : List Int} {cs : List ND} {L : Lgs} (ok : ∀ c ∈ cs, c.j < one.length ∧ 0 < c.p ∧ c.p ≤ tot one other c.j) (b0 : ∀ i, ∀ y ∈ L i, 0 ≤ y.1) {i : Nat} {m : Int} {ch : List (Nat × Int × Int)} (h : WCh cs L i m ch) (hi : i < one.length) (m1 : m ≤ tot one other i) : ∀ z ∈ ch, z.1 < one.length ∧ 0 ≤ z.2.1 ∧ z.2.1 < z.2.2 ∧ z.2.2 ≤ tot one other z.1 := by
  induction h with
  | stop l e =>
    rename_i i' m' x'
    intro z hz
    rw [List.mem_singleton.mp hz]
    exact ⟨hi, b0 i' x' l.mem, l.lt, m1⟩
  | step l p hd _ ih =>
    rename_i i' m' x' c r _
    intro z hz
    rcases List.mem_cons.mp hz with e | hz
    · rw [e]
      exact ⟨hi, b0 i' x' l.mem, l.lt, m1⟩
    · have o := ok _ hd.mem
      exact ih o.1 o.2.2 z hz
/-- each waits for the one behind it -/
theorem WCh.due {cs : List ND} {L : Lgs} {i : Nat} {m : Int} {ch : List (Nat × Int × Int)} (h : WCh cs L i m ch) : ∀ (k : Nat) (z y : Nat × Int × Int), ch[k]? = some z → ch[k + 1]? = some y → (⟨z.1, z.2.1, y.1, y.2.2⟩ : ND) ∈ cs := by
  induction h with
  | stop l e =>
    intro k z y _ h2
    simp at h2
  | step l p hd hr ih =>
    rename_i i m x c r
    intro k z y h1 h2
    cases k with
    | zero =>
      obtain ⟨x2, r2, _, e2⟩ := hr.hd
      rw [e2] at h2
      cases h1
      cases h2
      have e : (⟨i, x.1, c.j, c.p⟩ : ND) = c := by
        cases c with
        | mk ci cS cj cp =>
          have a := hd.i'
          have b := hd.s'
          have a' : ci = i := a
          have b' : cS = x.1 := b
          rw [a', b']
      show (⟨i, x.1, c.j, c.p⟩ : ND) ∈ cs
      rw [e]
      exact hd.mem
    | succ k => exact ih k z y h1 h2
/-- the needs that may hold a leg, as they stand in their list -/
def heldL (cs : List ND) (L : Lgs) (i : Nat) (b W : Int) : List ND := (cs.filter fun d => decide (d.i = i) && decide (d.s = b)).filter fun d => decide (cw (L d.j) d.p = W)
theorem heldL_mem {cs : List ND} {L : Lgs} {i : Nat} {b W : Int} {d : ND} : d ∈ heldL cs L i b W ↔ d ∈ cs ∧ d.i = i ∧ d.s = b ∧ cw (L d.j) d.p = W := by
  unfold heldL
  rw [List.mem_filter, List.mem_filter, Bool.and_eq_true, decide_eq_true_eq, decide_eq_true_eq, decide_eq_true_eq]
  exact ⟨fun h => ⟨h.1.1, h.1.2.1, h.1.2.2, h.2⟩, fun h => ⟨⟨h.1, h.2.1, h.2.2.1⟩, h.2.2.2⟩⟩
theorem held_ex {cs : List ND} {L : Lgs} {i : Nat} {b W : Int} (up : cs.Pairwise fun x y => TS.code BB x.toL ≤ TS.code BB y.toL) {c : ND} {r : List ND} (e : heldL cs L i b W = c :: r) : Held cs L i b W c := by
  obtain ⟨h1, h2, h3, h4⟩ := heldL_mem.mp (show c ∈ heldL cs L i b W by rw [e]; exact List.mem_cons_self)
  refine ⟨h1, h2, h3, h4, fun d hd ei es ew => ?_⟩
  have hd' : d ∈ heldL cs L i b W := heldL_mem.mpr ⟨hd, ei, es, ew⟩
  have up' : (heldL cs L i b W).Pairwise fun x y => TS.code BB x.toL ≤ TS.code BB y.toL := up.sublist (List.Sublist.trans List.filter_sublist List.filter_sublist)
  rw [e] at hd' up'
  rcases List.mem_cons.mp hd' with z | z
  · rw [z]
    exact Int.le_refl _
  · exact (List.pairwise_cons.mp up').1 d z
end K49

set_option Elab.async false
set_option linter.all false
set_option maxRecDepth 100000
/-! list + list stands apart from what the machine keeps by itself. -/
namespace NB
open PySem PySem.Spec PySem.Calls PyProof.Rows L2
def rCatN : R2 := fun x y H Q => ∃ l b xs zs, x = .ref l ∧ y = .ref b ∧ H l = some (.lst xs) ∧ H b = some (.lst zs) ∧ xs.length + zs.length ≤ sizeLine ∧ ∀ p, H p = none → p ≠ sysModules → Q (.ref p) (upd H p (.lst (xs ++ zs)))
theorem op_catN {X : Cx} : OpR X (binaryOp .Add) rCatN := by
  intro pins s σ H x y v u Q I rx ry h
  obtain ⟨l, b, xs, zs, rfl, rfl, hH, hB, hz, q⟩ := h
  cases rx
  cases ry
  obtain ⟨z, its, n, r, hl, e⟩ := I.lstM hH
  obtain ⟨z2, its2, n2, r2, hl2, e2⟩ := I.lstM hB
  refine PySem.P.add_list e e2 ?_ (by rw [List.size_toArray, List.size_toArray]; omega)
  have ea : its.toArray ++ its2.toArray = (its ++ its2).toArray := by simp
  rw [ea]
  exact ⟨.ref _, _, I.lnew (t' := s.toks) (r.append r2) (by rw [List.length_append]; omega), rfl, q _ I.fresh (Nat.ne_of_gt I.big)⟩
end NB

set_option Elab.async false
set_option linter.all false
set_option maxRecDepth 100000
namespace K49
open PySem PySem.Spec PyProof.Rows L2 NB

/-! ### waits: the last thing that comes, and what holds a leg -/
theorem least_at {xs : List Int} {m : Int} (h : m ∈ xs) : ∃ j, ∃ hj : j < xs.length, xs[j] = m ∧ ∀ k (hk : k < xs.length), k < j → xs[k] ≠ m := by
  have hp : ∃ x ∈ xs, (fun y => y == m) x = true := ⟨m, h, by simp⟩
  have hj := List.findIdx_lt_length_of_exists hp
  refine ⟨xs.findIdx (fun y => y == m), hj, ?_, fun k hk lt e => ?_⟩
  · have := List.findIdx_getElem (p := fun y => y == m) (w := hj)
    simpa using this
  · have := List.not_of_lt_findIdx lt
    simp [e] at this
section
variable {P : Program} {w : World} {K : PySem.W.Frag} {mg : Str → Option Value} {base : Heap}
def spLa : Sp := fun vs H Q _ => ∃ (a b l : Addr) (one other : List Int) (Rs : List Addr) (L : Lgs), vs = [.ref a, .ref b, .ref l] ∧ H a = some (.tup (one.map V.int)) ∧ H b = some (.tup (other.map V.int)) ∧ LgsAt H l Rs L one.length ∧ other.length = one.length ∧ one.length ≤ 12 ∧ 0 < one.length ∧ (∀ i, (L i).length ≤ 200) ∧ (∀ i, ∀ x ∈ L i, 0 ≤ x.2) ∧
  ∀ H' i, Same H H' → i < one.length → IsMany one other L (cw (L i) (tot one other i)) → (∀ k, k < i → cw (L k) (tot one other k) ≠ cw (L i) (tot one other i)) → Q (.int (i : Int)) H'
abbrev a_latest : Stmt := topS 40
abbrev n_latest : List Str := ["one", "other", "legs", "ends", "thing"]
theorem sc_latest : FnScope n_latest ["one", "other", "legs"] (defScope a_latest) := ⟨rfl, rfl, rfl, by decide +kernel, rfl, by decide +kernel, by decide +kernel⟩
set_option maxHeartbeats 8000000 in
theorem ok_latest {f fCw fAs : Addr} {fd fdCw fdAs : FuncData} {k : Nat}  (F : Fun K "latest" "latest" a_latest f fd) (Cw : Kn P w K mg base 2 "comes_with" ["legs", "many"] spCw fCw fdCw) (As : Kn P w K mg base 1 "all_steps" ["one", "other", "thing"] spAs fAs fdAs)  (m_len : mg "len" = none) (m_max : mg "max" = none) (m_range : mg "range" = none) : FnOk P w K mg base CX0 (k + 3) f fd ["one", "other", "legs"] spLa := by
  refine F.ok sc_latest (fun vs H Q E h => ?_) (fun cdv A outer s H vs Q E hr h => ?_)
  · obtain ⟨a, b, l, one, other, Rs, L, rfl, _⟩ := h
    rfl
  · obtain ⟨a, b, l, one, other, Rs, L, rfl, ea, eb, hL, lo, l12, l0, few, nn, q⟩ := h
    refine ⟨_, (pss_cons (ps_setLc (i := 3) (own := [("thing", 4)]) (g := (gName 4)) (tt := tYes) (te := (tCall spCw [] E0 (tCons (tOp (rIxL K) (tVar 2) (tVar 4)) (tCons (tCall spAs [] E0 (tCons (tVar 0) (tCons (tVar 1) (tCons (tVar 4) tNil)))) tNil)))) rfl sc_latest.nd rfl rfl (sw_true rfl rfl rfl (by decide +kernel)) (pi_range1 (by rfl) m_range (pa_cons (pe_callB call_len_seq (by rfl) m_len (by decide +kernel) (pa_cons (pv 0) pa_nil)) pa_nil)) (blkOk_by (N := n_latest) (sc := defScope a_latest) (by decide +kernel))
          (fun _ _ _ _ _ => (pg_name (i := 4) sc_latest.nd rfl (.inl rfl) (hf := .inr rfl))) (fun _ _ _ _ _ => pts_nil) (fun _ _ _ _ _ => (pe_kn Cw hr (by omega) (pa_cons (pe_ix (r := rIxL K) ix_list (pv 2) (pv 4) (fun _ _ => rfl)) (pa_cons (pe_kn As hr (by omega) (pa_cons (pv 0) (pa_cons (pv 1) (pa_cons (pv 4) pa_nil)))) pa_nil)))))
      (pss_one (ps_ret (pe_bm (r := rIndex K) PySem.F.plainAttrs_list PySem.F.slot_list_index PySem.F.type_list_index mt_index (pv 3) (pa_cons (pe_callB (cr_max rfl) (by rfl) m_max (by decide +kernel) (pa_cons (pv 3) pa_nil)) pa_nil))))), ?_⟩
    refine ⟨_, rfl, a, _, rfl, .inr (.inl (.inl ea)), ?_⟩
    rw [List.length_map]
    refine ⟨one.length, rfl, by omega, by omega, fun D nD => lc_it (walk_range (lo := 0) (n := one.length)) (fun j H' => Same H H' ∧ H' D = some (.lst ((List.range j).map fun i => V.int (cw (L i) (tot one other i))))) ⟨same_new nD, upd_same⟩ (fun _ _ _ _ => trivial) (fun j v H2 H3 hj y z => ?_) (fun H2 y => ?_)⟩
    · obtain ⟨s2, eD⟩ := y
      obtain ⟨rfl, rfl⟩ := z
      rw [show ((fun i : Nat => V.int ((0 : Int) + (i : Nat))) j) = V.int (j : Int) from congrArg V.int (Int.zero_add _)]
      have lR : j < Rs.length := by rw [hL.len]; exact hj
      have eR : Rs[j]? = some Rs[j] := List.getElem?_eq_getElem lR
      have hL3 := hL.same s2
      refine ⟨wipe_one, _, rfl, _, rfl, l, _, j, _, rfl, rfl, .inl (.inl hL3.eL), atI_nat (by rw [List.getElem?_map, eR]; rfl), .ref a, rfl, .ref b, rfl, _, rfl, a, b, one, other, j, rfl, s2 _ _ ea, s2 _ _ eb, hj, by omega, _, _, L j, rfl, hL3.at' j _ eR, few j, nn j, fun H4 s4 => ?_⟩
      refine ⟨_, s4 _ _ eD, by rw [List.length_map, List.length_range]; exact small1000 (by omega), same_over (s2.trans s4) nD, ?_⟩
      rw [upd_same, List.range_succ, List.map_append]
      rfl
    · obtain ⟨s2, eD⟩ := y
      have eD' : H2 D = some (.lst (((List.range one.length).map fun i => cw (L i) (tot one other i)).map V.int)) := by
        rw [eD, List.map_map]
        rfl
      refine ⟨_, rfl, .inl ⟨rfl, _, .inl (.inl eD')⟩, _, rfl, D, _, rfl, .inl (.inl eD'), by rw [List.length_map, List.length_range]; exact l0, fun m hm hle => ?_⟩
      obtain ⟨j, hj, ej, nj⟩ := least_at hm
      have hj' : j < one.length := by simpa using hj
      refine ⟨D, _, .int m, j, .int m, rfl, rfl, .inl (.inl eD'), rfl, ?_, ?_, ?_, fun k z' hk ez => ?_, ?_⟩
      · rw [List.all_map]
        exact List.all_eq_true.mpr fun _ _ => rfl
      · rw [List.getElem?_map, List.getElem?_eq_getElem hj, ej]
        rfl
      · simp [eqV]
      · have hk' : k < ((List.range one.length).map fun i => cw (L i) (tot one other i)).length := by omega
        rw [List.getElem?_map, List.getElem?_eq_getElem hk'] at ez
        cases ez
        have := nj k hk' hk
        simpa [eqV] using this
      · have e : m = cw (L j) (tot one other j) := by
          rw [← ej]
          simp
        refine q H2 j s2 hj' ⟨⟨j, hj', rfl⟩, fun k hk => ?_⟩ fun k hk => by
          have := nj k (by simp; omega) hk
          rw [e] at this
          simpa using this
        rw [← e]
        exact hle _ (List.mem_map.mpr ⟨k, List.mem_range.mpr hk, rfl⟩)
end

/-! ### waits: what holds a leg -/
def prs (cs : List ND) : List (Int × Int) := cs.map fun c => ((c.j : Int), c.p)
theorem PrL.snoc {H H' : Hp} {as : List Addr} {ls : List (Int × Int)} {T : Addr} {x : Int × Int} (h : PrL H as ls) (k : Keep H H') (e : H' T = some (.tup [.int x.1, .int x.2])) : PrL H' (as ++ [T]) (ls ++ [x]) := by
  refine ⟨by rw [List.length_append, List.length_append, h.1]; rfl, fun j a y h1 h2 => ?_⟩
  rcases Nat.lt_or_ge j as.length with c | c
  · rw [List.getElem?_append_left c] at h1
    rw [List.getElem?_append_left (by have := h.1; omega)] at h2
    exact k.tup (h.2 j a y h1 h2)
  · rw [List.getElem?_append_right c] at h1
    rw [List.getElem?_append_right (by have := h.1; omega), ← h.1] at h2
    have e0 : j - as.length = 0 := by
      rcases Nat.eq_zero_or_pos (j - as.length) with z | z
      · exact z
      · rw [List.getElem?_eq_none (by simp only [List.length_cons, List.length_nil]; omega)] at h1
        cases h1
    rw [e0] at h1 h2
    cases h1
    cases h2
    exact e
theorem iteTv {c : Bool} {A B : Prop} (e : c = true) (h : A) : if c = true then A else B := by rw [e]; exact h
theorem iteFv {c : Bool} {A B : Prop} (e : c = false) (h : B) : if c = true then A else B := by rw [e]; exact h
theorem PrL.nil (H : Hp) : PrL H [] [] := ⟨rfl, fun k a x h => by simp at h⟩
theorem take_filter {α : Type} {xs : List α} {k : Nat} (h : k < xs.length) (p : α → Bool) : (xs.take (k + 1)).filter p = (xs.take k).filter p ++ (if p xs[k] = true then [xs[k]] else []) := by
  rw [List.take_add_one, List.getElem?_eq_getElem h, List.filter_append]
  congr 1
  by_cases c : p xs[k] = true
  · simp [c]
  · simp [c]
section
variable {P : Program} {w : World} {K : PySem.W.Frag} {mg : Str → Option Value} {base : Heap}
def spHb : Sp := fun vs H Q _ => ∃ (p l : Addr) (cs : List ND) (Rs : List Addr) (L : Lgs) (n i : Nat) (b W : Int), vs = [.ref p, .ref l, .int (i : Int), .int b, .int W] ∧ CtAt H p cs ∧ LgsAt H l Rs L n ∧ cs.length ≤ 100 ∧ (∀ c ∈ cs, c.j < n) ∧ (∀ i, (L i).length ≤ 200) ∧ (∀ i, ∀ x ∈ L i, 0 ≤ x.2) ∧ heldL cs L i b W ≠ [] ∧
  ∀ H' t c r, Same H H' → H' t = some (.tup [.int (c.j : Int), .int c.p]) → heldL cs L i b W = c :: r → Q (.ref t) H'
abbrev a_held_by : Stmt := topS 41
abbrev n_held_by : List Str := ["asked", "legs", "thing", "begun", "wave", "rows", "i", "stop", "j", "many"]
theorem sc_held_by : FnScope n_held_by ["asked", "legs", "thing", "begun", "wave"] (defScope a_held_by) := ⟨rfl, rfl, rfl, by decide +kernel, rfl, by decide +kernel, by decide +kernel⟩
set_option maxHeartbeats 8000000 in
theorem ok_held_by {f fCw : Addr} {fd fdCw : FuncData} {k : Nat}  (F : Fun K "held_by" "held_by" a_held_by f fd) (Cw : Kn P w K mg base 2 "comes_with" ["legs", "many"] spCw fCw fdCw)   : FnOk P w K mg base CX0 (k + 3) f fd ["asked", "legs", "thing", "begun", "wave"] spHb := by
  refine F.ok sc_held_by (fun vs H Q E h => ?_) (fun cdv A outer s H vs Q E hr h => ?_)
  · obtain ⟨p, l, cs, Rs, L, n, i, b, W, rfl, _⟩ := h
    rfl
  · obtain ⟨p, l, cs, Rs, L, n, i, b, W, rfl, hC, hL, few, lj, fewL, nn, ne, q⟩ := h
    refine ⟨_, (pss_cons (ps_setLc (i := 5) (own := [("i", 6), ("stop", 7), ("j", 8), ("many", 9)]) (g := (gTup K 4 (gCons (gName 6) (gCons (gName 7) (gCons (gName 8) (gCons (gName 9) gNil)))))) (tt := (tAnd (tTest (tOp rEq (tVar 6) (tVar 2))) (tTest (tOp rEq (tVar 7) (tVar 3))))) (te := (tTup (tCons (tVar 8) (tCons (tVar 9) tNil)))) rfl sc_held_by.nd rfl rfl (sw_true rfl rfl rfl (by decide +kernel)) (pi_list (pv 0)) (blkOk_by (N := n_held_by) (sc := defScope a_held_by) (by decide +kernel))
          (fun _ _ _ _ _ => (pg_tup rfl (pgs_cons (pg_name (i := 6) sc_held_by.nd rfl (.inl rfl) (hf := .inr rfl)) (pgs_cons (pg_name (i := 7) sc_held_by.nd rfl (.inl rfl) (hf := .inr rfl)) (pgs_cons (pg_name (i := 8) sc_held_by.nd rfl (.inl rfl) (hf := .inr rfl)) (pgs_cons (pg_name (i := 9) sc_held_by.nd rfl (.inl rfl) (hf := .inr rfl)) pgs_nil)))))) (fun _ _ _ _ _ => pts_one (PW.pt (pw_and (pt_cmpR op_eq (pv 6) (pv 2) (nomark _)) (pw_and1 (pt_cmpR op_eq (pv 7) (pv 3) (nomark _)))))) (fun _ _ _ _ _ => (pe_tup (pa_cons (pv 8) (pa_cons (pv 9) pa_nil)))))
      (pss_one (ps_ret (pe_ix ix_list (
        pe_lc (own := [("j", 8), ("many", 9)]) (g := (gTup K 2 (gCons (gName 8) (gCons (gName 9) gNil)))) (tt := (tTest (tOp rEq (tCall spCw [] E0 (tCons (tOp (rIxL K) (tVar 1) (tVar 8)) (tCons (tVar 9) tNil))) (tVar 4)))) (te := (tTup (tCons (tVar 8) (tCons (tVar 9) tNil)))) rfl sc_held_by.nd (pi_list (pv 5)) (blkOk_by (N := n_held_by) (sc := defScope a_held_by) (by decide +kernel))
          (fun _ _ _ _ _ => (pg_tup rfl (pgs_cons (pg_name (i := 8) sc_held_by.nd rfl (.inl rfl) (hf := .inr rfl)) (pgs_cons (pg_name (i := 9) sc_held_by.nd rfl (.inl rfl) (hf := .inr rfl)) pgs_nil)))) (fun _ _ _ _ _ => pts_one (pt_cmpR op_eq (pe_kn Cw hr (by omega) (pa_cons (pe_ix (r := rIxL K) ix_list (pv 1) (pv 8) (fun _ _ => rfl)) (pa_cons (pv 9) pa_nil))) (pv 4) (nomark _))) (fun _ _ _ _ _ => (pe_tup (pa_cons (pv 8) (pa_cons (pv 9) pa_nil))))) pe_int (fun _ _ => rfl))))), ?_⟩
    obtain ⟨as, ep, la, fa⟩ := hC
    refine ⟨_, rfl, p, rfl, ⟨_, .inl (.inl ep)⟩, fun D nD => lc_it (walk_list (xs := as.map V.ref)) (fun k H' => Same H H' ∧ ∃ bs : List Addr, H' D = some (.lst (bs.map V.ref)) ∧ PrL H' bs (prs ((cs.take k).filter fun d => decide (d.i = i) && decide (d.s = b)))) ⟨same_new nD, [], upd_same, PrL.nil _⟩ (fun k H' _ y => .inl (.inl (y.1 _ _ ep))) (fun k v H2 H3 hk y z => ?_) (fun H2 y => ?_)⟩
    · obtain ⟨s2, bs, eD, hP⟩ := y
      obtain ⟨rfl, gv⟩ := z
      obtain ⟨r, er, rfl⟩ := mapGet gv
      have hk' : k < cs.length := by rw [← la]; simpa using hk
      have e4 := s2 _ _ (fa k r _ er (List.getElem?_eq_getElem hk'))
      refine ⟨r, _, rfl, .inl (.inl e4), rfl, _, _, rfl, _, _, rfl, _, _, rfl, _, _, rfl, rfl, ?_⟩
      have ni : ∀ {x y : Nat}, V.int (x : Int) = V.int (y : Int) → x = y := fun h => by
        have := V.int.inj h
        omega
      refine ⟨rfl, _, rfl, _, rfl, rfl, _, rfl, ?_⟩
      by_cases c1 : cs[k].i = i
      · refine iteTv (decide_eq_true (by rw [c1])) ⟨_, rfl, _, rfl, rfl, _, rfl, ?_⟩
        by_cases c2 : cs[k].s = b
        · refine iteTv (decide_eq_true (by rw [c2])) ⟨_, rfl, _, rfl, (show 2 ≤ sizeLine by decide), fun T nT => ?_⟩
          have sT := same_new (o := HO.tup [V.int (cs[k].j : Int), V.int cs[k].p]) nT
          refine ⟨_, sT _ _ eD, ?_, same_over (s2.trans sT) nD, bs ++ [T], by rw [upd_same, List.map_append]; rfl, ?_⟩
          · have := hP.1
            unfold prs at this
            rw [List.length_map] at this
            rw [List.length_map, this]
            exact small1000 (Nat.le_trans (List.length_filter_le _ _) (by rw [List.length_take]; omega))
          · rw [take_filter hk', if_pos (by rw [c1, c2]; simp)]
            unfold prs
            rw [List.map_append]
            exact PrL.snoc (hP.same sT) (.upd (sT _ _ eD)) (by rw [(Keep.upd (sT _ _ eD)).tup upd_same])
        · refine iteFv (decide_eq_false fun h => c2 (V.int.inj h)) ⟨s2, bs, eD, ?_⟩
          rw [take_filter hk', if_neg (by simp [c2]), List.append_nil]
          exact hP
      · refine iteFv (decide_eq_false fun h => c1 (ni h)) ?_
        refine iteFv rfl ⟨s2, bs, eD, ?_⟩
        rw [take_filter hk', if_neg (by simp [c1]), List.append_nil]
        exact hP
    · obtain ⟨s2, bs, eD, hP⟩ := y
      rw [List.length_map, la, List.take_length] at hP
      generalize hM : (cs.filter fun d => decide (d.i = i) && decide (d.s = b)) = M at hP
      have lM : M.length ≤ 100 := by
        rw [← hM]
        exact Nat.le_trans (List.length_filter_le _ _) few
      have mM : ∀ c ∈ M, c ∈ cs := fun c hc => by
        rw [← hM] at hc
        exact (List.mem_filter.mp hc).1
      have lbs : bs.length = M.length := by
        have := hP.1
        unfold prs at this
        rw [List.length_map] at this
        exact this
      dsimp only [List.set]
      refine ⟨_, rfl, D, rfl, ⟨_, .inl (.inl eD)⟩, fun G nG => lc_it (walk_list (xs := bs.map V.ref)) (fun k H' => Same H2 H' ∧ ∃ es : List Addr, H' G = some (.lst (es.map V.ref)) ∧ PrL H' es (prs ((M.take k).filter fun d => decide (cw (L d.j) d.p = W)))) ⟨same_new nG, [], upd_same, PrL.nil _⟩ (fun k H' _ y => .inl (.inl (y.1 _ _ eD))) (fun k v H3 H4 hk y z => ?_) (fun H3 y => ?_)⟩
      · obtain ⟨s3, es, eG, hE⟩ := y
        obtain ⟨rfl, gv⟩ := z
        obtain ⟨r, er, rfl⟩ := mapGet gv
        have hk' : k < M.length := by rw [← lbs]; simpa using hk
        have e4 := s3 _ _ (hP.2 k r ((M[k].j : Int), M[k].p) er (by unfold prs; rw [List.getElem?_map, List.getElem?_eq_getElem hk']; rfl))
        have hj := lj _ (mM _ (List.getElem_mem hk'))
        have lR : M[k].j < Rs.length := by rw [hL.len]; exact hj
        have eR : Rs[M[k].j]? = some Rs[M[k].j] := List.getElem?_eq_getElem lR
        have hL3 := hL.same (s2.trans s3)
        refine ⟨r, _, rfl, .inl (.inl e4), rfl, _, _, rfl, _, _, rfl, rfl, ?_⟩
        refine ⟨rfl, _, rfl, _, rfl, l, _, _, _, rfl, rfl, .inl (.inl hL3.eL), atI_nat (by rw [List.getElem?_map, eR]; rfl), _, rfl, _, _, L M[k].j, rfl, hL3.at' _ _ eR, fewL _, nn _, fun H5 s5 => ⟨_, rfl, rfl, _, rfl, ?_⟩⟩
        by_cases c : cw (L M[k].j) M[k].p = W
        · refine iteTv (decide_eq_true (by rw [c])) ⟨_, rfl, _, rfl, (show 2 ≤ sizeLine by decide), fun T nT => ?_⟩
          have sT := s5.trans (same_new (o := HO.tup [V.int (M[k].j : Int), V.int M[k].p]) nT)
          refine ⟨_, sT _ _ eG, ?_, same_over (s3.trans sT) nG, es ++ [T], by rw [upd_same, List.map_append]; rfl, ?_⟩
          · have := hE.1
            unfold prs at this
            rw [List.length_map] at this
            rw [List.length_map, this]
            exact small1000 (Nat.le_trans (List.length_filter_le _ _) (by rw [List.length_take]; omega))
          · rw [take_filter hk', if_pos (by rw [c]; simp)]
            unfold prs
            rw [List.map_append]
            exact PrL.snoc (hE.same sT) (.upd (sT _ _ eG)) (by rw [(Keep.upd (sT _ _ eG)).tup upd_same])
        · refine iteFv (decide_eq_false fun h => c (V.int.inj h)) ⟨s3.trans s5, es, s5 _ _ eG, ?_⟩
          rw [take_filter hk', if_neg (by simp [c]), List.append_nil]
          exact hE.same s5
      · obtain ⟨s3, es, eG, hE⟩ := y
        rw [List.length_map, lbs, List.take_length, ← hM] at hE
        obtain ⟨c, r, ec⟩ : ∃ c r, heldL cs L i b W = c :: r := by
          cases hh : heldL cs L i b W with
          | nil => exact absurd hh ne
          | cons c r => exact ⟨c, r, rfl⟩
        have hE' : PrL H3 es (prs (heldL cs L i b W)) := hE
        rw [ec] at hE'
        cases es with
        | nil =>
          have := hE'.1
          cases this
        | cons t es =>
          refine ⟨G, _, 0, _, rfl, rfl, .inl (.inl eG), atI_nat (j := 0) rfl, ?_⟩
          exact q H3 t c r (s2.trans s3) (hE'.2 0 t _ rfl rfl) ec
end
end K49

set_option Elab.async false
set_option linter.all false
set_option maxRecDepth 100000
namespace K49
open PySem PySem.Spec PyProof.Rows L2 NB

/-! ### waits: the chain -/
theorem last_at {xs : List V} {n : Nat} {v : V} (h : xs.length = n + 1) (e : xs[n]? = some v) : atI xs (-1) = some v := by
  unfold atI ixN
  rw [if_neg (by decide), if_pos (by omega), h, show (-1 + ((n + 1 : Nat) : Int)).toNat = n by omega]
  exact e
theorem std_ext {a b : List Int} (l : a.length = b.length) (h : ∀ i, i < a.length → a.getD i 0 = b.getD i 0) : a = b := by
  refine List.ext_getElem l fun i x y => ?_
  have := h i x
  rw [List.getD_eq_getElem?_getD, List.getD_eq_getElem?_getD, List.getElem?_eq_getElem x, List.getElem?_eq_getElem y] at this
  exact this
theorem RnL.rev {H : Hp} {as : List Addr} {rs : List (List Int)} (h : RnL H as rs) : RnL H as.reverse rs.reverse := by
  refine ⟨by rw [List.length_reverse, List.length_reverse, h.1], fun k a r h1 h2 => ?_⟩
  have l1 : k < as.length := by
    have := (List.getElem?_eq_some_iff.mp h1).1
    rwa [List.length_reverse] at this
  have l2 : k < rs.length := by
    have := h.1
    omega
  rw [List.getElem?_reverse l1] at h1
  rw [List.getElem?_reverse l2, ← h.1] at h2
  exact h.2 _ a r h1 h2
theorem no_need {one other : List Int} {nds cs : List ND} (C : Cnts one other nds cs) (ok : ∀ n ∈ nds, n.Ok one other) (e : one = other) : cs = [] := by
  refine List.eq_nil_iff_forall_not_mem.mpr fun c hc => ?_
  obtain ⟨n, hn, _⟩ := (C.mem c).mp hc
  have o := ok n hn
  have s0 := o.s0
  have s1 := o.s1
  have h := tot_eq (one := one) (other := other) n.i
  rw [e] at h s0 s1
  omega
theorem nodup_sub_len {α : Type} [DecidableEq α] : ∀ {xs ys : List α}, xs.Nodup → (∀ x ∈ xs, x ∈ ys) → xs.length ≤ ys.length
  | [], _, _, _ => Nat.zero_le _
  | x :: xs, ys, nd, h => by
    have hx := h x List.mem_cons_self
    have nd' := List.nodup_cons.mp nd
    have := nodup_sub_len (xs := xs) (ys := ys.erase x) nd'.2 fun y hy => (List.mem_erase_of_ne (fun e => nd'.1 (by rw [← e]; exact hy))).mpr (h y (List.mem_cons_of_mem _ hy))
    have l := List.length_erase_of_mem hx
    have p := List.length_pos_of_mem hx
    rw [List.length_cons]
    omega
def wRow (one other : List Int) (z : Nat × Int × Int) : List Int := [(z.1 : Int), paf one other z.1 z.2.1, paf one other z.1 z.2.2]
/-- what waits tells -/
def IsWts (one other : List Int) (cs : List ND) (L : Lgs) (rows : List (List Int)) : Prop := (one = other → rows = []) ∧ (one ≠ other → ∃ i ch, i < one.length ∧ IsMany one other L (cw (L i) (tot one other i)) ∧ (∀ k, k < i → cw (L k) (tot one other k) ≠ cw (L i) (tot one other i)) ∧ WCh cs L i (tot one other i) ch ∧ rows = ch.reverse.map (wRow one other))
theorem cnts_ok {one other : List Int} {nds cs : List ND} (C : Cnts one other nds cs) (ok : ∀ n ∈ nds, n.Ok one other) : ∀ c ∈ cs, c.i < one.length ∧ c.j < one.length ∧ 0 < c.p ∧ c.p ≤ tot one other c.j := fun c hc => by
  obtain ⟨n, hn, rfl⟩ := (C.mem c).mp hc
  have o := ok n hn
  exact ⟨o.li, o.lj, o.p0, o.p1⟩
theorem legs_b0 {one other : List Int} {cs : List ND} {L : Lgs} (I : LegI one other cs other L) : ∀ i, ∀ x ∈ L i, 0 ≤ x.1 := fun i x hx => by
  rcases I.rng i x hx with e | h
  · rw [e]
    exact Int.le_refl _
  · exact h.1
theorem held_ne {one other : List Int} {nds cs cs' : List ND} {L : Lgs} (I : LegI one other cs' other L) (C : Cnts one other nds cs) (C' : Cnts one other nds cs') {i : Nat} {m : Int} {x : Int × Int} (l : LastLeg (L i) m x) (p : 0 < x.1 + x.2) : heldL cs L i x.1 (x.1 + x.2) ≠ [] := fun e => by
  rcases I.up i x l.mem with z | ⟨c, hc, a, b, d, _⟩
  · rw [z] at p
    exact absurd p (by decide)
  · have : c ∈ heldL cs L i x.1 (x.1 + x.2) := heldL_mem.mpr ⟨(C.mem c).mpr ((C'.mem c).mp hc), a, b, by omega⟩
    rw [e] at this
    exact absurd this List.not_mem_nil
theorem far_pos {one other : List Int} {L : Lgs} (lo : other.length = one.length) (b0 : ∀ i, ∀ x ∈ L i, 0 ≤ x.1) (ne : one ≠ other) {i : Nat} (Im : IsMany one other L (cw (L i) (tot one other i))) : 0 < tot one other i := by
  refine Classical.byContradiction fun c => ne (std_ext lo.symm fun j hj => ?_)
  have T0 := tot_nn (one := one) (other := other) i
  have e0 : tot one other i = 0 := by omega
  have z : cw (L i) 0 = 0 := by
    rcases cw_at (L i) 0 with e | ⟨x, hx, lt, _⟩
    · exact e
    · have := b0 i x hx
      omega
  have le := Im.2 j hj
  rw [e0, z] at le
  have ge := cw_ge (L j) (tot one other j)
  have h := tot_eq (one := one) (other := other) j
  omega
section
variable {P : Program} {w : World} {K : PySem.W.Frag} {mg : Str → Option Value} {base : Heap}
def spWts (K : PySem.W.Frag) (C CK : Addr) : Sp := fun vs H Q E => ∃ (x a b : Addr) (tops one other : List Int) (rs : List Rl), vs = [.ref x, .ref a, .ref b] ∧ preEa K C H x a b tops one other rs ∧ 0 < one.length ∧
  (∀ nds cs cs2 L H' p rows, Earl one other rs nds cs L → Cnts one other nds cs2 → (cs2.Pairwise fun x y => TS.code BB x.toL ≤ TS.code BB y.toL) → Same H H' → IsWts one other cs2 L rows → RunsAt H' p rows → rows.length ≤ 100 → Q (.ref p) H') ∧ knEa CK H one other rs E
abbrev a_waits : Stmt := topS 42
abbrev n_waits : List Str := ["plan", "one", "other", "legs", "asked", "found", "thing", "many", "begun", "lag", "leg"]
theorem sc_waits : FnScope n_waits ["plan", "one", "other"] (defScope a_waits) := ⟨rfl, rfl, rfl, by decide +kernel, rfl, by decide +kernel, by decide +kernel⟩
set_option maxHeartbeats 8000000 in
theorem ok_waits {f fEa fCo fNd fLa fAs fPa fHb : Addr} {fd fdEa fdCo fdNd fdLa fdAs fdPa fdHb : FuncData} {k : Nat} {C CK : Addr} (F : Fun K "waits" "waits" a_waits f fd) (Ea : KnX P w K mg base 7 "earliest" ["plan", "one", "other"] (spEa K C CK) fEa fdEa) (Co : Kn P w K mg base 2 "counted" ["one", "other", "asked"] spCo fCo fdCo) (Nd : Kn P w K mg base 4 "needs" ["plan", "one", "other"] (spNeeds K C) fNd fdNd) (La : Kn P w K mg base 3 "latest" ["one", "other", "legs"] spLa fLa fdLa) (As : Kn P w K mg base 1 "all_steps" ["one", "other", "thing"] spAs fAs fdAs) (Pa : Kn P w K mg base 1 "place_after" ["one", "other", "thing", "many"] spPa fPa fdPa) (Hb : Kn P w K mg base 3 "held_by" ["asked", "legs", "thing", "begun", "wave"] spHb fHb fdHb)  (m_tuple : mg "tuple" = none) : FnOk P w K mg base (L2.CX P w) (k + 8) f fd ["plan", "one", "other"] (spWts K C CK) := by
  refine F.okX sc_waits (fun vs H Q E h => ?_) (fun cdv A outer s H vs Q E hr h => ?_)
  · obtain ⟨x, a, b, tops, one, other, rs, rfl, _⟩ := h
    rfl
  · obtain ⟨x, a, b, tops, one, other, rs, rfl, ⟨hp, ea, eb, l12, pl, l31, rok, lo, lo', h1, h2⟩, l0, q, qE⟩ := h
    refine ⟨_, (pss_cons (ps_set (i := 3) sc_waits.nd rfl (.inl rfl) (pe_knP Ea hr (by omega) (takes_of rfl rfl rfl rfl) (pa_cons (pv 0) (pa_cons (pv 1) (pa_cons (pv 2) pa_nil)))))
      (pss_cons (ps_if (pt_cmpR (op_eqD hr.units) (pv 1) (pv 2) (nomark _)) (pss_one (ps_ret (pe_tup pa_nil))) pss_nil)
      (pss_cons (ps_set (i := 4) sc_waits.nd rfl (.inl rfl) (pe_kn Co hr (by omega) (pa_cons (pv 1) (pa_cons (pv 2) (pa_cons (pe_kn Nd hr (by omega) (pa_cons (pv 0) (pa_cons (pv 1) (pa_cons (pv 2) pa_nil)))) pa_nil)))))
      (pss_cons (ps_set (i := 5) sc_waits.nd rfl (.inl rfl) (pe_lst pa_nil))
      (pss_cons (ps_set (i := 6) sc_waits.nd rfl (.inl rfl) (pe_kn La hr (by omega) (pa_cons (pv 1) (pa_cons (pv 2) (pa_cons (pv 3) pa_nil)))))
      (pss_cons (ps_set (i := 7) sc_waits.nd rfl (.inr rfl) (pe_kn As hr (by omega) (pa_cons (pv 1) (pa_cons (pv 2) (pa_cons (pv 6) pa_nil)))))
      (pss_cons (ps_while (passes_of rfl) (pt_cmpR op_gt (pv 7) pe_int (nomark _))
        (pss_cons (ps_asg (pe_ix ix_list (
        pe_lc (own := [("leg", 10)]) (g := (gName 10)) (tt := (tTest (tOp (rI0 fun i j => .bl (decide (i < j))) (tOp (rIxT K) (tVar 10) (tC (.int 0))) (tVar 7)))) (te := (tVar 10)) rfl sc_waits.nd (pi_list (pe_ix ix_list (pv 3) (pv 6) (fun _ _ => rfl))) (blkOk_by (N := n_waits) (sc := defScope a_waits) (by decide +kernel))
          (fun _ _ _ _ _ => (pg_name (i := 10) sc_waits.nd rfl (.inl rfl) (hf := .inr rfl))) (fun _ _ _ _ _ => pts_one (pt_cmpR op_lt (pe_ix (r := rIxT K) ix_tup (pv 10) pe_int (fun _ _ => rfl)) (pv 7) (nomark _))) (fun _ _ _ _ _ => (pv 10))) (pe_un un_neg pe_int) (fun _ _ => rfl)) (pg_tup rfl (pgs_cons (pg_name (i := 8) sc_waits.nd rfl (.inl rfl)) (pgs_cons (pg_name (i := 9) sc_waits.nd rfl (.inl rfl)) pgs_nil))))
      (pss_cons (ps_expr (pe_bm PySem.F.plainAttrs_list PySem.F.slot_list_append PySem.F.type_list_append mt_append (pv 5) (pa_cons (pe_tup (pa_cons (pv 6) (pa_cons (pe_kn Pa hr (by omega) (pa_cons (pv 1) (pa_cons (pv 2) (pa_cons (pv 6) (pa_cons (pv 8) pa_nil))))) (pa_cons (pe_kn Pa hr (by omega) (pa_cons (pv 1) (pa_cons (pv 2) (pa_cons (pv 6) (pa_cons (pv 7) pa_nil))))) pa_nil)))) pa_nil)))
      (pss_one (ps_asg (pe_ifExp (pt_cmpR op_gt (pe_op op_add (pv 8) (pv 9)) pe_int (nomark _)) (pe_kn Hb hr (by omega) (pa_cons (pv 4) (pa_cons (pv 3) (pa_cons (pv 6) (pa_cons (pv 8) (pa_cons (pe_op op_add (pv 8) (pv 9)) pa_nil)))))) (pe_tup (pa_cons (pv 6) (pa_cons pe_int pa_nil)))) (pg_tup rfl (pgs_cons (pg_name (i := 6) sc_waits.nd rfl (.inl rfl)) (pgs_cons (pg_name (i := 7) sc_waits.nd rfl (.inr rfl)) pgs_nil))))))))
      (pss_one (ps_ret (pe_callTy call_tuple_of (by rfl) m_tuple (by decide +kernel) (pa_cons (pe_revL (pv 5)) pa_nil))))))))))), ?_⟩
    refine ⟨_, rfl, _, rfl, _, rfl, x, a, b, tops, one, other, rs, rfl, ⟨hp, ea, eb, l12, pl, l31, rok, lo, lo', h1, h2⟩, fun nds cs L H1 l Rs Ar s1 nl hL => ?_, qE⟩
    have ea1 := s1 _ _ ea
    have eb1 := s1 _ _ eb
    have B := Ar.I.b
    have fw := Ar.few
    have fewL : ∀ i, (L i).length ≤ 200 := fun i => by
      have := B.few i
      omega
    have N := Ar.N
    refine ⟨_, rfl, _, rfl, _, _, .tup (.inl (.inl ea1)) (dps _), .tup (.inl (.inl eb1)) (dps _), shaped_ints _, shaped_ints _, _, rfl, ?_⟩
    have eqD : PyData.eqv (.tuple (one.map PyData.int)) (.tuple (other.map PyData.int)) = decide (one = other) := by
      simp only [PyData.eqv]
      rw [eqv_ints]
    rw [eqD]
    by_cases c : one = other
    · rw [decide_eq_true c]
      refine iteT ?_
      refine ⟨Nat.zero_le _, fun T nT => ?_⟩
      have sT := same_new (o := HO.tup []) nT
      have e0 := no_need Ar.C N.ok c
      exact q nds cs cs L _ T [] Ar Ar.C (by rw [e0]; exact List.Pairwise.nil) (s1.trans sT) ⟨fun _ => rfl, fun ne => absurd c ne⟩ ⟨[], upd_same, RnL.nil _⟩ (Nat.zero_le _)
    · rw [decide_eq_false c]
      refine iteF ?_
      refine ⟨_, rfl, _, rfl, _, rfl, _, rfl, _, rfl, x, a, b, tops, one, other, rs, rfl, hp.keep (.same s1), ea1, eb1, l12, pl, l31, rok, lo, lo', fun H2 q2 ns s2 nq hn In => ?_⟩
      have e2 : ns = nds.map ND.toL := IsNeeds.one l12 pl rok In N.is
      subst e2
      have few64 : nds.length < 64 := by
        have := N.is.few
        rwa [List.length_map] at this
      refine ⟨a, b, q2, one, other, nds, rfl, s2 _ _ ea1, s2 _ _ eb1, hn.asked, N.ok, by omega, by omega, h1, h2, by omega, fun H3 lc cs s3 hC C lcs up => ?_⟩
      have s13 := s2.trans s3
      have hL3 := hL.same s13
      dsimp only [List.set]
      refine ⟨Nat.zero_le _, fun F nF => ?_⟩
      have sF := same_new (o := HO.lst []) nF
      have eF : (upd H3 F (.lst [])) F = some (.lst []) := upd_same
      generalize (upd H3 F (.lst [])) = H4 at sF eF ⊢
      have s14 := s13.trans sF
      have ea4 := s14 _ _ ea1
      have eb4 := s14 _ _ eb1
      have hL4 := hL3.same sF
      have hC4 := hC.same sF
      refine ⟨_, rfl, _, rfl, _, rfl, a, b, l, one, other, Rs, L, rfl, ea4, eb4, hL4, by omega, by omega, l0, fewL, B.nn, fun H5 i0 s5 hi0 Im fst => ?_⟩
      refine ⟨_, rfl, _, rfl, _, rfl, a, b, one, other, i0, rfl, s5 _ _ ea4, s5 _ _ eb4, hi0, by omega, ?_⟩
      have oks := cnts_ok C N.ok
      have b0 := legs_b0 Ar.I
      have T0 := far_pos (by omega) b0 c Im
      have s35 := sF.trans s5
      have eF5 := s5 _ _ eF
      dsimp only [List.set]
      refine ⟨fun m σ H' => ∃ (i : Nat) (k : Int) (dn : List (Nat × Int × Int)) (bs : List Addr), (∃ u8 u9 u10, σ = [some (.ref x), some (.ref a), some (.ref b), some (.ref l), some (.ref lc), some (.ref F), some (.int (i : Int)), some (.int k), u8, u9, u10]) ∧ Same H3 H' ∧ H' F = some (.lst (bs.map V.ref)) ∧ RnL H' bs (dn.map (wRow one other)) ∧
          ((k = 0 ∧ m = 0 ∧ WCh cs L i0 (tot one other i0) dn ∧ dn.length ≤ cs.length + 1) ∨ (0 < k ∧ m = (cw (L i) k).toNat ∧ i < one.length ∧ k ≤ tot one other i ∧ (∀ r, WCh cs L i k r → WCh cs L i0 (tot one other i0) (dn ++ r)) ∧ ∃ us : List ND, us.length = dn.length ∧ us.Nodup ∧ (∀ u ∈ us, u ∈ cs ∧ cw (L i) k ≤ cw (L u.j) u.p))),
        ⟨_, i0, _, [], [], ⟨_, _, _, rfl⟩, s35, eF5, RnL.nil _, .inr ⟨T0, rfl, hi0, Int.le_refl _, fun r h => h, [], rfl, List.nodup_nil, fun _ h => absurd h List.not_mem_nil⟩⟩, fun m σ H6 y => ?_⟩
      obtain ⟨i, k, dn, bs, ⟨u8, u9, u10, rfl⟩, s6, eF6, hR, st⟩ := y
      have lcs' : cs.length < 64 := by omega
      have hL6 := hL3.same s6
      have hC6 := hC.same s6
      have ea6 := s6 _ _ (s13 _ _ ea1)
      have eb6 := s6 _ _ (s13 _ _ eb1)
      refine ⟨_, rfl, _, _, rfl, rfl, _, rfl, ?_⟩
      rcases st with ⟨k0, m0, ch, few'⟩ | ⟨kp, em, hi, kT, go, us, lus, nus, mus⟩
      · refine iteFv (decide_eq_false (by omega)) ?_
        refine ⟨_, rfl, F, _, rfl, .inl (.inl eF6), fun g ng => ⟨g, _, rfl, .inl ⟨.inl (.inl upd_same), fun t nt => ?_⟩⟩⟩
        have sg := same_new (o := HO.lst (bs.map V.ref).reverse) ng
        have st' := same_new (o := HO.tup (bs.map V.ref).reverse) nt
        refine q nds _ cs L _ t (dn.reverse.map (wRow one other)) Ar C up ((s1.trans (s13.trans s6)).trans (sg.trans st')) ⟨fun e => absurd e c, fun _ => ⟨i0, dn, hi0, Im, fst, ch, rfl⟩⟩ ⟨bs.reverse, by rw [upd_same, List.map_reverse], ?_⟩ (by rw [List.length_map, List.length_reverse]; omega)
        rw [List.map_reverse]
        exact ((hR.rev).same sg).same st'
      · refine iteTv (decide_eq_true kp) ⟨_, fun _ _ h => h, ?_⟩
        have eRi : Rs[i]? = some (Rs[i]'(by rw [hL6.len]; exact hi)) := List.getElem?_eq_getElem _
        obtain ⟨as, eR, la, fa⟩ := hL6.at' i _ eRi
        refine ⟨_, rfl, _, rfl, l, _, _, _, rfl, rfl, .inl (.inl hL6.eL), atI_nat (by rw [List.getElem?_map, eRi]; rfl), _, rfl, ⟨_, .inl (.inl eR)⟩, fun D nD => lc_it (walk_list (xs := as.map V.ref)) (fun j H' => Same H6 H' ∧ ∃ fs : List (Addr × (Int × Int)), H' D = some (.lst (fs.map fun z => V.ref z.1)) ∧ (∀ z ∈ fs, H6 z.1 = some (.tup [.int z.2.1, .int z.2.2])) ∧ fs.map (·.2) = ((L i).take j).filter fun x => decide (x.1 < k)) ⟨same_new nD, [], upd_same, (fun _ h => absurd h List.not_mem_nil), rfl⟩ (fun j H' _ y => .inl (.inl (y.1 _ _ eR))) (fun j v H7 H8 hj y z => ?_) (fun H7 y => ?_)⟩
        · obtain ⟨s7, fs, eD, hf, ef⟩ := y
          obtain ⟨rfl, gv⟩ := z
          obtain ⟨r, er, rfl⟩ := mapGet gv
          have hj' : j < (L i).length := by rw [← la]; simpa using hj
          have e2 := fa j r _ er (List.getElem?_eq_getElem hj')
          refine ⟨wipe_one, _, rfl, r, _, 0, _, rfl, rfl, .inl (.inl (s7 _ _ e2)), atI_nat (j := 0) rfl, _, rfl, _, _, rfl, rfl, _, rfl, ?_⟩
          by_cases cl : (L i)[j].1 < k
          · refine iteTv (decide_eq_true cl) ⟨_, rfl, _, eD, ?_, same_over s7 nD, fs ++ [(r, (L i)[j])], by rw [upd_same, List.map_append]; rfl, fun z hz => ?_, ?_⟩
            · have := congrArg List.length ef
              rw [List.length_map] at this
              rw [List.length_map, this]
              have := fewL i
              exact small1000 (Nat.le_trans (List.length_filter_le _ _) (by rw [List.length_take]; omega))
            · rcases List.mem_append.mp hz with h | h
              · exact hf z h
              · rw [List.mem_singleton.mp h]
                exact e2
            · rw [take_filter hj', if_pos (by simp [cl]), List.map_append, ef]
              rfl
          · refine iteFv (decide_eq_false cl) ⟨s7, fs, eD, hf, ?_⟩
            rw [take_filter hj', if_neg (by simp [cl]), List.append_nil, ef]
        · obtain ⟨s7, fs, eD, hf, ef⟩ := y
          rw [List.length_map, la, List.take_length] at ef
          obtain ⟨t0, et0⟩ := B.hd i
          obtain ⟨ini, z, rfl⟩ : ∃ ini z, fs = ini ++ [z] := by
            rcases List.eq_nil_or_concat fs with e | ⟨ini, z, e⟩
            · rw [e, et0, List.filter_cons, if_pos (by simpa using kp)] at ef
              cases ef
            · exact ⟨ini, z, by rw [e, List.concat_eq_append]⟩
          have lg : LastLeg (L i) k z.2 := last_leg (Ar.I.asc i) (by rw [← ef, List.map_append, List.getLast?_append]; rfl)
          have hz := s7 _ _ (hf z (List.mem_append_right _ (List.mem_singleton.mpr rfl)))
          have wv := lg.cw (B.nn i)
          have x0 := b0 i _ lg.mem
          have n0 := B.nn i _ lg.mem
          have xk := lg.lt
          refine ⟨1, rfl, D, _, _, _, rfl, rfl, .inl (.inl eD), last_at (n := ini.length) (by simp) (by rw [List.map_append, List.getElem?_append_right (by rw [List.length_map]; exact Nat.le_refl _), List.length_map, Nat.sub_self]; rfl), z.1, _, rfl, .inl (.inl hz), rfl, _, _, rfl, _, _, rfl, rfl, ?_⟩
          dsimp only [List.set]
          have ea7 := s7 _ _ ea6
          have eb7 := s7 _ _ eb6
          have eF7 := s7 _ _ eF6
          have hR7 := hR.same s7
          have ldn : dn.length < 64 := by
            rw [← lus]
            exact Nat.lt_of_le_of_lt (nodup_sub_len nus fun u hu => (mus u hu).1) lcs'
          have lbs : bs.length = dn.length := by
            have := hR.1
            rwa [List.length_map] at this
          refine ⟨_, rfl, .inl ⟨rfl, _, .inl (.inl eF7)⟩, _, rfl, _, rfl, _, rfl, _, rfl, _, rfl, a, b, one, other, i, z.2.1, rfl, ea7, eb7, hi, by omega, _, rfl, _, rfl, _, rfl, _, rfl, a, b, one, other, i, k, rfl, ea7, eb7, hi, by omega, (show 3 ≤ sizeLine by decide), fun T nT => ?_⟩
          have sT := same_new (o := HO.tup [V.int (i : Int), V.int (paf one other i z.2.1), V.int (paf one other i k)]) nT
          refine ⟨F, _, _, rfl, rfl, sT _ _ eF7, by rw [List.length_map]; exact small1000 (by omega), ?_⟩
          have eT : (upd H7 T (.tup [V.int (i : Int), V.int (paf one other i z.2.1), V.int (paf one other i k)])) T = some (.tup ((wRow one other (i, z.2.1, k)).map V.int)) := upd_same
          have s38 : Same H3 (upd (upd H7 T (.tup [V.int (i : Int), V.int (paf one other i z.2.1), V.int (paf one other i k)])) F (.lst (bs.map V.ref ++ [V.ref T]))) := same_over ((s6.trans s7).trans sT) nF
          have eF8 : (upd (upd H7 T (.tup [V.int (i : Int), V.int (paf one other i z.2.1), V.int (paf one other i k)])) F (.lst (bs.map V.ref ++ [V.ref T]))) F = some (.lst ((bs ++ [T]).map V.ref)) := by
            rw [upd_same, List.map_append]
            rfl
          have hR8 : RnL (upd (upd H7 T (.tup [V.int (i : Int), V.int (paf one other i z.2.1), V.int (paf one other i k)])) F (.lst (bs.map V.ref ++ [V.ref T]))) (bs ++ [T]) ((dn ++ [(i, z.2.1, k)]).map (wRow one other)) := by
            rw [List.map_append]
            exact ((hR7.same sT).app (RnL.single eT)).keep (.upd (sT _ _ eF7))
          generalize (upd (upd H7 T (.tup [V.int (i : Int), V.int (paf one other i z.2.1), V.int (paf one other i k)])) F (.lst (bs.map V.ref ++ [V.ref T]))) = H8 at s38 eF8 hR8 ⊢
          refine ⟨_, rfl, _, rfl, _, _, rfl, rfl, _, _, rfl, rfl, _, rfl, ?_⟩
          by_cases p : 0 < z.2.1 + z.2.2
          · refine iteTv (decide_eq_true p) ?_
            refine ⟨_, rfl, _, rfl, _, rfl, _, rfl, _, rfl, _, rfl, _, _, rfl, rfl, lc, l, cs, Rs, L, one.length, i, z.2.1, z.2.1 + z.2.2, rfl, hC.same s38, hL3.same s38, by omega, (fun c hc => (oks c hc).2.1), fewL, B.nn, held_ne Ar.I C Ar.C lg p, fun H9 t cc r s9 et eh => ?_⟩
            have hd := held_ex up eh
            have oc := oks _ hd.mem
            have hw := hd.w
            refine ⟨t, _, rfl, .inl (.inl et), rfl, _, _, rfl, _, _, rfl, rfl, ?_⟩
            dsimp only [List.set]
            refine ⟨(cw (L cc.j) cc.p).toNat, by omega, cc.j, cc.p, dn ++ [(i, z.2.1, k)], bs ++ [T], ⟨_, _, _, rfl⟩, s38.trans s9, s9 _ _ eF8, hR8.same s9, .inr ⟨oc.2.2.1, rfl, oc.2.1, oc.2.2.2, fun r' h' => ?_, us ++ [cc], by rw [List.length_append, List.length_append, lus]; rfl, ?_, fun u hu => ?_⟩⟩
            · rw [List.append_assoc]
              exact go _ (.step lg p hd h')
            · rw [List.nodup_append]
              refine ⟨nus, by simp, fun u hu v hv e => ?_⟩
              rw [List.mem_singleton.mp hv] at e
              have := (mus u hu).2
              rw [e] at this
              omega
            · rcases List.mem_append.mp hu with h | h
              · have := mus u h
                exact ⟨this.1, by omega⟩
              · rw [List.mem_singleton.mp h]
                exact ⟨hd.mem, Int.le_refl _⟩
          · refine iteFv (decide_eq_false p) ?_
            refine ⟨_, rfl, (show 2 ≤ sizeLine by decide), fun G nG => ⟨G, _, rfl, .inl (.inl upd_same), rfl, _, _, rfl, _, _, rfl, rfl, ?_⟩⟩
            have sG := same_new (o := HO.tup [V.int (i : Int), V.int 0]) nG
            dsimp only [List.set]
            have lu : us.length ≤ cs.length := nodup_sub_len nus fun u hu => (mus u hu).1
            exact ⟨0, by omega, i, 0, dn ++ [(i, z.2.1, k)], bs ++ [T], ⟨_, _, _, rfl⟩, s38.trans sG, sG _ _ eF8, hR8.same sG, .inl ⟨rfl, rfl, go _ (.stop lg (by omega)), by rw [List.length_append, List.length_singleton]; omega⟩⟩
end
end K49

set_option Elab.async false
set_option linter.all false
set_option maxRecDepth 100000
namespace K49
open PySem PySem.Spec PyProof.Rows L2 NB

/-! ### rules that are met along one way gone -/
structure CutsOf (one other : List Int) (rs : List Rl) (hs : List (List Int)) : Prop where
  len : ∀ h ∈ hs, h.length = one.length
  up : hs.Pairwise fun a b => ∀ i, i < one.length → gn one other i (plc a i) ≤ gn one other i (plc b i)
  at' : ∀ q ∈ rs, ∃ h ∈ hs, inB h q.1 = true ∧ inB h q.2 = true
theorem CutsOf.need {one other tops : List Int} {rs : List Rl} {hs : List (List Int)} {nds : List ND} (C : CutsOf one other rs hs) (lo : one.length = tops.length) (lo' : other.length = tops.length) (rok : ∀ q ∈ rs, RuleOk tops q) (N : NdsOf one other rs nds) {n : ND} (hn : n ∈ nds) : ∃ h ∈ hs, gn one other n.i (plc h n.i) ≤ gn one other n.i n.s ∧ gn one other n.j n.p ≤ gn one other n.j (plc h n.j) := by
  obtain ⟨q, hq, h⟩ := cands_mem.mp ((N.is.mem n.toL).mp (List.mem_map.mpr ⟨n, hn, rfl⟩))
  have main : ∀ {l e : Sd} {st : List Int}, st.length = one.length → SideOk tops l → SideOk tops e → inB st l = true → inB st e = true → needOf one other l e = some n.toL → gn one other n.i (plc st n.i) ≤ gn one other n.i n.s ∧ gn one other n.j n.p ≤ gn one other n.j (plc st n.j) := fun {l e st} ls hl he k1 k2 h => by
    obtain ⟨sh, h1, h2, _⟩ := needOf_shape h
    have en : n = ⟨l.1, l.2.2, e.1, e.2.2⟩ := toL_inj sh
    subst en
    have ll := (List.getElem?_eq_some_iff.mp hl.choose_spec.1).1
    have le := (List.getElem?_eq_some_iff.mp he.choose_spec.1).1
    rw [left_in (one := one) (other := other) (by omega) (by omega) (by omega) h1, decide_eq_true_eq] at k1
    rw [enter_in (one := one) (other := other) (by omega) (by omega) (by omega) h2, decide_eq_true_eq] at k2
    exact ⟨k1, k2⟩
  obtain ⟨st, hst, k1, k2⟩ := C.at' q hq
  have ls := C.len st hst
  have ok := rok q hq
  rcases h with h | h
  · exact ⟨st, hst, main ls ok.1 ok.2 k1 k2 h⟩
  · exact ⟨st, hst, main ls ok.2 ok.1 k2 k1 h⟩
theorem ring_next {one other : List Int} {nds r : List ND} (R : RingAt one other nds r) : ∀ n, n ∈ r → n ∈ nds ∧ ∃ m, m ∈ r ∧ n.j = m.i ∧ gn one other m.i m.s < gn one other n.j n.p := fun n hn => by
  obtain ⟨k, hk, e⟩ := List.getElem_of_mem hn
  have hk' : k < (r.drop 1 ++ r.take 1).length := by
    rw [List.length_append, List.length_drop, List.length_take]
    omega
  have h := R.2 k n _ (by rw [List.getElem?_eq_getElem hk, e]) (List.getElem?_eq_getElem hk')
  refine ⟨h.1, _, ?_, h.2.1, h.2.2⟩
  rcases List.mem_append.mp (List.getElem_mem hk') with z | z
  · exact List.mem_of_mem_drop z
  · exact List.mem_of_mem_take z
theorem CutsOf.noring {one other tops : List Int} {rs : List Rl} {hs : List (List Int)} {nds r : List ND} (C : CutsOf one other rs hs) (lo : one.length = tops.length) (lo' : other.length = tops.length) (rok : ∀ q ∈ rs, RuleOk tops q) (N : NdsOf one other rs nds) (R : RingAt one other nds r) : False := by
  have go : ∀ t : Nat, ∀ n ∈ r, ∀ ht : t < hs.length, gn one other n.i (plc hs[t] n.i) ≤ gn one other n.i n.s → gn one other n.j n.p ≤ gn one other n.j (plc hs[t] n.j) → False := by
    intro t
    induction t using Nat.strongRecOn with
    | _ t ih =>
      intro n hn ht a b
      obtain ⟨hnd, m, hm, ej, lt⟩ := ring_next R n hn
      obtain ⟨g, hg, a', b'⟩ := C.need lo lo' rok N (ring_next R m hm).1
      obtain ⟨u, hu, rfl⟩ := List.getElem_of_mem hg
      rcases Nat.lt_or_ge u t with c | c
      · exact ih u c m hm hu a' b'
      · have lj := (N.ok n hnd).lj
        have le : gn one other n.j (plc hs[t] n.j) ≤ gn one other n.j (plc hs[u] n.j) := by
          rcases Nat.lt_or_eq_of_le c with z | z
          · exact List.pairwise_iff_getElem.mp C.up t u ht hu z n.j lj
          · subst z
            exact Int.le_refl _
        rw [ej] at b le lt
        omega
  obtain ⟨ne, _⟩ := id R
  cases r with
  | nil => exact ne rfl
  | cons n r =>
    obtain ⟨h, hh, a, b⟩ := C.need lo lo' rok N (ring_next R n List.mem_cons_self).1
    obtain ⟨t, ht, rfl⟩ := List.getElem_of_mem hh
    exact go t n List.mem_cons_self ht a b
theorem gn_other {one other : List Int} {i : Nat} {p q : Int} (hp : one.getD i 0 = other.getD i 0 → p = q) (h : gn one other i p ≤ gn one other i q) : gn other one i q ≤ gn other one i p := by
  unfold gn gone at h ⊢
  split at h <;> split <;> omega
/-- the same way gone back -/
theorem CutsOf.back {one other : List Int} {rs : List Rl} {hs : List (List Int)} (C : CutsOf one other rs hs) (lo : other.length = one.length) (w : ∀ h ∈ hs, ∀ i, one.getD i 0 = other.getD i 0 → plc h i = one.getD i 0) : CutsOf other one rs hs.reverse := by
  refine ⟨fun h hh => by rw [lo]; exact C.len h (List.mem_reverse.mp hh), ?_, fun q hq => ?_⟩
  · rw [List.pairwise_reverse]
    refine C.up.imp_of_mem fun {a b} ha hb h i hi => gn_other (fun e => ?_) (h i (by omega))
    rw [w a ha i e, w b hb i e]
  · obtain ⟨h, hh, k⟩ := C.at' q hq
    exact ⟨h, List.mem_reverse.mpr hh, k⟩

/-! ### the law's long tops -/
section
variable {P : Program} {w : World} {K : PySem.W.Frag} {mg : Str → Option Value} {base : Heap}
def spLt : Sp := fun vs H Q _ => ∃ (a : Addr) (c : Nat), vs = [.ref a] ∧ PotAt H a c ∧ c < 600000 ∧
  ∀ H' t tops, But a H H' → PotAt H' a (c + 60) → H' t = some (.tup (tops.map V.int)) → 2 ≤ tops.length → tops.length ≤ 12 → Pl tops → Q (.ref t) H'
abbrev a__law_long_tops : Stmt := topS 64
abbrev n__law_long_tops : List Str := ["_law_pot_here", "_law_found", "_law_thing", "_law_great"]
theorem sc__law_long_tops : FnScope n__law_long_tops ["_law_pot_here"] (defScope a__law_long_tops) := ⟨rfl, rfl, rfl, by decide +kernel, rfl, by decide +kernel, by decide +kernel⟩
set_option maxHeartbeats 8000000 in
theorem ok__law_long_tops {f fTk fLo : Addr} {fd fdTk fdLo : FuncData} {k : Nat}  (F : Fun K "_law_long_tops" "_law_long_tops" a__law_long_tops f fd) (Tk : Kn P w K mg base 1 "_law_take" ["_law_pot_here", "_law_many"] spTake fTk fdTk) (Lo : Kn P w K mg base 2 "_law_of" ["_law_pot_here", "_law_some"] (spOf K) fLo fdLo)  (m_range : mg "range" = none) (m_tuple : mg "tuple" = none) : FnOk P w K mg base CX0 (k + 5) f fd ["_law_pot_here"] spLt := by
  refine F.ok sc__law_long_tops (fun vs H Q E h => ?_) (fun cdv A outer s H vs Q E hr h => ?_)
  · obtain ⟨a, c, rfl, _⟩ := h
    rfl
  · obtain ⟨a, c, rfl, pa, hc, q⟩ := h
    refine ⟨_, (pss_cons (ps_set (i := 1) sc__law_long_tops.nd rfl (.inl rfl) (pe_lst pa_nil))
      (pss_cons (ps_for PassesOwn.never rfl (pi_range1 (by rfl) m_range (pa_cons (pe_op op_add pe_int (pe_kn Tk hr (by omega) (pa_cons (pv 0) (pa_cons pe_int pa_nil)))) pa_nil)) (pg_name (i := 2) sc__law_long_tops.nd rfl (.inl rfl))
        (pss_cons (ps_set (i := 3) sc__law_long_tops.nd rfl (.inl rfl) (pe_op op_add (pe_op op_mul (pe_kn Tk hr (by omega) (pa_cons (pv 0) (pa_cons (pe_op (r := rI CPowW fun i j => .int (i ^ j.toNat)) op_powW pe_int pe_int) pa_nil))) (pe_op (r := rI CPowW fun i j => .int (i ^ j.toNat)) op_powW pe_int pe_int)) (pe_kn Tk hr (by omega) (pa_cons (pv 0) (pa_cons (pe_op (r := rI CPowW fun i j => .int (i ^ j.toNat)) op_powW pe_int pe_int) pa_nil)))))
      (pss_one (ps_expr (pe_bm PySem.F.plainAttrs_list PySem.F.slot_list_append PySem.F.type_list_append mt_append (pv 1) (pa_cons (pe_kn Lo hr (by omega) (pa_cons (pv 0) (pa_cons (pe_lst (pa_cons pe_int (pa_cons pe_int (pa_cons pe_int (pa_cons pe_int (pa_cons (pv 3) (pa_cons (pe_op op_sub (pe_op (r := rI CPowW fun i j => .int (i ^ j.toNat)) op_powW pe_int pe_int) pe_int) pa_nil))))))) pa_nil))) pa_nil))))))
      (pss_one (ps_ret (pe_callTy call_tuple_of (by rfl) m_tuple (by decide +kernel) (pa_cons (pv 1) pa_nil)))))), ?_⟩
    refine ⟨Nat.zero_le _, fun D nD => ?_⟩
    have nDa : D ≠ a := pa.ne nD
    refine ⟨.ref a, rfl, a, 11, c, rfl, pot_upd pa nDa, by decide, by decide, by omega, fun d H1 b1 p1 d0 d1 => ?_⟩
    have eD1 := b1 _ _ nDa (upd_same : (upd H D (.lst [])) D = some (.lst []))
    have b01 : But a H H1 := (But.of (same_new nD)).trans b1
    refine ⟨2, d, rfl, rfl, _, rfl, by omega, by omega, for_it walk_range (fun i σ H' => (∃ u2 u3, σ = [some (.ref a), some (.ref D), u2, u3]) ∧ But a H H' ∧ PotAt H' a (c + 1 + 3 * i) ∧ ∃ ts : List Int, H' D = some (.lst (ts.map V.int)) ∧ ts.length = i ∧ ∀ x ∈ ts, 0 ≤ x ∧ x < 10 ^ 28)
      ⟨⟨_, _, rfl⟩, b01, p1, [], eD1, rfl, fun _ h => absurd h List.not_mem_nil⟩ (fun _ _ _ _ _ => trivial) (fun i v σ H2 H3 hi y z => ?_) (fun σ H2 y => ?_)⟩
    · obtain ⟨⟨u2, u3, rfl⟩, b2, p2, ts, eD, lt, bd⟩ := y
      obtain ⟨rfl, rfl⟩ := z
      have hi' : i < 12 := by omega
      have e13 : (10 : Int) ^ (13 : Int).toNat = 10000000000000 := by decide
      have e15 : (10 : Int) ^ (15 : Int).toNat = 1000000000000000 := by decide
      have e28 : (10 : Int) ^ (28 : Int).toNat = 10000000000000000000000000000 := by decide
      have nDa2 : D ≠ a := nDa
      refine ⟨_, rfl, 10, 13, rfl, rfl, ⟨by decide, by decide⟩, ?_⟩
      refine ⟨a, 10 ^ (13 : Int).toNat, _, rfl, p2, by decide, by decide, by omega, fun g H4 b4 p4 g0 g1 => ?_⟩
      refine ⟨10, 15, rfl, rfl, ⟨by decide, by decide⟩, g, _, rfl, rfl, .inr ⟨by decide, by decide⟩, ?_⟩
      refine ⟨_, rfl, 10, 15, rfl, rfl, ⟨by decide, by decide⟩, ?_⟩
      refine ⟨a, 10 ^ (15 : Int).toNat, _, rfl, p4, by decide, by decide, by omega, fun h H5 b5 p5 h0 h1 => ?_⟩
      refine ⟨_, _, rfl, rfl, ?_⟩
      dsimp only [List.set]
      have eD5 := b5 _ _ nDa (b4 _ _ nDa eD)
      rw [e13] at g1
      rw [e15] at h1 ⊢
      have gb : 0 ≤ g * 1000000000000000 + h ∧ g * 1000000000000000 + h < 10 ^ 28 := by omega
      generalize g * 1000000000000000 + h = G at gb ⊢
      refine ⟨_, rfl, .inl ⟨rfl, _, .inl (.inl eD5)⟩, _, rfl, _, rfl, 10, 28, rfl, rfl, ⟨by decide, by decide⟩, _, 1, rfl, rfl, (show 6 ≤ sizeLine by decide), fun l nl => ?_⟩
      rw [e28]
      have sl := same_new (o := HO.lst [V.int 1, V.int 2, V.int 3, V.int 9, V.int G, V.int (10000000000000000000000000000 - 1)]) nl
      refine ⟨a, l, [V.int 1, V.int 2, V.int 3, V.int 9, V.int G, V.int (10000000000000000000000000000 - 1)], _, rfl, p5.keep sl, p5.ne nl, .inl (.inl (.inl upd_same)), (show 1 ≤ 6 by decide), (show 6 ≤ 1000000 by decide), by omega, fun u H6 hu b6 p6 => ?_⟩
      obtain ⟨n, rfl, n0, n1⟩ : ∃ n : Int, u = .int n ∧ 0 ≤ n ∧ n < 10 ^ 28 := by
        simp only [List.mem_cons, List.not_mem_nil, or_false] at hu
        rcases hu with rfl | rfl | rfl | rfl | rfl | rfl
        · exact ⟨_, rfl, by decide, by decide⟩
        · exact ⟨_, rfl, by decide, by decide⟩
        · exact ⟨_, rfl, by decide, by decide⟩
        · exact ⟨_, rfl, by decide, by decide⟩
        · exact ⟨_, rfl, gb.1, gb.2⟩
        · exact ⟨_, rfl, by decide, by decide⟩
      have eD6 := b6 _ _ nDa (sl _ _ eD5)
      have bAll : But a H H6 := (((b2.trans b4).trans b5).trans (But.of sl)).trans b6
      refine ⟨D, _, _, rfl, rfl, eD6, by rw [List.length_map]; exact small1000 (by omega), ⟨_, _, rfl⟩, but_new bAll nD, pot_upd (p6.mono (by omega)) nDa, ts ++ [n], by rw [upd_same, List.map_append]; rfl, by rw [List.length_append, lt]; rfl, fun y hy => ?_⟩
      rcases List.mem_append.mp hy with h | h
      · exact bd y h
      · rw [List.mem_singleton.mp h]
        exact ⟨n0, n1⟩
    · obtain ⟨⟨u2, u3, rfl⟩, b2, p2, ts, eD, lt, bd⟩ := y
      have l2 : 2 ≤ ts.length := by omega
      have l12 : ts.length ≤ 12 := by omega
      refine ⟨_, rfl, D, _, rfl, .inl ⟨.inl (.inl eD), fun t nt => ?_⟩⟩
      have nta : t ≠ a := p2.ne nt
      exact q _ t ts (b2.trans (But.of (same_new nt))) (pot_upd (p2.mono (by omega)) nta) upd_same l2 l12 fun x hx => ⟨(bd x hx).1, Int.lt_trans (bd x hx).2 (by decide)⟩
end
end K49

set_option Elab.async false
set_option linter.all false
set_option maxRecDepth 100000
namespace K49
open PySem PySem.Spec PyProof.Rows L2 NB

/-! ### the law's rules along one way -/
def setL (xs : List Int) (i : Nat) (v : Int) : List Int := xs.set i v
theorem gn_on {one two : List Int} {i : Nat} {p d : Int} (hd : 0 ≤ d) (hp : gn one two i p + d ≤ tot one two i) (h : 0 < tot one two i) : gn one two i (p + (if two.getD i 0 > one.getD i 0 then d else 0 - d)) = gn one two i p + d := by
  rw [tot_eq] at h
  unfold gn gone
  split <;> split <;> omega
theorem far_gn {one two : List Int} {i : Nat} {p : Int} (h0 : 0 ≤ gn one two i p) (h1 : gn one two i p ≤ tot one two i) : ((two.getD i 0 - p).natAbs : Int) = tot one two i - gn one two i p := by
  rw [tot_eq] at h1 ⊢
  unfold gn gone at *
  split at h0 <;> simp_all <;> omega
/-- rules drawn so far, and how far the way is gone -/
structure Drn47 (one two : List Int) (rs : List Rl) (hs : List (List Int)) (hr : List Int) : Prop where
  cuts : CutsOf one two rs hs
  wi : Within one two hr
  wis : ∀ h ∈ hs, Within one two h
  le : ∀ h ∈ hs, ∀ i, i < one.length → gn one two i (plc h i) ≤ gn one two i (plc hr i)
  gd : ∀ q ∈ rs, kept one q = true ∧ kept two q = true
theorem Drn47.first {one two : List Int} (lo : two.length = one.length) : Drn47 one two [] [] one := ⟨⟨fun _ h => absurd h List.not_mem_nil, List.Pairwise.nil, fun _ h => absurd h List.not_mem_nil⟩, ⟨rfl, fun i _ => by
  rw [gn, gone_one]
  exact ⟨Int.le_refl _, tot_nn i⟩⟩, fun _ h => absurd h List.not_mem_nil, fun _ h => absurd h List.not_mem_nil, fun _ h => absurd h List.not_mem_nil⟩
theorem Drn47.on {one two : List Int} {rs : List Rl} {hs : List (List Int)} {hr : List Int} (D : Drn47 one two rs hs hr) {i : Nat} (hi : i < one.length) {v : Int} (h0 : gn one two i (plc hr i) ≤ gn one two i v) (h1 : gn one two i v ≤ tot one two i) : Drn47 one two rs hs (hr.set i v) := by
  have hl : i < hr.length := by rw [D.wi.1]; exact hi
  have at' : ∀ j, j < one.length → gn one two j (plc hr j) ≤ gn one two j (plc (hr.set i v) j) ∧ gn one two j (plc (hr.set i v) j) ≤ tot one two j := fun j hj => by
    by_cases c : i = j
    · subst c
      rw [plc_set_self hl]
      exact ⟨h0, h1⟩
    · rw [plc_set_ne c]
      exact ⟨Int.le_refl _, (D.wi.2 j hj).2⟩
  refine ⟨D.cuts, ⟨by rw [List.length_set]; exact D.wi.1, fun j hj => ⟨Int.le_trans (D.wi.2 j hj).1 (at' j hj).1, (at' j hj).2⟩⟩, D.wis, fun h hh j hj => Int.le_trans (D.le h hh j hj) (at' j hj).1, D.gd⟩
theorem Drn47.more {one two : List Int} {rs : List Rl} {hs : List (List Int)} {hr : List Int} (D : Drn47 one two rs hs hr) {q : Rl} (h1 : inB hr q.1 = true) (h2 : inB hr q.2 = true) (g : kept one q = true ∧ kept two q = true) : Drn47 one two (rs ++ [q]) (hs ++ [hr]) hr := by
  refine ⟨⟨fun h hh => ?_, ?_, fun r hr' => ?_⟩, D.wi, fun h hh => ?_, fun h hh j hj => ?_, fun r hr' => ?_⟩
  · rcases List.mem_append.mp hh with z | z
    · exact D.cuts.len h z
    · rw [List.mem_singleton.mp z]
      exact D.wi.1
  · rw [List.pairwise_append]
    refine ⟨D.cuts.up, List.pairwise_singleton _ _, fun x hx y hy => ?_⟩
    rw [List.mem_singleton.mp hy]
    exact D.le x hx
  · rcases List.mem_append.mp hr' with z | z
    · obtain ⟨h, hh, k⟩ := D.cuts.at' r z
      exact ⟨h, List.mem_append_left _ hh, k⟩
    · rw [List.mem_singleton.mp z]
      exact ⟨hr, List.mem_append_right _ (List.mem_singleton.mpr rfl), h1, h2⟩
  · rcases List.mem_append.mp hh with z | z
    · exact D.wis h z
    · rw [List.mem_singleton.mp z]
      exact D.wi
  · rcases List.mem_append.mp hh with z | z
    · exact D.le h z j hj
    · rw [List.mem_singleton.mp z]
      exact Int.le_refl _
  · rcases List.mem_append.mp hr' with z | z
    · exact D.gd r z
    · rw [List.mem_singleton.mp z]
      exact g
theorem within_same {one two h : List Int} (lo : two.length = one.length) (w : Within one two h) : ∀ i, one.getD i 0 = two.getD i 0 → plc h i = one.getD i 0 := fun i e => by
  rcases Nat.lt_or_ge i one.length with c | c
  · have a := w.2 i c
    rw [tot_eq] at a
    unfold gn gone at a
    split at a <;> omega
  · have := w.1
    unfold plc
    rw [List.getD_eq_getElem?_getD, List.getD_eq_getElem?_getD, List.getElem?_eq_none (by omega), List.getElem?_eq_none (by omega)]
section
variable {P : Program} {w : World} {K : PySem.W.Frag} {mg : Str → Option Value} {base : Heap}
def spDr : Sp := fun vs H Q _ => ∃ (a o1 o2 : Addr) (tops one two : List Int) (m : Int) (c : Nat), vs = [.ref a, .ref o1, .ref o2, .int m] ∧ PotAt H a c ∧ c < 600000 ∧ H o1 = some (.tup (one.map V.int)) ∧ H o2 = some (.tup (two.map V.int)) ∧ tops.length ≤ 12 ∧ Pl tops ∧ one.length = tops.length ∧ two.length = tops.length ∧ Pl one ∧ Pl two ∧ Le one tops ∧ Le two tops ∧ 0 ≤ m ∧ m ≤ 12 ∧
  ∀ H' R rs hs hr, But a H H' → PotAt H' a (c + 60) → RulesAt H' R rs → rs.length ≤ 12 → (∀ q ∈ rs, RuleOk tops q) → Drn47 one two rs hs hr → Q (.ref R) H'
abbrev a__law_done_rules : Stmt := topS 65
abbrev n__law_done_rules : List Str := ["_law_pot_here", "_law_one", "_law_two", "_law_many", "_law_here", "_law_found", "_law_turn", "_law_thing", "_law_going", "_law_mover", "_law_span", "_law_left", "_law_leaving", "_law_coming"]
theorem sc__law_done_rules : FnScope n__law_done_rules ["_law_pot_here", "_law_one", "_law_two", "_law_many"] (defScope a__law_done_rules) := ⟨rfl, rfl, rfl, by decide +kernel, rfl, by decide +kernel, by decide +kernel⟩
set_option maxHeartbeats 8000000 in
theorem ok__law_done_rules {f fTk fLo : Addr} {fd fdTk fdLo : FuncData} {k : Nat}  (F : Fun K "_law_done_rules" "_law_done_rules" a__law_done_rules f fd) (Tk : Kn P w K mg base 1 "_law_take" ["_law_pot_here", "_law_many"] spTake fTk fdTk) (Lo : Kn P w K mg base 2 "_law_of" ["_law_pot_here", "_law_some"] (spOf K) fLo fdLo)  (m_abs : mg "abs" = none) (m_len : mg "len" = none) (m_list : mg "list" = none) (m_range : mg "range" = none) (m_tuple : mg "tuple" = none) : FnOk P w K mg base CX0 (k + 4) f fd ["_law_pot_here", "_law_one", "_law_two", "_law_many"] spDr := by
  refine F.ok sc__law_done_rules (fun vs H Q E h => ?_) (fun cdv A outer s H vs Q E hr h => ?_)
  · obtain ⟨a, o1, o2, tops, one, two, m, c, rfl, _⟩ := h
    rfl
  · obtain ⟨a, o1, o2, tops, one, two, m, c, rfl, pa, hc, e1, e2, l12, pl, lo1, lo2, p1, p2, le1, le2, m0, m1, q⟩ := h
    refine ⟨_, (pss_cons (ps_asg (pe_tup (pa_cons (pe_callTy call_list_of (by rfl) m_list (by decide +kernel) (pa_cons (pv 1) pa_nil)) (pa_cons (pe_lst pa_nil) pa_nil))) (pg_tup rfl (pgs_cons (pg_name (i := 4) sc__law_done_rules.nd rfl (.inr rfl)) (pgs_cons (pg_name (i := 5) sc__law_done_rules.nd rfl (.inl rfl)) pgs_nil))))
      (pss_cons (ps_for PassesOwn.never rfl (pi_range1 (by rfl) m_range (pa_cons (pv 3) pa_nil)) (pg_name (i := 6) sc__law_done_rules.nd rfl (.inl rfl))
        (pss_cons (ps_setLc (i := 8) (own := [("_law_thing", 7)]) (g := (gName 7)) (tt := (tTest (tOp rNe (tOp (rIxL K) (tVar 4) (tVar 7)) (tOp (rIxT K) (tVar 2) (tVar 7))))) (te := (tVar 7)) rfl sc__law_done_rules.nd rfl rfl (sw_true rfl rfl rfl (by decide +kernel)) (pi_range1 (by rfl) m_range (pa_cons (pe_callB call_len_seq (by rfl) m_len (by decide +kernel) (pa_cons (pv 1) pa_nil)) pa_nil)) (blkOk_by (N := n__law_done_rules) (sc := defScope a__law_done_rules) (by decide +kernel))
          (fun _ _ _ _ _ => (pg_name (i := 7) sc__law_done_rules.nd rfl (.inl rfl) (hf := .inr rfl))) (fun _ _ _ _ _ => pts_one (pt_cmpR op_ne (pe_ix (r := rIxL K) ix_list (pv 4) (pv 7) (fun _ _ => rfl)) (pe_ix (r := rIxT K) ix_tup (pv 2) (pv 7) (fun _ _ => rfl)) (nomark _))) (fun _ _ _ _ _ => (pv 7)))
      (pss_one (ps_if (pt_cmpR (op_neD hr.units) (pv 8) (pe_lst pa_nil) (nomark _)) (pss_cons (ps_set (i := 9) sc__law_done_rules.nd rfl (.inr rfl) (pe_kn Lo hr (by omega) (pa_cons (pv 0) (pa_cons (pv 8) pa_nil))))
      (pss_cons (ps_set (i := 10) sc__law_done_rules.nd rfl (.inl rfl) (pe_op op_add pe_int (pe_kn Tk hr (by omega) (pa_cons (pv 0) (pa_cons (pe_callB call_abs (by rfl) m_abs (by decide +kernel) (pa_cons (pe_op op_sub (pe_ix ix_tup (pv 2) (pv 9) (fun _ _ => rfl)) (pe_ix ix_list (pv 4) (pv 9) (fun _ _ => rfl))) pa_nil)) pa_nil)))))
      (pss_cons (ps_asg (pe_op op_add (pe_ix ix_list (pv 4) (pv 9) (fun _ _ => rfl)) (pe_ifExp (pt_cmpR op_gt (pe_ix ix_tup (pv 2) (pv 9) (fun _ _ => rfl)) (pe_ix ix_tup (pv 1) (pv 9) (fun _ _ => rfl)) (nomark _)) (pv 10) (pe_op op_sub pe_int (pv 10)))) (pg_sub (pv 4) (pv 9) set_list))
      (pss_cons (ps_setLc (i := 11) (own := [("_law_thing", 7)]) (g := (gName 7)) (tt := (tAnd (tTest (tOp rNe (tOp (rIxL K) (tVar 4) (tVar 7)) (tOp (rIxT K) (tVar 2) (tVar 7)))) (tTest (tOp rNe (tVar 7) (tVar 9))))) (te := (tVar 7)) rfl sc__law_done_rules.nd rfl rfl (sw_true rfl rfl rfl (by decide +kernel)) (pi_range1 (by rfl) m_range (pa_cons (pe_callB call_len_seq (by rfl) m_len (by decide +kernel) (pa_cons (pv 1) pa_nil)) pa_nil)) (blkOk_by (N := n__law_done_rules) (sc := defScope a__law_done_rules) (by decide +kernel))
          (fun _ _ _ _ _ => (pg_name (i := 7) sc__law_done_rules.nd rfl (.inl rfl) (hf := .inr rfl))) (fun _ _ _ _ _ => pts_one (PW.pt (pw_and (pt_cmpR op_ne (pe_ix (r := rIxL K) ix_list (pv 4) (pv 7) (fun _ _ => rfl)) (pe_ix (r := rIxT K) ix_tup (pv 2) (pv 7) (fun _ _ => rfl)) (nomark _)) (pw_and1 (pt_cmpR op_ne (pv 7) (pv 9) (nomark _)))))) (fun _ _ _ _ _ => (pv 7)))
      (pss_one (ps_if (pt_cmpR (op_neD hr.units) (pv 11) (pe_lst pa_nil) (nomark _)) (pss_cons (ps_set (i := 7) sc__law_done_rules.nd rfl (.inl rfl) (pe_kn Lo hr (by omega) (pa_cons (pv 0) (pa_cons (pv 11) pa_nil))))
      (pss_cons (ps_set (i := 12) sc__law_done_rules.nd rfl (.inl rfl) (pe_tup (pa_cons (pv 7) (pa_cons (pe_ifExp (pt_cmpR op_gt (pe_ix ix_tup (pv 2) (pv 7) (fun _ _ => rfl)) (pe_ix ix_tup (pv 1) (pv 7) (fun _ _ => rfl)) (nomark _)) pe_str pe_str) (pa_cons (pe_ix ix_list (pv 4) (pv 7) (fun _ _ => rfl)) pa_nil)))))
      (pss_cons (ps_set (i := 13) sc__law_done_rules.nd rfl (.inl rfl) (pe_tup (pa_cons (pv 9) (pa_cons (pe_ifExp (pt_cmpR op_gt (pe_ix ix_tup (pv 2) (pv 9) (fun _ _ => rfl)) (pe_ix ix_tup (pv 1) (pv 9) (fun _ _ => rfl)) (nomark _)) pe_str pe_str) (pa_cons (pe_ix ix_list (pv 4) (pv 9) (fun _ _ => rfl)) pa_nil)))))
      (pss_one (ps_expr (pe_bm PySem.F.plainAttrs_list PySem.F.slot_list_append PySem.F.type_list_append mt_append (pv 5) (pa_cons (pe_ifExp (pt_cmpR op_eq (pe_kn Tk hr (by omega) (pa_cons (pv 0) (pa_cons pe_int pa_nil))) pe_int (nomark _)) (pe_tup (pa_cons (pv 12) (pa_cons (pv 13) pa_nil))) (pe_tup (pa_cons (pv 13) (pa_cons (pv 12) pa_nil)))) pa_nil))))))) pss_nil)))))) pss_nil))))
      (pss_one (ps_ret (pe_callTy call_tuple_of (by rfl) m_tuple (by decide +kernel) (pa_cons (pv 5) pa_nil)))))), ?_⟩
    refine ⟨_, rfl, o1, _, rfl, .inr (.inl (.inl e1)), fun Dh nDh => ?_⟩
    have s1 := same_new (o := HO.lst (one.map V.int)) nDh
    refine ⟨Nat.zero_le _, fun F nF => ⟨(show 2 ≤ sizeLine by decide), fun T nT => ⟨T, _, rfl, .inl (.inl upd_same), rfl, _, _, rfl, _, _, rfl, rfl, ?_⟩⟩⟩
    have s2 := s1.trans (same_new (o := HO.lst []) nF)
    have s3 := s2.trans (same_new (o := HO.tup [V.ref Dh, V.ref F]) nT)
    have eDh : (upd (upd (upd H Dh (.lst (one.map V.int))) F (.lst [])) T (.tup [.ref Dh, .ref F])) Dh = some (.lst (one.map V.int)) := (same_new nT) _ _ ((same_new nF) _ _ upd_same)
    have eF : (upd (upd (upd H Dh (.lst (one.map V.int))) F (.lst [])) T (.tup [.ref Dh, .ref F])) F = some (.lst []) := (same_new nT) _ _ upd_same
    have nDha : Dh ≠ a := pa.ne nDh
    have w2x : (2 : Nat) ≤ sizeLine := by decide
    have nF' : H F = none := s1.free nF
    have nFa : F ≠ a := (pa.keep s1).ne nF
    have nFD : F ≠ Dh := fun z => by
      rw [z, upd_same] at nF
      cases nF
    have nDhF : Dh ≠ F := fun z => nFD z.symm
    generalize (upd (upd (upd H Dh (.lst (one.map V.int))) F (.lst [])) T (.tup [.ref Dh, .ref F])) = H3 at s3 eDh eF ⊢
    have l21 : two.length = one.length := by omega
    dsimp only [List.set]
    refine ⟨_, rfl, _, rfl, by omega, by omega, for_it walk_range (fun i σ H' => (∃ u6 u7 u8 u9 u10 u11 u12 u13, σ = [some (.ref a), some (.ref o1), some (.ref o2), some (.int m), some (.ref Dh), some (.ref F), u6, u7, u8, u9, u10, u11, u12, u13]) ∧ But a H H' ∧ PotAt H' a (c + 4 * i) ∧ ∃ (hr : List Int) (as : List Addr) (rs : List Rl) (hs : List (List Int)), H' Dh = some (.lst (hr.map V.int)) ∧ H' F = some (.lst (as.map V.ref)) ∧ as.length = rs.length ∧ rs.length ≤ i ∧ (∀ (k : Nat) (r : Addr) (y : Rl), as[k]? = some r → rs[k]? = some y → RuleAt H' r y) ∧ (∀ y ∈ rs, RuleOk tops y) ∧ Drn47 one two rs hs hr)
      ⟨⟨_, _, _, _, _, _, _, _, rfl⟩, But.of s3, pa.keep s3, one, [], [], [], eDh, eF, rfl, Nat.zero_le _, fun k r y h => by simp at h, fun _ h => absurd h List.not_mem_nil, Drn47.first l21⟩ (fun _ _ _ _ _ => trivial) (fun i v σ H4 H5 hi y z => ?_) (fun σ H4 y => ?_)⟩
    rotate_left
    · obtain ⟨⟨u6, u7, u8, u9, u10, u11, u12, u13, rfl⟩, b4, p4, hr, as, rs, hs, eD4, eF4, la, lr, ra, ok, Dn⟩ := y
      refine ⟨_, rfl, F, _, rfl, .inl ⟨.inl (.inl eF4), fun t nt => ?_⟩⟩
      have st := same_new (o := HO.tup (as.map V.ref)) nt
      have nta : t ≠ a := p4.ne nt
      exact q _ t rs hs hr (b4.trans (But.of st)) ((p4.keep st).mono (by omega)) ⟨as, upd_same, la, fun k r y h1 h2 => (ra k r y h1 h2).keep (.same st)⟩ (by omega) ok Dn
    obtain ⟨⟨u6, u7, u8, u9, u10, u11, u12, u13, rfl⟩, b4, p4, hr, as, rs, hs, eD4, eF4, la, lr, ra, ok, Dn⟩ := y
    obtain ⟨rfl, rfl⟩ := z
    have i12 : i < 12 := by omega
    have lhr : hr.length = one.length := Dn.wi.1
    have e1' := (Keep.but b4 pa).tup e1
    have e2' := (Keep.but b4 pa).tup e2
    dsimp only [List.set]
    have ix1 : ∀ {G : Hp} {j : Nat}, G o1 = some (.tup (one.map V.int)) → j < one.length → atI (one.map V.int) (j : Int) = some (.int (one.getD j 0)) := fun {G j} _ hj => by
      rw [List.getD_eq_getElem?_getD, List.getElem?_eq_getElem hj]
      exact at_int hj
    have ix2 : ∀ {j : Nat}, j < one.length → atI (two.map V.int) (j : Int) = some (.int (two.getD j 0)) := fun {j} hj => by
      have hj' : j < two.length := by omega
      rw [List.getD_eq_getElem?_getD, List.getElem?_eq_getElem hj']
      exact at_int hj'
    have ixh : ∀ {xs : List Int} {j : Nat}, xs.length = one.length → j < one.length → atI (xs.map V.int) (j : Int) = some (.int (plc xs j)) := fun {xs j} l hj => by
      rw [plc_get (by omega)]
      exact at_int (by omega)
    refine ⟨_, rfl, o1, _, rfl, .inr (.inl (.inl e1')), ?_⟩
    rw [List.length_map]
    refine ⟨_, rfl, by omega, by omega, fun D1 nD1 => ?_⟩
    rw [Int.toNat_natCast]
    have nD1a : D1 ≠ a := p4.ne nD1
    refine lc_it walk_range (fun j H' => Same H5 H' ∧ ∃ ks : List Nat, H' D1 = some (.lst ((ks.map fun (k : Nat) => (k : Int)).map V.int)) ∧ (∀ k ∈ ks, k < one.length ∧ plc hr k ≠ two.getD k 0) ∧ ks.length ≤ j) ⟨same_new nD1, [], upd_same, (fun _ h => absurd h List.not_mem_nil), Nat.le_refl _⟩ (fun _ _ _ _ => trivial) (fun j v H6 H7 hj y z => ?_) (fun H6 y => ?_)
    · obtain ⟨s6, ks, eD, hk, lk⟩ := y
      obtain ⟨rfl, rfl⟩ := z
      refine ⟨wipe_one, ?_⟩
      simp only [Int.zero_add]
      refine ⟨_, rfl, _, rfl, Dh, _, _, _, rfl, rfl, .inl (.inl (s6 _ _ eD4)), ixh lhr hj, _, rfl, _, rfl, o2, _, _, _, rfl, rfl, .inl (.inl (s6 _ _ e2')), ix2 hj, rfl, _, rfl, ?_⟩
      by_cases c : plc hr j = two.getD j 0
      · exact iteFv (by show (!decide (V.int (plc hr j) = V.int (two.getD j 0))) = false; rw [c]; simp) ⟨s6, ks, eD, hk, by omega⟩
      · refine iteTv (by show (!decide (V.int (plc hr j) = V.int (two.getD j 0))) = true; rw [decide_eq_false fun h => c (V.int.inj h)]; rfl) ⟨_, rfl, _, eD, ?_, same_over s6 nD1, ks ++ [j], by rw [upd_same, List.map_append, List.map_append]; rfl, fun k hk' => ?_, by rw [List.length_append, List.length_singleton]; omega⟩
        · rw [List.length_map, List.length_map]
          exact small1000 (by omega)
        · rcases List.mem_append.mp hk' with h | h
          · exact hk k h
          · rw [List.mem_singleton.mp h]
            exact ⟨hj, c⟩
    obtain ⟨s6, ks, eD6, hk, lk⟩ := y
    have p6 := p4.keep s6
    have b6 := b4.trans (But.of s6)
    dsimp only [List.set]
    refine ⟨_, rfl, Nat.zero_le _, fun E nE => ?_⟩
    have sE := same_new (o := HO.lst []) nE
    refine ⟨_, _, .lst (.inl (.inl (sE _ _ eD6))) (dps _), .lst (.inl (.inl upd_same)) .nil, shaped_ints_l _, rfl, _, rfl, ?_⟩
    rw [eqv_nilL]
    have s67 := s6.trans sE
    have eD7 := sE _ _ eD6
    generalize (upd H6 E (.lst [])) = H7 at s67 eD7 ⊢
    have p7 := p4.keep s67
    have b7 := b4.trans (But.of s67)
    cases ks with
    | nil =>
      refine iteFv rfl ?_
      exact ⟨⟨_, _, _, _, _, _, _, _, rfl⟩, b7, p7.mono (by omega), hr, as, rs, hs, s67 _ _ eD4, s67 _ _ eF4, la, by omega, fun k r y h1 h2 => (ra k r y h1 h2).keep (.same s67), ok, Dn⟩
    | cons k0 ks =>
    refine iteTv rfl ?_
    have e2a := s67 _ _ e2'
    have e1a := s67 _ _ e1'
    have eDa := s67 _ _ eD4
    have eFa := s67 _ _ eF4
    refine ⟨_, rfl, _, rfl, a, D1, _, _, rfl, p7, nD1a, .inl (.inl (.inl eD7)), by simp, by rw [List.length_map, List.length_map]; omega, by omega, fun u H8 hu b8 p8 => ?_⟩
    obtain ⟨k1, hk1, rfl⟩ : ∃ k1, k1 ∈ (k0 :: ks) ∧ u = .int ((k1 : Nat) : Int) := by
      obtain ⟨n, hn, rfl⟩ := List.mem_map.mp hu
      obtain ⟨k1, hk1, rfl⟩ := List.mem_map.mp hn
      exact ⟨k1, hk1, rfl⟩
    have hm := hk k1 hk1
    have e2b := (Keep.but b8 p7).tup e2a
    have e1b := (Keep.but b8 p7).tup e1a
    have eDb := b8 _ _ nDha eDa
    have eFb := b8 _ _ nFa eFa
    have gn0 := Dn.wi.2 k1 hm.1
    have fd := far_gn (one := one) (two := two) (i := k1) gn0.1 gn0.2
    dsimp only [List.set]
    refine ⟨_, rfl, _, rfl, _, rfl, o2, _, _, _, rfl, rfl, .inl (.inl e2b), ix2 hm.1, _, rfl, _, rfl, Dh, _, _, _, rfl, rfl, .inl (.inl eDb), ixh lhr hm.1, _, _, rfl, rfl, _, rfl, ?_⟩
    have eab : (if two.getD k1 0 - plc hr k1 < 0 then -(two.getD k1 0 - plc hr k1) else two.getD k1 0 - plc hr k1) = tot one two k1 - gn one two k1 (plc hr k1) := by
      rw [← fd]
      split <;> omega
    rw [eab]
    have tb : tot one two k1 < 10 ^ 30 := by
      have h1' := p1 _ (List.getElem_mem hm.1)
      have hm2 : k1 < two.length := by omega
      have h2' := p2 _ (List.getElem_mem hm2)
      rw [tot_eq, List.getD_eq_getElem?_getD, List.getD_eq_getElem?_getD, List.getElem?_eq_getElem hm.1, List.getElem?_eq_getElem hm2]
      simp only [Option.getD_some]
      omega
    have far1 : 1 ≤ tot one two k1 - gn one two k1 (plc hr k1) := by
      rw [← fd]
      have := hm.2
      omega
    refine ⟨a, _, _, rfl, p8, far1, Int.lt_trans (show _ < 10 ^ 30 by omega) (by decide), by omega, fun d H9 b9 p9 d0 d1 => ⟨1, d, rfl, rfl, ?_⟩⟩
    have e2c := (Keep.but b9 p8).tup e2b
    have e1c := (Keep.but b9 p8).tup e1b
    have eDc := b9 _ _ nDha eDb
    have eFc := b9 _ _ nFa eFb
    have sp1 : 1 ≤ 1 + d := by omega
    have sp2 : 1 + d ≤ tot one two k1 - gn one two k1 (plc hr k1) := by omega
    dsimp only [List.set]
    refine ⟨_, rfl, _, rfl, Dh, _, _, _, rfl, rfl, .inl (.inl eDc), ixh lhr hm.1, _, rfl, _, rfl, o2, _, _, _, rfl, rfl, .inl (.inl e2c), ix2 hm.1, _, rfl, _, rfl, o1, _, _, _, rfl, rfl, .inl (.inl e1c), ix1 e1c hm.1, _, _, rfl, rfl, _, rfl, tif_join (v := .int (if two.getD k1 0 > one.getD k1 0 then (1 + d) else 0 - (1 + d))) (fun e Q q => ⟨_, rfl, by rw [if_pos (of_decide_eq_true e)] at q; exact q⟩) (fun e Q q => ⟨_, rfl, 0, 1 + d, rfl, rfl, by rw [if_neg (fun z => e (decide_eq_true z))] at q; exact q⟩) ?_⟩
    refine ⟨_, _, rfl, rfl, _, rfl, _, rfl, Dh, _, _, k1, rfl, rfl, eDc, ixN_nat (by rw [List.length_map, lhr]; exact hm.1), ?_⟩
    dsimp only [List.set]
    have far0 : 0 < tot one two k1 := by
      have := (Dn.wi.2 k1 hm.1).1
      omega
    have gon := gn_on (one := one) (two := two) (i := k1) (p := plc hr k1) (d := 1 + d) (by omega) (by omega) far0
    have Dn1 := Dn.on hm.1 (v := plc hr k1 + (if two.getD k1 0 > one.getD k1 0 then 1 + d else 0 - (1 + d))) (by rw [gon]; omega) (by rw [gon]; omega)
    generalize plc hr k1 + (if two.getD k1 0 > one.getD k1 0 then 1 + d else 0 - (1 + d)) = v1 at Dn1 ⊢
    have b9a : But a H H9 := (b7.trans b8).trans b9
    have ra9 : ∀ (k : Nat) (r : Addr) (y : Rl), as[k]? = some r → rs[k]? = some y → RuleAt H9 r y := fun k r y h1 h2 => (((ra k r y h1 h2).keep (.same s67)).keep (Keep.but b8 p7)).keep (Keep.but b9 p8)
    have eHr : (upd H9 Dh (.lst ((hr.map V.int).set k1 (.int v1)))) Dh = some (.lst ((hr.set k1 v1).map V.int)) := by
      rw [upd_same, List.map_set]
    have kU : Keep H9 (upd H9 Dh (.lst ((hr.map V.int).set k1 (.int v1)))) := .upd eDc
    have eF10 : (upd H9 Dh (.lst ((hr.map V.int).set k1 (.int v1)))) F = some (.lst (as.map V.ref)) := by
      rw [upd_ne nFD]
      exact eFc
    have b10 : But a H (upd H9 Dh (.lst ((hr.map V.int).set k1 (.int v1)))) := but_new b9a nDh
    have p10 : PotAt (upd H9 Dh (.lst ((hr.map V.int).set k1 (.int v1)))) a (c + 4 * i + 2) := pot_upd (p9.mono (by omega)) nDha
    have e1d := kU.tup e1c
    have e2d := kU.tup e2c
    have ra10 := fun (k : Nat) (r : Addr) (y : Rl) h1 h2 => (ra9 k r y h1 h2).keep kU
    have lh1 : (hr.set k1 v1).length = one.length := by rw [List.length_set]; exact lhr
    generalize (upd H9 Dh (.lst ((hr.map V.int).set k1 (.int v1)))) = G at eHr eF10 b10 p10 e1d e2d ra10 ⊢
    generalize hr.set k1 v1 = h1 at Dn1 eHr lh1
    refine ⟨_, rfl, o1, _, rfl, .inr (.inl (.inl e1d)), ?_⟩
    rw [List.length_map]
    refine ⟨_, rfl, by omega, by omega, fun D2 nD2 => ?_⟩
    rw [Int.toNat_natCast]
    have nD2a : D2 ≠ a := p10.ne nD2
    have nD2h : Dh ≠ D2 := ne_of_none eHr nD2
    refine lc_it walk_range (fun j H' => Same G H' ∧ ∃ ks : List Nat, H' D2 = some (.lst ((ks.map fun (k : Nat) => (k : Int)).map V.int)) ∧ (∀ k ∈ ks, k < one.length) ∧ ks.length ≤ j) ⟨same_new nD2, [], upd_same, (fun _ h => absurd h List.not_mem_nil), Nat.le_refl _⟩ (fun _ _ _ _ => trivial) (fun j v H6 H7 hj y z => ?_) (fun G2 y => ?_)
    · obtain ⟨s6, ks, eD, hk, lk⟩ := y
      obtain ⟨rfl, rfl⟩ := z
      refine ⟨wipe_one, ?_⟩
      simp only [Int.zero_add]
      refine ⟨_, rfl, _, rfl, Dh, _, _, _, rfl, rfl, .inl (.inl (s6 _ _ eHr)), ixh lh1 hj, _, rfl, _, rfl, o2, _, _, _, rfl, rfl, .inl (.inl (s6 _ _ e2d)), ix2 hj, rfl, _, rfl, ?_⟩
      by_cases c : plc h1 j = two.getD j 0
      · exact iteFv (by show (!decide (V.int (plc h1 j) = V.int (two.getD j 0))) = false; rw [c]; simp) (iteFv rfl ⟨s6, ks, eD, hk, by omega⟩)
      · refine iteTv (by show (!decide (V.int (plc h1 j) = V.int (two.getD j 0))) = true; rw [decide_eq_false fun h => c (V.int.inj h)]; rfl) ⟨_, rfl, _, rfl, rfl, _, rfl, ?_⟩
        by_cases c2 : j = k1
        · exact iteFv (by rw [c2]; simp) ⟨s6, ks, eD, hk, by omega⟩
        · refine iteTv (by simp; omega) ⟨_, rfl, _, eD, ?_, same_over s6 nD2, ks ++ [j], by rw [upd_same, List.map_append, List.map_append]; rfl, fun k hk' => ?_, by rw [List.length_append, List.length_singleton]; omega⟩
          · rw [List.length_map, List.length_map]
            exact small1000 (by omega)
          · rcases List.mem_append.mp hk' with h | h
            · exact hk k h
            · rw [List.mem_singleton.mp h]
              exact hj
    obtain ⟨sg, ls, eG2, hl, ll⟩ := y
    dsimp only [List.set]
    refine ⟨_, rfl, Nat.zero_le _, fun E2 nE2 => ?_⟩
    have sE2 := same_new (o := HO.lst []) nE2
    refine ⟨_, _, .lst (.inl (.inl (sE2 _ _ eG2))) (dps _), .lst (.inl (.inl upd_same)) .nil, shaped_ints_l _, rfl, _, rfl, ?_⟩
    rw [eqv_nilL]
    have sG3 := sg.trans sE2
    have eG3 := sE2 _ _ eG2
    generalize (upd G2 E2 (.lst [])) = G3 at sG3 eG3 ⊢
    have pG3 := p10.keep sG3
    have bG3 := b10.trans (But.of sG3)
    cases ls with
    | nil =>
      refine iteFv rfl ?_
      exact ⟨⟨_, _, _, _, _, _, _, _, rfl⟩, bG3, pG3.mono (by omega), h1, as, rs, hs, sG3 _ _ eHr, sG3 _ _ eF10, la, by omega, fun k r y h1 h2 => (ra10 k r y h1 h2).keep (.same sG3), ok, Dn1⟩
    | cons k0' ls =>
    refine iteTv rfl ?_
    have eDg := sG3 _ _ eHr
    have eFg := sG3 _ _ eF10
    have e1g := sG3 _ _ e1d
    have e2g := sG3 _ _ e2d
    refine ⟨_, rfl, _, rfl, a, D2, _, _, rfl, pG3, nD2a, .inl (.inl (.inl eG3)), by simp, by rw [List.length_map, List.length_map]; omega, by omega, fun u H8 hu b8 p8 => ?_⟩
    obtain ⟨k2, hk2, rfl⟩ : ∃ k2, k2 ∈ (k0' :: ls) ∧ u = .int ((k2 : Nat) : Int) := by
      obtain ⟨n, hn, rfl⟩ := List.mem_map.mp hu
      obtain ⟨k2, hk2, rfl⟩ := List.mem_map.mp hn
      exact ⟨k2, hk2, rfl⟩
    have hm2 := hl k2 hk2
    have e2h := (Keep.but b8 pG3).tup e2g
    have e1h := (Keep.but b8 pG3).tup e1g
    have eDh8 := b8 _ _ nDha eDg
    have eF8 := b8 _ _ nFa eFg
    have ra8 := fun (k : Nat) (r : Addr) (y : Rl) h1 h2 => ((ra10 k r y h1 h2).keep (.same sG3)).keep (Keep.but b8 pG3)
    have bA := bG3.trans b8
    dsimp only [List.set]
    refine ⟨_, rfl, _, rfl, _, rfl, o2, _, _, _, rfl, rfl, .inl (.inl e2h), ix2 hm2, _, rfl, _, rfl, o1, _, _, _, rfl, rfl, .inl (.inl e1h), ix1 e1h hm2, _, _, rfl, rfl, _, rfl, tif_join (v := .str (word (!decide (one.getD k2 0 < two.getD k2 0)))) (fun e Q q => by
      have e' : word (!decide (one.getD k2 0 < two.getD k2 0)) = "to" := by rw [e]; rfl
      rw [e'] at q
      exact q) (fun e Q q => by
      have e' : word (!decide (one.getD k2 0 < two.getD k2 0)) = "from" := by rw [Bool.eq_false_iff.mpr e]; rfl
      rw [e'] at q
      exact q) ?_⟩
    refine ⟨_, rfl, _, rfl, Dh, _, _, _, rfl, rfl, .inl (.inl eDh8), ixh lh1 hm2, (show 3 ≤ sizeLine by decide), fun T1 nT1 => ?_⟩
    have sT1 := same_new (o := HO.tup [V.int (k2 : Int), V.str (word (!decide (one.getD k2 0 < two.getD k2 0))), V.int (plc h1 k2)]) nT1
    have a1 : SideAt (upd H8 T1 (.tup [V.int (k2 : Int), V.str (word (!decide (one.getD k2 0 < two.getD k2 0))), V.int (plc h1 k2)])) T1 (k2, !decide (one.getD k2 0 < two.getD k2 0), plc h1 k2) := upd_same
    generalize (upd H8 T1 (.tup [V.int (k2 : Int), V.str (word (!decide (one.getD k2 0 < two.getD k2 0))), V.int (plc h1 k2)])) = G9 at sT1 a1 ⊢
    dsimp only [List.set]
    refine ⟨_, rfl, _, rfl, _, rfl, o2, _, _, _, rfl, rfl, .inl (.inl (sT1 _ _ e2h)), ix2 hm.1, _, rfl, _, rfl, o1, _, _, _, rfl, rfl, .inl (.inl (sT1 _ _ e1h)), ix1 e1h hm.1, _, _, rfl, rfl, _, rfl, tif_join (v := .str (word (decide (one.getD k1 0 < two.getD k1 0)))) (fun e Q q => by
      have e' : word (decide (one.getD k1 0 < two.getD k1 0)) = "from" := by rw [e]; rfl
      rw [e'] at q
      exact q) (fun e Q q => by
      have e' : word (decide (one.getD k1 0 < two.getD k1 0)) = "to" := by rw [Bool.eq_false_iff.mpr e]; rfl
      rw [e'] at q
      exact q) ?_⟩
    refine ⟨_, rfl, _, rfl, Dh, _, _, _, rfl, rfl, .inl (.inl (sT1 _ _ eDh8)), ixh lh1 hm.1, (show 3 ≤ sizeLine by decide), fun T2 nT2 => ?_⟩
    have sT2 := same_new (o := HO.tup [V.int (k1 : Int), V.str (word (decide (one.getD k1 0 < two.getD k1 0))), V.int (plc h1 k1)]) nT2
    have a2 : SideAt (upd G9 T2 (.tup [V.int (k1 : Int), V.str (word (decide (one.getD k1 0 < two.getD k1 0))), V.int (plc h1 k1)])) T2 (k1, decide (one.getD k1 0 < two.getD k1 0), plc h1 k1) := upd_same
    have a1' : SideAt (upd G9 T2 (.tup [V.int (k1 : Int), V.str (word (decide (one.getD k1 0 < two.getD k1 0))), V.int (plc h1 k1)])) T1 (k2, !decide (one.getD k2 0 < two.getD k2 0), plc h1 k2) := sT2 _ _ a1
    generalize (upd G9 T2 (.tup [V.int (k1 : Int), V.str (word (decide (one.getD k1 0 < two.getD k1 0))), V.int (plc h1 k1)])) = G10 at sT2 a2 a1' ⊢
    have s12 := sT1.trans sT2
    have p12 := p8.keep s12
    have eF12 := s12 _ _ eF8
    dsimp only [List.set]
    refine ⟨_, rfl, .inl ⟨rfl, _, .inl (.inl eF12)⟩, _, rfl, a, 2, _, rfl, p12, by decide, by decide, by omega, fun dd G11 b11 p11 dd0 dd1 => ⟨rfl, _, rfl, ?_⟩⟩
    have k11 := Keep.but b11 p12
    have eFk := b11 _ _ nFa eF12
    have eDk := b11 _ _ nDha (s12 _ _ eDh8)
    have a1k : SideAt G11 T1 _ := k11.tup a1'
    have a2k : SideAt G11 T2 _ := k11.tup a2
    have rak := fun (k : Nat) (r : Addr) (y : Rl) h1 h2 => ((ra8 k r y h1 h2).keep (.same s12)).keep k11
    have bK := (bA.trans (But.of s12)).trans b11
    have sok : ∀ (k : Nat) (b : Bool), k < one.length → SideOk tops (k, b, plc h1 k) := fun k b hk => by
      have ht : k < tops.length := by omega
      have h2' : k < two.length := by omega
      have w := Dn1.wi.2 k hk
      have a0 := (p1 _ (List.getElem_mem hk)).1
      have b0 := (p2 _ (List.getElem_mem h2')).1
      have a1 := le1 k _ _ (List.getElem?_eq_getElem hk) (List.getElem?_eq_getElem ht)
      have b1 := le2 k _ _ (List.getElem?_eq_getElem h2') (List.getElem?_eq_getElem ht)
      refine ⟨tops[k], List.getElem?_eq_getElem ht, ?_⟩
      show 0 ≤ plc h1 k ∧ plc h1 k ≤ tops[k]
      rw [tot_eq] at w
      unfold gn gone at w
      rw [List.getD_eq_getElem?_getD, List.getD_eq_getElem?_getD, List.getElem?_eq_getElem hk, List.getElem?_eq_getElem h2'] at w
      simp only [Option.getD_some] at w
      split at w <;> omega
    have sin : ∀ (k : Nat) (b : Bool), k < one.length → inB h1 (k, b, plc h1 k) = true := fun k b hk => by
      rw [tst_in (by show k < h1.length; omega)]
      cases b <;> simp
    have gOne : ∀ k, k < one.length → inB one (k, !decide (one.getD k 0 < two.getD k 0), plc h1 k) = true := fun k hk => by
      have w := (Dn1.wi.2 k hk).1
      have t : one.getD k 0 = two.getD k 0 → h1.getD k 0 = one.getD k 0 := within_same l21 Dn1.wi k
      unfold gn gone plc at w
      rw [tst_in hk]
      by_cases c : one.getD k 0 < two.getD k 0
      · rw [if_neg (by omega)] at w
        rw [decide_eq_true c]
        exact decide_eq_true (show one.getD k 0 ≤ h1.getD k 0 by omega)
      · rw [decide_eq_false c]
        refine decide_eq_true (show h1.getD k 0 ≤ one.getD k 0 from ?_)
        split at w <;> omega
    have gTwo : ∀ k, k < one.length → inB two (k, decide (one.getD k 0 < two.getD k 0), plc h1 k) = true := fun k hk => by
      have w := (Dn1.wi.2 k hk).2
      have t : one.getD k 0 = two.getD k 0 → h1.getD k 0 = one.getD k 0 := within_same l21 Dn1.wi k
      rw [tot_eq] at w
      unfold gn gone plc at w
      have hk2 : k < two.length := by omega
      rw [tst_in hk2]
      by_cases c : one.getD k 0 < two.getD k 0
      · rw [if_neg (by omega)] at w
        rw [decide_eq_true c]
        exact decide_eq_true (show h1.getD k 0 ≤ two.getD k 0 by omega)
      · rw [decide_eq_false c]
        refine decide_eq_true (show two.getD k 0 ≤ h1.getD k 0 from ?_)
        split at w <;> omega
    have fin : ∀ (x y : Addr) (sx sy : Sd) (Tq : Addr), G11 Tq = none → SideAt G11 x sx → SideAt G11 y sy → SideOk tops sx → SideOk tops sy → inB h1 sx = true → inB h1 sy = true → (kept one (sx, sy) = true ∧ kept two (sx, sy) = true) → ∀ G12, G12 = upd (upd G11 Tq (.tup [.ref x, .ref y])) F (.lst (as.map V.ref ++ [V.ref Tq])) → But a H G12 ∧ PotAt G12 a (c + 4 * (i + 1)) ∧
        ∃ (hr : List Int) (as : List Addr) (rs : List Rl) (hs : List (List Int)), G12 Dh = some (.lst (hr.map V.int)) ∧ G12 F = some (.lst (as.map V.ref)) ∧ as.length = rs.length ∧ rs.length ≤ i + 1 ∧ (∀ (k : Nat) (r : Addr) (y : Rl), as[k]? = some r → rs[k]? = some y → RuleAt G12 r y) ∧ (∀ y ∈ rs, RuleOk tops y) ∧ Drn47 one two rs hs hr := fun x y sx sy Tq nTq hx hy okx oky inx iny gxy G12 eG => by
      subst eG
      have sq := same_new (o := HO.tup [V.ref x, V.ref y]) nTq
      have nTa : Tq ≠ a := p11.ne nTq
      have kq : Keep G11 (upd (upd G11 Tq (.tup [.ref x, .ref y])) F (.lst (as.map V.ref ++ [V.ref Tq]))) := (Keep.same sq).trans (.upd (sq _ _ eFk))
      refine ⟨but_new (bK.trans (But.of sq)) nF', pot_upd ((p11.keep sq).mono (by omega)) nFa, h1, as ++ [Tq], rs ++ [(sx, sy)], hs ++ [h1], ?_, ?_, by rw [List.length_append, List.length_append, la]; rfl, by rw [List.length_append, List.length_singleton]; omega, ?_, fun r hr => ?_, Dn1.more inx iny gxy⟩
      · rw [upd_ne nDhF]
        exact sq _ _ eDk
      · rw [upd_same, List.map_append]
        rfl
      · exact rules_snoc la rak kq ⟨x, y, (Keep.upd (sq _ _ eFk)).tup upd_same, kq.tup hx, kq.tup hy⟩
      · rcases List.mem_append.mp hr with z | z
        · exact ok r z
        · rw [List.mem_singleton.mp z]
          exact ⟨okx, oky⟩
    refine ite2 (fun c => ?_) (fun c => ?_)
    · refine ⟨_, rfl, _, rfl, w2x, fun Tq nTq => ⟨F, _, _, rfl, rfl, same_new nTq _ _ eFk, by rw [List.length_map]; exact small1000 (by omega), ?_⟩⟩
      exact ⟨⟨_, _, _, _, _, _, _, _, rfl⟩, fin T1 T2 _ _ Tq nTq a1k a2k (sok _ _ hm2) (sok _ _ hm.1) (sin _ _ hm2) (sin _ _ hm.1) ⟨by rw [kept, gOne _ hm2]; rfl, by rw [kept, gTwo _ hm.1, Bool.or_true]⟩ _ rfl⟩
    · refine ⟨_, rfl, _, rfl, w2x, fun Tq nTq => ⟨F, _, _, rfl, rfl, same_new nTq _ _ eFk, by rw [List.length_map]; exact small1000 (by omega), ?_⟩⟩
      exact ⟨⟨_, _, _, _, _, _, _, _, rfl⟩, fin T2 T1 _ _ Tq nTq a2k a1k (sok _ _ hm.1) (sok _ _ hm2) (sin _ _ hm.1) (sin _ _ hm2) ⟨by rw [kept, gOne _ hm2, Bool.or_true], by rw [kept, gTwo _ hm.1]; rfl⟩ _ rfl⟩
end
end K49

set_option Elab.async false
set_option linter.all false
set_option maxRecDepth 100000
namespace K49
open PySem PySem.Spec PyProof.Rows L2 NB

/-! ### the law's own waves of legs: the mathematics -/
abbrev Lkv := List ((Nat × Int) × Int)
def kvO (kv : Lkv) : List (List Key × V) := kv.map fun z => ([.inl (z.1.1 : Int), .inl z.1.2], .int z.2)
def ab (one : List Int) (i : Nat) (s : Int) : Int := ((s - one.getD i 0).natAbs : Int)
def cmS (one : List Int) (i : Nat) (m : Int) (acc : Int) (z : (Nat × Int) × Int) : Int := if z.1.1 = i ∧ ab one i z.1.2 < m then max acc (z.2 + m - ab one i z.1.2) else acc
def comeF (one : List Int) (kv : Lkv) (i : Nat) (m : Int) : Int := kv.foldl (cmS one i m) m
theorem cmS_ge (one : List Int) (i : Nat) (m acc : Int) (z : (Nat × Int) × Int) : acc ≤ cmS one i m acc z := by
  unfold cmS
  split <;> omega
theorem fold_ge (one : List Int) (i : Nat) (m : Int) : ∀ (kv : Lkv) (acc : Int), acc ≤ kv.foldl (cmS one i m) acc
  | [], _ => Int.le_refl _
  | z :: kv, acc => Int.le_trans (cmS_ge one i m acc z) (fold_ge one i m kv _)
theorem fold_leg {one : List Int} {i : Nat} {m : Int} {z : (Nat × Int) × Int} (h1 : z.1.1 = i) (h2 : ab one i z.1.2 < m) : ∀ {kv : Lkv} {acc : Int}, z ∈ kv → z.2 + m - ab one i z.1.2 ≤ kv.foldl (cmS one i m) acc
  | [], _, h => absurd h List.not_mem_nil
  | y :: kv, acc, h => by
    rcases List.mem_cons.mp h with e | h
    · subst e
      refine Int.le_trans ?_ (fold_ge one i m kv _)
      unfold cmS
      rw [if_pos ⟨h1, h2⟩]
      omega
    · exact fold_leg h1 h2 (kv := kv) h
theorem fold_at {one : List Int} {i : Nat} {m : Int} : ∀ (kv : Lkv) (acc : Int), kv.foldl (cmS one i m) acc = acc ∨ ∃ z ∈ kv, z.1.1 = i ∧ ab one i z.1.2 < m ∧ kv.foldl (cmS one i m) acc = z.2 + m - ab one i z.1.2
  | [], _ => .inl rfl
  | y :: kv, acc => by
    rcases fold_at kv (cmS one i m acc y) with e | ⟨z, hz, a, b, e⟩
    · rw [List.foldl_cons, e]
      unfold cmS
      by_cases c : y.1.1 = i ∧ ab one i y.1.2 < m
      · rw [if_pos c]
        rcases Int.le_total acc (y.2 + m - ab one i y.1.2) with l | l
        · exact .inr ⟨y, List.mem_cons_self, c.1, c.2, by rw [Int.max_eq_right l]⟩
        · exact .inl (by rw [Int.max_eq_left l])
      · rw [if_neg c]
        exact .inl rfl
    · exact .inr ⟨z, List.mem_cons_of_mem _ hz, a, b, e⟩
theorem come_ge (one : List Int) (kv : Lkv) (i : Nat) (m : Int) : m ≤ comeF one kv i m := fold_ge one i m kv m
theorem ab_gn {one other : List Int} {i : Nat} {s : Int} (h : 0 ≤ gn one other i s) : ab one i s = gn one other i s := by
  unfold ab
  unfold gn gone at *
  split at h <;> simp_all <;> omega
/-- what is held to be the leave of each place that is waited at -/
structure Lv (one : List Int) (nds : List ND) (W : Nat → Int → Int) (kv : Lkv) : Prop where
  keys : ∀ n ∈ nds, ∃ z ∈ kv, z.1 = (n.i, n.s)
  of : ∀ z ∈ kv, ∃ n ∈ nds, z.1 = (n.i, n.s)
  uniq : (kv.map (·.1)).Nodup
  nn : ∀ z ∈ kv, 0 ≤ z.2
  up : ∀ z ∈ kv, ∀ m, ab one z.1.1 z.1.2 < m → z.2 + m - ab one z.1.1 z.1.2 ≤ W z.1.1 m
def wOf (one : List Int) (W : Nat → Int → Int) (n : ND) : Int := max (W n.i (ab one n.i n.s)) (W n.j (ab one n.j n.p))
def rnk (one : List Int) (W : Nat → Int → Int) (nds : List ND) (n : ND) : Nat := (nds.filter fun d => decide (wOf one W d < wOf one W n)).length
theorem rnk_lt {one : List Int} {W : Nat → Int → Int} {nds : List ND} {c n : ND} (hc : c ∈ nds) (h : wOf one W c < wOf one W n) : rnk one W nds c < rnk one W nds n := by
  unfold rnk
  have sub : ∀ (xs : List ND), (xs.filter fun d => decide (wOf one W d < wOf one W c)).length ≤ (xs.filter fun d => decide (wOf one W d < wOf one W n)).length := fun xs => by
    induction xs with
    | nil => exact Nat.le_refl _
    | cons x xs ih =>
      rw [List.filter_cons, List.filter_cons]
      split <;> split <;> simp_all <;> omega
  induction nds with
  | nil => exact absurd hc List.not_mem_nil
  | cons x xs ih =>
    rw [List.filter_cons, List.filter_cons]
    rcases List.mem_cons.mp hc with e | e
    · subst e
      have := sub xs
      rw [if_neg (by simp), if_pos (by simpa using h), List.length_cons]
      omega
    · have := ih e
      split <;> split <;> simp_all <;> omega
theorem rnk_len {one : List Int} {W : Nat → Int → Int} {nds : List ND} {n : ND} (hn : n ∈ nds) : rnk one W nds n < nds.length := by
  unfold rnk
  induction nds with
  | nil => exact absurd hn List.not_mem_nil
  | cons x xs ih =>
    rw [List.filter_cons, List.length_cons]
    have l := List.length_filter_le (fun d => decide (wOf one W d < wOf one W n)) xs
    rcases List.mem_cons.mp hn with e | e
    · subst e
      rw [if_neg (by simp)]
      omega
    · have := ih e
      split
      · rw [List.length_cons]
        omega
      · omega
/-- waves as the needs hold them -/
structure WOk (one : List Int) (nds : List ND) (W : Nat → Int → Int) : Prop where
  ge : ∀ i m, m ≤ W i m
  mono : ∀ i m m', m ≤ m' → W i m + (m' - m) ≤ W i m'
  lo : ∀ n ∈ nds, ∀ m, ab one n.i n.s < m → W n.j (ab one n.j n.p) + m - ab one n.i n.s ≤ W n.i m
  at' : ∀ i m, W i m = m ∨ ∃ n ∈ nds, n.i = i ∧ ab one n.i n.s < m ∧ W i m = W n.j (ab one n.j n.p) + m - ab one n.i n.s
def Gd (one : List Int) (W : Nat → Int → Int) (kv : Lkv) (n : ND) : Prop := ∃ z ∈ kv, z.1 = (n.i, n.s) ∧ wOf one W n ≤ z.2
theorem Lv.come_le {one : List Int} {nds : List ND} {W : Nat → Int → Int} {kv : Lkv} (L : Lv one nds W kv) (w : WOk one nds W) (i : Nat) (m : Int) : comeF one kv i m ≤ W i m := by
  unfold comeF
  rcases fold_at (one := one) (i := i) (m := m) kv m with e | ⟨z, hz, a, b, e⟩
  · rw [e]
    exact w.ge i m
  · rw [e]
    subst a
    exact L.up z hz m b
theorem Lv.come_ge' {one : List Int} {nds : List ND} {W : Nat → Int → Int} {kv : Lkv} (w : WOk one nds W) {i : Nat} {m : Int} (g : ∀ n ∈ nds, wOf one W n < W i m → Gd one W kv n) : W i m ≤ comeF one kv i m := by
  rcases w.at' i m with e | ⟨n, hn, ei, lt, e⟩
  · rw [e]
    exact come_ge one kv i m
  · have mo := w.mono i (ab one n.i n.s) m (by omega)
    have ww : wOf one W n ≤ W n.j (ab one n.j n.p) ∧ W n.j (ab one n.j n.p) ≤ wOf one W n := by
      unfold wOf
      rw [ei] at mo ⊢
      rw [ei] at e
      omega
    obtain ⟨z, hz, ez, le⟩ := g n hn (by omega)
    have h1 : z.1.1 = i := by rw [ez]; exact ei
    have h2 : ab one i z.1.2 < m := by rw [ez, ← ei]; exact lt
    have := fold_leg (one := one) (i := i) (m := m) h1 h2 (kv := kv) (acc := m) hz
    have e3 : ab one i z.1.2 = ab one n.i n.s := by rw [ez, ← ei]
    unfold comeF
    omega
theorem keys_one {kv : Lkv} (u : (kv.map (·.1)).Nodup) {x y : (Nat × Int) × Int} (hx : x ∈ kv) (hy : y ∈ kv) (e : x.1 = y.1) : x = y := by
  induction kv with
  | nil => exact absurd hx List.not_mem_nil
  | cons a kv ih =>
    rw [List.map_cons, List.nodup_cons] at u
    rcases List.mem_cons.mp hx with h | h <;> rcases List.mem_cons.mp hy with h' | h'
    · rw [h, h']
    · subst h
      exact absurd (by rw [e]; exact List.mem_map.mpr ⟨y, h', rfl⟩) u.1
    · subst h'
      exact absurd (by rw [← e]; exact List.mem_map.mpr ⟨x, h, rfl⟩) u.1
    · exact ih u.2 h h'
def putF (kv : Lkv) (k : Nat × Int) (v : Int) : Lkv := kv.map fun z => if z.1 = k then (z.1, v) else z
theorem putF_keys (kv : Lkv) (k : Nat × Int) (v : Int) : (putF kv k v).map (·.1) = kv.map (·.1) := by
  unfold putF
  rw [List.map_map]
  refine List.map_congr_left fun z _ => ?_
  show (if z.1 = k then (z.1, v) else z).1 = z.1
  split <;> rfl
theorem putF_mem {kv : Lkv} {k : Nat × Int} {v : Int} {y : (Nat × Int) × Int} (h : y ∈ putF kv k v) : (y.1 = k ∧ y.2 = v ∧ ∃ z ∈ kv, z.1 = k) ∨ (y ∈ kv ∧ y.1 ≠ k) := by
  obtain ⟨z, hz, e⟩ := List.mem_map.mp h
  by_cases c : z.1 = k
  · rw [if_pos c] at e
    rw [← e]
    exact .inl ⟨c, rfl, z, hz, c⟩
  · rw [if_neg c] at e
    rw [← e]
    exact .inr ⟨hz, c⟩
theorem putF_of {kv : Lkv} {k : Nat × Int} {v : Int} {z : (Nat × Int) × Int} (h : z ∈ kv) : (if z.1 = k then (z.1, v) else z) ∈ putF kv k v := List.mem_map.mpr ⟨z, h, rfl⟩
theorem Lv.put {one : List Int} {nds : List ND} {W : Nat → Int → Int} {kv : Lkv} (L : Lv one nds W kv) (w : WOk one nds W) {n : ND} (hn : n ∈ nds) {z0 : (Nat × Int) × Int} (h0 : z0 ∈ kv) (e0 : z0.1 = (n.i, n.s)) :
    Lv one nds W (putF kv (n.i, n.s) (max z0.2 (max (comeF one kv n.i (ab one n.i n.s)) (comeF one kv n.j (ab one n.j n.p))))) := by
  have c1 := L.come_le w n.i (ab one n.i n.s)
  have c2 := L.come_le w n.j (ab one n.j n.p)
  refine ⟨fun d hd => ?_, fun y hy => ?_, by rw [putF_keys]; exact L.uniq, fun y hy => ?_, fun y hy m lt => ?_⟩
  · obtain ⟨z, hz, e⟩ := L.keys d hd
    refine ⟨_, putF_of hz, ?_⟩
    split <;> exact e
  · rcases putF_mem hy with ⟨a, _, z, hz, e⟩ | ⟨a, _⟩
    · exact ⟨n, hn, a⟩
    · exact L.of y a
  · rcases putF_mem hy with ⟨_, b, _⟩ | ⟨a, _⟩
    · rw [b]
      have := L.nn z0 h0
      omega
    · exact L.nn y a
  · rcases putF_mem hy with ⟨a, b, _⟩ | ⟨a, _⟩
    · rw [b]
      rw [a] at lt ⊢
      have lt' : ab one n.i n.s < m := lt
      have u := L.up z0 h0 m (by rw [e0]; exact lt)
      rw [e0] at u
      have u' : z0.2 + m - ab one n.i n.s ≤ W n.i m := u
      have mo := w.mono n.i (ab one n.i n.s) m (by omega)
      have lo := w.lo n hn m lt'
      show max z0.2 (max _ _) + m - ab one n.i n.s ≤ W n.i m
      omega
    · exact L.up y a m lt
theorem Gd.put {one : List Int} {W : Nat → Int → Int} {kv : Lkv} {n d : ND} (u : (kv.map (·.1)).Nodup) {z0 : (Nat × Int) × Int} (h0 : z0 ∈ kv) (e0 : z0.1 = (n.i, n.s)) {v : Int} (hv : z0.2 ≤ v) (g : Gd one W kv d) : Gd one W (putF kv (n.i, n.s) v) d := by
  obtain ⟨z, hz, ez, le⟩ := g
  by_cases c : z.1 = (n.i, n.s)
  · have e : z = z0 := keys_one u hz h0 (c.trans e0.symm)
    refine ⟨_, putF_of (k := (n.i, n.s)) (v := v) hz, ?_⟩
    rw [if_pos c]
    exact ⟨ez, by show _ ≤ v; rw [e] at le; omega⟩
  · refine ⟨_, putF_of (k := (n.i, n.s)) (v := v) hz, ?_⟩
    rw [if_neg c]
    exact ⟨ez, le⟩
theorem Lv.good {one : List Int} {nds : List ND} {W : Nat → Int → Int} {kv : Lkv} (L : Lv one nds W kv) (w : WOk one nds W) {n : ND} (hn : n ∈ nds) {r : Nat} (hr : rnk one W nds n ≤ r) (G : ∀ d ∈ nds, rnk one W nds d < r → Gd one W kv d) {z0 : (Nat × Int) × Int} (h0 : z0 ∈ kv) (e0 : z0.1 = (n.i, n.s)) :
    Gd one W (putF kv (n.i, n.s) (max z0.2 (max (comeF one kv n.i (ab one n.i n.s)) (comeF one kv n.j (ab one n.j n.p))))) n := by
  have lt : ∀ d ∈ nds, wOf one W d < wOf one W n → Gd one W kv d := fun d hd h => G d hd (by have := rnk_lt hd h; omega)
  have a := Lv.come_ge' (kv := kv) w (i := n.i) (m := ab one n.i n.s) fun d hd h => lt d hd (by unfold wOf at *; omega)
  have b := Lv.come_ge' (kv := kv) w (i := n.j) (m := ab one n.j n.p) fun d hd h => lt d hd (by unfold wOf at *; omega)
  refine ⟨_, putF_of (k := (n.i, n.s)) (v := _) h0, ?_⟩
  rw [if_pos e0]
  refine ⟨e0, ?_⟩
  show wOf one W n ≤ max z0.2 (max _ _)
  unfold wOf
  omega
theorem Lv.all {one : List Int} {nds : List ND} {W : Nat → Int → Int} {kv : Lkv} (L : Lv one nds W kv) (w : WOk one nds W) (G : ∀ d ∈ nds, Gd one W kv d) (i : Nat) (m : Int) : comeF one kv i m = W i m :=
  Int.le_antisymm (L.come_le w i m) (Lv.come_ge' w fun d hd _ => G d hd)
end K49

set_option Elab.async false
set_option linter.all false
set_option maxRecDepth 100000
namespace K49
open PySem PySem.Spec PyProof.Rows L2 NB

/-! ### the law's stretches -/
section
variable {P : Program} {w : World} {K : PySem.W.Frag} {mg : Str → Option Value} {base : Heap}
/-- a stretch of a thing's way, as a row -/
structure Str3 (one two : List Int) (i : Nat) (h t : Int) : Prop where
  li : i < one.length
  b0 : 0 ≤ gn one two i h
  lt : gn one two i h < gn one two i t
  le : gn one two i t ≤ tot one two i
theorem Str3.facts {one two : List Int} {i : Nat} {h t : Int} (s : Str3 one two i h t) : h ≠ t ∧ (decide (t > h) = decide (two.getD i 0 > one.getD i 0)) ∧ min (one.getD i 0) (two.getD i 0) ≤ h ∧ h ≤ max (one.getD i 0) (two.getD i 0) ∧ min (one.getD i 0) (two.getD i 0) ≤ t ∧ t ≤ max (one.getD i 0) (two.getD i 0) ∧ ((t - h).natAbs : Int) = gn one two i t - gn one two i h := by
  obtain ⟨li, b0, lt, le⟩ := s
  rw [tot_eq] at le
  unfold gn gone at b0 lt le ⊢
  generalize one.getD i 0 = x at b0 lt le ⊢
  generalize two.getD i 0 = y at b0 lt le ⊢
  by_cases c : y < x
  · simp only [if_pos c] at b0 lt le ⊢
    refine ⟨by omega, ?_, by omega, by omega, by omega, by omega, by omega⟩
    rw [decide_eq_false (show ¬ t > h by omega), decide_eq_false (show ¬ y > x by omega)]
  · simp only [if_neg c] at b0 lt le ⊢
    refine ⟨by omega, ?_, by omega, by omega, by omega, by omega, by omega⟩
    rw [decide_eq_true (show t > h by omega), decide_eq_true (show y > x by omega)]
end
section
variable {P : Program} {w : World} {K : PySem.W.Frag} {mg : Str → Option Value} {base : Heap}
def spIs3 : Sp := fun vs H Q _ => ∃ (o1 o2 r : Addr) (one two : List Int) (i : Nat) (h t : Int), vs = [.ref o1, .ref o2, .ref r] ∧ H o1 = some (.tup (one.map V.int)) ∧ H o2 = some (.tup (two.map V.int)) ∧ H r = some (.tup [.int (i : Int), .int h, .int t]) ∧ two.length = one.length ∧ one.length ≤ 12 ∧ Str3 one two i h t ∧ ∀ H', Same H H' → Q (.bl true) H'
end
end K49

set_option Elab.async false
set_option linter.all false
set_option maxRecDepth 100000
namespace K49
open PySem PySem.Spec PyProof.Rows L2 NB

/-! ### the law's chains -/
theorem walk_zipTm {K : PySem.W.Frag} {a b : Addr} {xs ys : List V} {n : Nat} (hn : n = min xs.length ys.length) :
    Walk (RZ.ItzT K a b) n (fun H => SqT K H a xs ∧ SqT K H b ys) (YPair (fun i => xs[i]?) (fun i => ys[i]?)) := by
  subst hn
  refine ⟨fun i _ hi q => ?_, fun _ q => ⟨xs, ys, q.1, q.2, by omega⟩, fun i H v H' _ q y => ?_⟩
  · have h1 : i < xs.length := by omega
    have h2 : i < ys.length := by omega
    exact ⟨xs, ys, xs[i], ys[i], q.1, q.2, by simp [h1], by simp [h2]⟩
  · obtain ⟨T, x, u, e1, e2, e3, f1, f2⟩ := y
    exact ⟨T, x, u, e1, e2, e3, f1 xs q.1, f2 ys q.2⟩
theorem cut_one1 {K : PySem.W.Frag} {H : Hp} {p : Addr} {vs : List V} {Q : VK} (h : H p = some (.tup vs)) (q : ∀ g H', Same H H' → H' g = some (.tup (vs.drop 1)) → Q (.ref g) H') : rSlA K (.ref p) (some 1) none H Q := by
  cases vs with
  | nil =>
    refine ⟨p, [], rfl, .inl (.inl h), fun _ => q p H (Same.refl H) h, fun w g ng => ?_⟩
    refine q g _ (same_new ng) ?_
    rw [upd_same]
    rfl
  | cons v vs => exact cut_from (c := 1) h (by simp) q
theorem asked_runs {H : Hp} {p : Addr} {nds : List ND} (h : AskedAt H p nds) : RunsAt H p (nds.map ND.toL) := by
  obtain ⟨as, e, l, f⟩ := h
  refine ⟨as, e, by rw [List.length_map, l], fun k a r h1 h2 => ?_⟩
  rw [List.getElem?_map] at h2
  cases hn : nds[k]? with
  | none =>
    rw [hn] at h2
    cases h2
  | some n =>
    rw [hn] at h2
    cases h2
    exact f k a n h1 hn
theorem in_due {nds : List ND} {n : ND} (h : n ∈ nds) : ((nds.map ND.toL).map fun r => PyData.tuple (r.map PyData.int)).any (fun z => PyData.eqv z (.tuple (n.toL.map PyData.int))) = true := by
  refine List.any_eq_true.mpr ⟨.tuple (n.toL.map PyData.int), List.mem_map.mpr ⟨n.toL, List.mem_map.mpr ⟨n, h, rfl⟩, rfl⟩, ?_⟩
  simp only [PyData.eqv]
  rw [eqv_ints, decide_eq_true rfl]
theorem Room.u65x {k : Nat} {A : Around} (r : Room k A) : A.units + 65 < cLine := by have := r.un; omega
def rw3 (z : Nat × Int × Int) : List Int := [(z.1 : Int), z.2.1, z.2.2]
section
variable {P : Program} {w : World} {K : PySem.W.Frag} {mg : Str → Option Value} {base : Heap}
def spCd : Sp := fun vs H Q _ => ∃ (pd o1 o2 p : Addr) (one two : List Int) (nds : List ND) (M : Int) (zs : List (Nat × Int × Int)), vs = [.ref pd, .ref o1, .ref o2, .int M, .ref p] ∧ AskedAt H pd nds ∧ H o1 = some (.tup (one.map V.int)) ∧ H o2 = some (.tup (two.map V.int)) ∧ two.length = one.length ∧ one.length ≤ 12 ∧ RunsAt H p (zs.map rw3) ∧ zs.length ≤ 100 ∧ (∀ z ∈ zs, Str3 one two z.1 z.2.1 z.2.2) ∧ (zs = [] → one = two) ∧ (zs.map fun z => ((z.2.2 - z.2.1).natAbs : Int)).sum = M ∧ (∀ (k : Nat) (z y : Nat × Int × Int), zs[k]? = some z → zs[k + 1]? = some y → (⟨y.1, y.2.1, z.1, z.2.2⟩ : ND) ∈ nds) ∧ ∀ H', Same H H' → Q (.bl true) H'
end

/-! ### waits: one chain, and what it tells -/
theorem cw_mono (ls : List (Int × Int)) {m m' : Int} (h : m ≤ m') : cw ls m + (m' - m) ≤ cw ls m' := by
  rcases cw_at ls m with e | ⟨x, hx, lt, e⟩
  · have := cw_ge ls m'
    omega
  · have := cw_leg hx (show x.1 < m' by omega)
    omega
theorem paf_gn {one other : List Int} (i : Nat) (p : Int) : paf one other i (gn one other i p) = p := by
  unfold gn gone paf
  split <;> omega
theorem wok {one other : List Int} {rs : List Rl} {nds cs : List ND} {L : Lgs} (E : Earl one other rs nds cs L) : WOk one nds fun i m => cw (L i) m := by
  have w := E.I.isW E.N.ok E.C
  have es : ∀ n ∈ nds, ab one n.i n.s = gn one other n.i n.s := fun n hn => ab_gn (E.N.ok n hn).s0
  have ep : ∀ n ∈ nds, ab one n.j n.p = gn one other n.j n.p := fun n hn => ab_gn (Int.le_of_lt (E.N.ok n hn).p0)
  refine ⟨w.ge, fun i m m' h => cw_mono (L i) h, fun n hn m lt => ?_, fun i m => ?_⟩
  · rw [es n hn] at lt ⊢
    rw [ep n hn]
    exact w.lo (cnt one other n) ((E.C.mem _).mpr ⟨n, hn, rfl⟩) m lt
  · rcases w.at' i m with e | ⟨c, hc, ei, lt, e⟩
    · exact .inl e
    · obtain ⟨n, hn, rfl⟩ := (E.C.mem c).mp hc
      refine .inr ⟨n, hn, ei, ?_, ?_⟩
      · rw [es n hn]
        exact lt
      · show cw (L i) m = cw (L n.j) (ab one n.j n.p) + m - ab one n.i n.s
        rw [es n hn, ep n hn]
        exact e
/-- the told stretches of a chain -/
def wZs (one other : List Int) (ch : List (Nat × Int × Int)) : List (Nat × Int × Int) := ch.reverse.map fun z => (z.1, paf one other z.1 z.2.1, paf one other z.1 z.2.2)
theorem wZs_rows (one other : List Int) (ch : List (Nat × Int × Int)) : (wZs one other ch).map rw3 = ch.reverse.map (wRow one other) := by
  unfold wZs
  rw [List.map_map]
  rfl
theorem wZs_str {one other : List Int} {cs : List ND} {L : Lgs} (ok : ∀ c ∈ cs, c.j < one.length ∧ 0 < c.p ∧ c.p ≤ tot one other c.j) (b0 : ∀ i, ∀ y ∈ L i, 0 ≤ y.1) {i : Nat} {m : Int} {ch : List (Nat × Int × Int)} (h : WCh cs L i m ch) (hi : i < one.length) (m1 : m ≤ tot one other i) : ∀ z ∈ wZs one other ch, Str3 one other z.1 z.2.1 z.2.2 := fun z hz => by
  obtain ⟨y, hy, rfl⟩ := List.mem_map.mp hz
  have r := h.rng ok b0 hi m1 y (List.mem_reverse.mp hy)
  refine ⟨r.1, ?_, ?_, ?_⟩
  · show 0 ≤ gn one other y.1 (paf one other y.1 y.2.1)
    rw [gn_paf]
    exact r.2.1
  · show gn one other y.1 (paf one other y.1 y.2.1) < gn one other y.1 (paf one other y.1 y.2.2)
    rw [gn_paf, gn_paf]
    exact r.2.2.1
  · show gn one other y.1 (paf one other y.1 y.2.2) ≤ _
    rw [gn_paf]
    exact r.2.2.2
theorem wZs_sum {one other : List Int} {ch : List (Nat × Int × Int)} (h : ∀ z ∈ ch, z.2.1 < z.2.2) : ((wZs one other ch).map fun z => ((z.2.2 - z.2.1).natAbs : Int)).sum = wSum ch := by
  unfold wZs wSum
  rw [List.map_map, List.map_reverse, List.sum_reverse]
  refine congrArg List.sum (List.map_congr_left fun z hz => ?_)
  have lt := h z hz
  show ((paf one other z.1 z.2.2 - paf one other z.1 z.2.1).natAbs : Int) = z.2.2 - z.2.1
  unfold paf
  split <;> omega
theorem wZs_due {one other : List Int} {nds cs : List ND} {L : Lgs} (C : Cnts one other nds cs) {i : Nat} {m : Int} {ch : List (Nat × Int × Int)} (h : WCh cs L i m ch) (k : Nat) (z y : Nat × Int × Int) (h1 : (wZs one other ch)[k]? = some z) (h2 : (wZs one other ch)[k + 1]? = some y) : (⟨y.1, y.2.1, z.1, z.2.2⟩ : ND) ∈ nds := by
  unfold wZs at h1 h2
  rw [List.getElem?_map] at h1 h2
  have l2 : k + 1 < ch.length := by
    cases e : ch.reverse[k + 1]? with
    | none =>
      rw [e] at h2
      cases h2
    | some v =>
      have := (List.getElem?_eq_some_iff.mp e).1
      rwa [List.length_reverse] at this
  rw [List.getElem?_reverse (by omega)] at h1
  rw [List.getElem?_reverse l2] at h2
  have e1 : ch[ch.length - 1 - (k + 1)]? = some (ch[ch.length - 1 - (k + 1)]'(by omega)) := List.getElem?_eq_getElem _
  have e2 : ch[ch.length - 1 - k]? = some (ch[ch.length - 1 - k]'(by omega)) := List.getElem?_eq_getElem _
  rw [e2] at h1
  rw [e1] at h2
  have d := h.due (ch.length - 1 - (k + 1)) _ _ e1 (by rw [show ch.length - 1 - (k + 1) + 1 = ch.length - 1 - k by omega]; exact e2)
  obtain ⟨n, hn, en⟩ := (C.mem _).mp d
  cases h1
  cases h2
  have i1 := congrArg ND.i en
  have i2 := congrArg ND.s en
  have i3 := congrArg ND.j en
  have i4 := congrArg ND.p en
  simp only [cnt] at i1 i2 i3 i4
  have : (⟨(ch[ch.length - 1 - (k + 1)]'(by omega)).1, paf one other (ch[ch.length - 1 - (k + 1)]'(by omega)).1 (ch[ch.length - 1 - (k + 1)]'(by omega)).2.1, (ch[ch.length - 1 - k]'(by omega)).1, paf one other (ch[ch.length - 1 - k]'(by omega)).1 (ch[ch.length - 1 - k]'(by omega)).2.2⟩ : ND) = n := by
    rw [i1, i2, i3, i4, paf_gn, paf_gn]
  show (⟨(ch[ch.length - 1 - (k + 1)]'(by omega)).1, paf one other (ch[ch.length - 1 - (k + 1)]'(by omega)).1 (ch[ch.length - 1 - (k + 1)]'(by omega)).2.1, (ch[ch.length - 1 - k]'(by omega)).1, paf one other (ch[ch.length - 1 - k]'(by omega)).1 (ch[ch.length - 1 - k]'(by omega)).2.2⟩ : ND) ∈ nds
  rw [this]
  exact hn

/-! ### what waits tells is a chain that is due -/
theorem tot_same {one two : List Int} (e : one = two) (i : Nat) : tot one two i = 0 := by
  rw [tot_eq, e]
  omega
theorem wts_zs {one two : List Int} {rs : List Rl} {nds cs cs2 : List ND} {L : Lgs} {rows : List (List Int)} {M : Int} (E : Earl one two rs nds cs L) (C2 : Cnts one two nds cs2) (lo : two.length = one.length) (I : IsWts one two cs2 L rows) (Im : IsMany one two L M) :
    ∃ zs : List (Nat × Int × Int), rows = zs.map rw3 ∧ (∀ z ∈ zs, Str3 one two z.1 z.2.1 z.2.2) ∧ (zs = [] ↔ one = two) ∧ (zs.map fun z => ((z.2.2 - z.2.1).natAbs : Int)).sum = M ∧ ∀ (k : Nat) (z y : Nat × Int × Int), zs[k]? = some z → zs[k + 1]? = some y → (⟨y.1, y.2.1, z.1, z.2.2⟩ : ND) ∈ nds := by
  have b0 := legs_b0 E.I
  by_cases c : one = two
  · refine ⟨[], I.1 c, fun _ h => absurd h List.not_mem_nil, ⟨fun _ => c, fun _ => rfl⟩, ?_, fun k z y h => by simp at h⟩
    obtain ⟨⟨i, hi, e⟩, _⟩ := Im
    rw [tot_same c] at e
    rcases cw_at (L i) 0 with z | ⟨x, hx, lt, _⟩
    · show (0 : Int) = M
      omega
    · have := b0 i x hx
      omega
  · obtain ⟨i, ch, hi, Im', _, h, er⟩ := I.2 c
    have ok : ∀ d ∈ cs2, d.j < one.length ∧ 0 < d.p ∧ d.p ≤ tot one two d.j := fun d hd => (cnts_ok C2 E.N.ok d hd).2
    have r := h.rng (one := one) (other := two) ok b0 hi (Int.le_refl _)
    refine ⟨wZs one two ch, by rw [wZs_rows]; exact er, wZs_str ok b0 h hi (Int.le_refl _), ⟨fun e => ?_, fun e => absurd e c⟩, ?_, wZs_due C2 h⟩
    · unfold wZs at e
      rw [List.map_eq_nil_iff, List.reverse_eq_nil_iff] at e
      exact absurd e h.ne
    · rw [wZs_sum fun z hz => (r z hz).2.2.1, h.sum E.I.b.nn]
      exact Im'.one Im
end K49

set_option Elab.async false
set_option linter.all false
set_option maxRecDepth 100000
namespace K49
open PySem PySem.Spec PyProof.Rows L2 NB

/-! ### between -/
theorem gone_mid {one other : List Int} {i : Nat} {a b x : Int} (h : gn one other i a ≤ gn one other i b) (h1 : min a b ≤ x) (h2 : x ≤ max a b) : gn one other i a ≤ gn one other i x ∧ gn one other i x ≤ gn one other i b := by
  unfold gn gone at *
  split at h <;> simp_all <;> omega

/-! ### doors: whoever goes by good steps comes to one standing -/
def Btw (a x b : Int) : Prop := min a b ≤ x ∧ x ≤ max a b
def Good (rs : List Rl) (st : List Int) : Prop := ∀ q ∈ rs, kept st q = true
/-- goings towards the goal, good all along -/
inductive GG (rs : List Rl) (goal : List Int) : List Int → List Int → Prop where
  | refl (h : List Int) : GG rs goal h h
  | step {h m : List Int} {i : Nat} {x : Int} (g : GG rs goal h m) (hi : i < m.length) (b : Btw (plc m i) x (plc goal i)) (gd : ∀ y, Btw (plc m i) y x → Good rs (m.set i y)) : GG rs goal h (m.set i x)
/-- none can go on by a good step -/
def Stk (rs : List Rl) (goal m : List Int) : Prop := ∀ i, i < m.length → ∀ y, Btw (plc m i) y (plc goal i) → (y = plc m i + 1 ∨ y = plc m i - 1) → ¬ Good rs (m.set i y)
theorem GG.len {rs : List Rl} {goal h m : List Int} (g : GG rs goal h m) : m.length = h.length := by
  induction g with
  | refl => rfl
  | step g hi b gd ih => rw [List.length_set, ih]
theorem GG.trans {rs : List Rl} {goal h m d : List Int} (g : GG rs goal h m) (g' : GG rs goal m d) : GG rs goal h d := by
  induction g' with
  | refl => exact g
  | step _ hi b gd ih => exact .step ih hi b gd
theorem GG.btw {rs : List Rl} {goal h m : List Int} (g : GG rs goal h m) : ∀ i, i < h.length → Btw (plc h i) (plc m i) (plc goal i) := by
  induction g with
  | refl => exact fun i _ => ⟨by omega, by omega⟩
  | step g hi b gd ih =>
    rename_i m j x
    intro i hl
    by_cases c : j = i
    · subst c
      rw [plc_set_self hi]
      have := ih j hl
      unfold Btw at *
      omega
    · rw [plc_set_ne c]
      exact ih i hl
theorem GG.good {rs : List Rl} {goal h m : List Int} (g : GG rs goal h m) (hh : Good rs h) : Good rs m := by
  cases g with
  | refl => exact hh
  | step g hi b gd => exact gd _ ⟨by omega, by omega⟩
theorem side_mid {a b c m : List Int} {s : Sd} (la : s.1 < a.length) (lb : s.1 < b.length) (lc : s.1 < c.length) (lm : s.1 < m.length) (h : (plc m s.1 = plc b s.1 ∧ Btw (plc a s.1) (plc b s.1) (plc c s.1)) ∨ (plc m s.1 = plc a s.1 ∧ Btw (plc b s.1) (plc a s.1) (plc c s.1))) (two : (inB a s = true ∧ inB b s = true) ∨ (inB a s = true ∧ inB c s = true) ∨ (inB b s = true ∧ inB c s = true)) : inB m s = true := by
  rw [tst_in la, tst_in lb, tst_in lc] at two
  rw [tst_in lm]
  obtain ⟨i, w, p⟩ := s
  unfold Btw at h
  cases w <;> simp at two h ⊢ <;> omega
/-- a rule that three keep is kept where each thing is at the middle one of its places -/
theorem kept_mid {a b c m : List Int} {q : Rl} (fa : Fit a q) (fb : Fit b q) (fc : Fit c q) (fm : Fit m q) (h : ∀ k, (plc m k = plc b k ∧ Btw (plc a k) (plc b k) (plc c k)) ∨ (plc m k = plc a k ∧ Btw (plc b k) (plc a k) (plc c k))) (ka : kept a q = true) (kb : kept b q = true) (kc : kept c q = true) : kept m q = true := by
  unfold kept at *
  rw [Bool.or_eq_true] at ka kb kc ⊢
  have l := side_mid fa.1 fb.1 fc.1 fm.1 (h q.1.1)
  have r := side_mid fa.2 fb.2 fc.2 fm.2 (h q.2.1)
  rcases ka with ka | ka <;> rcases kb with kb | kb <;> rcases kc with kc | kc
  · exact .inl (l (.inl ⟨ka, kb⟩))
  · exact .inl (l (.inl ⟨ka, kb⟩))
  · exact .inl (l (.inr (.inl ⟨ka, kc⟩)))
  · exact .inr (r (.inr (.inr ⟨kb, kc⟩)))
  · exact .inl (l (.inr (.inr ⟨kb, kc⟩)))
  · exact .inr (r (.inr (.inl ⟨ka, kc⟩)))
  · exact .inr (r (.inl ⟨ka, kb⟩))
  · exact .inr (r (.inl ⟨ka, kb⟩))
theorem fit_len {xs ys : List Int} {q : Rl} (h : Fit xs q) (l : ys.length = xs.length) : Fit ys q := ⟨by rw [l]; exact h.1, by rw [l]; exact h.2⟩
theorem gg_le {rs : List Rl} {goal h st last : List Int} (lg : goal.length = h.length) (ft : ∀ q ∈ rs, Fit h q) (hg : Good rs goal) (g : GG rs goal h st) (gl : GG rs goal h last) (gd : Good rs last) (sk : Stk rs goal last) : ∀ i, i < h.length → Btw (plc h i) (plc st i) (plc last i) := by
  induction g with
  | refl => exact fun i _ => ⟨by omega, by omega⟩
  | step g hi b gd' ih =>
    rename_i m j x
    intro i hl
    by_cases c : j = i
    · subst c
      rw [plc_set_self hi]
      have b1 := ih j hl
      have b2 := gl.btw j hl
      refine Classical.byContradiction fun no => ?_
      have lm := g.len
      have ll := gl.len
      -- the next place behind where the other one stopped
      have hy : ∃ y, (y = plc last j + 1 ∨ y = plc last j - 1) ∧ Btw (plc last j) y (plc goal j) ∧ Btw (plc m j) y x := by
        unfold Btw at *
        by_cases d : plc last j < x
        · exact ⟨plc last j + 1, .inl rfl, by omega, by omega⟩
        · exact ⟨plc last j - 1, .inr rfl, by omega, by omega⟩
      obtain ⟨y, hy1, hy2, hy3⟩ := hy
      refine sk j (by omega) y hy2 hy1 fun q hq => ?_
      have f0 := ft q hq
      refine kept_mid (a := m.set j y) (b := last) (c := goal) (fit_len f0 (by rw [List.length_set]; exact lm)) (fit_len f0 ll) (fit_len f0 lg) (fit_len f0 (by rw [List.length_set]; exact ll)) (fun k => ?_) (gd' y hy3 q hq) (gd q hq) (hg q hq)
      by_cases e : j = k
      · subst e
        refine .inr ⟨?_, ?_⟩
        · rw [plc_set_self (by omega), plc_set_self (by omega)]
        · rw [plc_set_self (by omega)]
          exact hy2
      · refine .inl ⟨plc_set_ne e, ?_⟩
        rw [plc_set_ne e]
        rcases Nat.lt_or_ge k h.length with c | c
        · have c1 := ih k c
          have c2 := gl.btw k c
          unfold Btw at *
          omega
        · have z : ∀ {xs : List Int}, xs.length = h.length → plc xs k = 0 := fun hx => by
            unfold plc
            rw [List.getD_eq_getElem?_getD, List.getElem?_eq_none (by omega)]
            rfl
          rw [z lm, z ll, z lg]
          exact ⟨by omega, by omega⟩
    · rw [plc_set_ne c]
      exact ih i hl
/-- one door -/
theorem one_door {rs : List Rl} {goal h a b : List Int} (lg : goal.length = h.length) (ft : ∀ q ∈ rs, Fit h q) (hg : Good rs goal) (hh : Good rs h) (ga : GG rs goal h a) (sa : Stk rs goal a) (gb : GG rs goal h b) (sb : Stk rs goal b) : a = b := by
  have h1 := gg_le lg ft hg ga gb (gb.good hh) sb
  have h2 := gg_le lg ft hg gb ga (ga.good hh) sa
  refine List.ext_getElem (by rw [ga.len, gb.len]) fun i x y => ?_
  have l : i < h.length := by rw [← ga.len]; exact x
  have a1 := h1 i l
  have a2 := h2 i l
  rw [← plc_get x, ← plc_get y]
  unfold Btw at *
  omega
section
variable {one other : List Int}
/-- where a need is gone against a rule is broken -/
theorem kept_safe {tops : List Int} (lo : one.length = tops.length) (lo' : other.length = tops.length) {rs : List Rl} (rok : ∀ q ∈ rs, RuleOk tops q) {nds : List ND} (N : NdsOf one other rs nds) {st : List Int} (ls : st.length = one.length) (gd : Good rs st) : Safe one other nds st := fun n hn => by
  obtain ⟨q, hq, h⟩ := cands_mem.mp ((N.is.mem n.toL).mp (List.mem_map.mpr ⟨n, hn, rfl⟩))
  have main : ∀ {l e : Sd}, SideOk tops l → SideOk tops e → (inB st l || inB st e) = true → needOf one other l e = some n.toL → gn one other n.i (plc st n.i) ≤ gn one other n.i n.s ∨ met one other n st = true := fun {l e} hl he hk h => by
    obtain ⟨sh, h1, h2, _⟩ := needOf_shape h
    have en : n = ⟨l.1, l.2.2, e.1, e.2.2⟩ := toL_inj sh
    subst en
    have ll := (List.getElem?_eq_some_iff.mp hl.choose_spec.1).1
    have le := (List.getElem?_eq_some_iff.mp he.choose_spec.1).1
    rw [Bool.or_eq_true] at hk
    rcases hk with hk | hk
    · rw [left_in (one := one) (other := other) (by omega) (by omega) (by omega) h1, decide_eq_true_eq] at hk
      exact .inl hk
    · rw [enter_in (one := one) (other := other) (by omega) (by omega) (by omega) h2] at hk
      exact .inr hk
  have hk := gd q hq
  unfold kept at hk
  rcases h with h | h
  · exact main (rok q hq).1 (rok q hq).2 hk h
  · exact main (rok q hq).2 (rok q hq).1 (by rw [Bool.or_comm]; exact hk) h
theorem gone_btw {i : Nat} {a x b : Int} (h : gn one other i a ≤ gn one other i x) (h' : gn one other i x ≤ gn one other i b) : Btw a x b := by
  unfold gn gone at *
  unfold Btw
  split at h <;> simp_all <;> omega
/-- the goings that the program tells are such -/
theorem goes_gg {tops : List Int} (lo : one.length = tops.length) (lo' : other.length = tops.length) {rs : List Rl} (rok : ∀ q ∈ rs, RuleOk tops q) {nds : List ND} (N : NdsOf one other rs nds) (k1 : Good rs one) (k2 : Good rs other) {rows : List (Nat × Int)} {h last : List Int} (g : Goes one other nds h rows last) : GG rs other h last := by
  induction g with
  | nil => exact .refl _
  | snoc g sf wi li ne h0 h1 ih =>
    rename_i m rows i e
    have lm : i < m.length := by rw [wi.1]; exact li
    have e1 := (endF_spec (one := one) (other := other) nds m i).2.1
    refine .step ih lm (gone_btw h0 (Int.le_trans h1 e1)) fun y hy q hq => ?_
    have gm := gone_mid (one := one) (other := other) (i := i) h0 hy.1 hy.2
    have w0 := (wi.2 i li).1
    exact safe_kept lo lo' rok N (sf.move lm gm.1 (Int.le_trans gm.2 h1)) (wi.move (by have := gm.1; omega) (Int.le_trans gm.2 (Int.le_trans h1 e1))) hq (k1 q hq) (k2 q hq)
theorem NdsOf.own {rs : List Rl} {nds : List ND} (N : NdsOf one other rs nds) {n : ND} (hn : n ∈ nds) (c : n.i = n.j) : gn one other n.i n.s + 1 < gn one other n.j n.p := by
  obtain ⟨q, hq, h⟩ := cands_mem.mp ((N.is.mem n.toL).mp (List.mem_map.mpr ⟨n, hn, rfl⟩))
  have main : ∀ {l e : Sd}, needOf one other l e = some n.toL → gn one other n.i n.s + 1 < gn one other n.j n.p := fun {l e} h => by
    obtain ⟨sh, _, _, h3⟩ := needOf_shape h
    have en : n = ⟨l.1, l.2.2, e.1, e.2.2⟩ := toL_inj sh
    subst en
    refine Classical.byContradiction fun z => h3 ⟨c, ?_⟩
    have z' : ¬ gone one other l.1 l.2.2 + 1 < gone one other e.1 e.2.2 := z
    omega
  rcases h with h | h
  · exact main h
  · exact main h
/-- and where it stops none can go on -/
theorem stop_stk {tops : List Int} (lo : one.length = tops.length) (lo' : other.length = tops.length) {rs : List Rl} (rok : ∀ q ∈ rs, RuleOk tops q) {nds : List ND} (N : NdsOf one other rs nds) {last : List Int} (wi : Within one other last) (st : ∀ i, i < one.length → endF one other nds last i = plc last i) : Stk rs other last := fun i hi y hb hy gd => by
  have li : i < one.length := by rw [← wi.1]; exact hi
  have w := wi.2 i li
  have ne : plc last i ≠ plc other i := fun e => by
    unfold Btw at hb
    omega
  obtain ⟨n, hn, hni, hns, hm⟩ := held_at (st i li) ne
  have sf := kept_safe lo lo' rok N (by rw [List.length_set]; exact wi.1) gd n hn
  subst hni
  -- one step on is one more
  have one1 : gn one other n.i y = gn one other n.i (plc last n.i) + 1 := by
    have t : gn one other n.i (plc last n.i) ≤ gn one other n.i (plc other n.i) := w.2
    have t0 := w.1
    unfold gn gone at t t0 ⊢
    unfold Btw at hb
    have e1 : plc other n.i = other.getD n.i 0 := rfl
    rw [e1] at t hb ne
    generalize other.getD n.i 0 = B at *
    generalize one.getD n.i 0 = A at *
    generalize plc last n.i = L at *
    split <;> rename_i c
    · rw [if_pos c, if_pos c] at t
      omega
    · rw [if_neg c, if_neg c] at t
      omega
  rcases sf with h | h
  · rw [plc_set_self hi, hns] at h
    omega
  · unfold met at h hm
    rw [decide_eq_true_eq] at h
    rw [decide_eq_false_iff_not] at hm
    by_cases c : n.i = n.j
    · have ow := N.own hn c
      rw [← c, plc_set_self hi] at h
      rw [← c, hns] at ow
      omega
    · rw [plc_set_ne c] at h
      exact hm h
end
end K49

set_option Elab.async false
set_option linter.all false
set_option maxRecDepth 100000
namespace K49
open PySem PySem.Spec PyProof.Rows L2 NB

/-! ### rooms: the mathematics -/
theorem plc_app (a : List Int) (x : Int) (j : Nat) : plc (a ++ [x]) j = if j < a.length then plc a j else if j = a.length then x else 0 := by
  unfold plc
  rw [List.getD_eq_getElem?_getD, List.getD_eq_getElem?_getD]
  by_cases c : j < a.length
  · rw [if_pos c, List.getElem?_append_left c]
  · rw [if_neg c, List.getElem?_append_right (by omega)]
    by_cases d : j = a.length
    · rw [if_pos d, d, Nat.sub_self]
      rfl
    · rw [if_neg d, List.getElem?_eq_none (by simp only [List.length_cons, List.length_nil]; omega)]
      rfl
theorem plc_ext {a b : List Int} (l : a.length = b.length) (h : ∀ i, i < a.length → plc a i = plc b i) : a = b := by
  refine List.ext_getElem l fun i x y => ?_
  have := h i x
  rwa [plc_get x, plc_get y] at this
def ext1 (t : Int) (s : List Int) : List (List Int) := (List.range (t + 1).toNat).map fun p : Nat => s ++ [((p : Nat) : Int)]
def bx (tops : List Int) : Nat → List (List Int)
  | 0 => [[]]
  | i + 1 => (bx tops i).flatMap (ext1 (plc tops i))
theorem bx_mem (tops : List Int) : ∀ (i : Nat) (s : List Int), s ∈ bx tops i ↔ s.length = i ∧ ∀ j, j < i → 0 ≤ plc s j ∧ plc s j ≤ plc tops j
  | 0, s => by
    show s ∈ [[]] ↔ _
    rw [List.mem_singleton]
    constructor
    · rintro rfl
      exact ⟨rfl, fun j h => absurd h (Nat.not_lt_zero _)⟩
    · rintro ⟨h, _⟩
      exact List.length_eq_zero_iff.mp h
  | i + 1, s => by
    show s ∈ (bx tops i).flatMap (ext1 (plc tops i)) ↔ _
    rw [List.mem_flatMap]
    constructor
    · rintro ⟨a, ha, hs⟩
      obtain ⟨l, h⟩ := (bx_mem tops i a).mp ha
      obtain ⟨p, hp, rfl⟩ := List.mem_map.mp hs
      have hp' := List.mem_range.mp hp
      refine ⟨by rw [List.length_append, l]; rfl, fun j hj => ?_⟩
      rw [plc_app]
      by_cases c : j < a.length
      · rw [if_pos c]
        exact h j (by omega)
      · rw [if_neg c, if_pos (by omega), show j = i by omega]
        omega
    · rintro ⟨l, h⟩
      have e : s = s.take i ++ [plc s i] := by
        refine plc_ext (by rw [List.length_append, List.length_take]; simp only [List.length_cons, List.length_nil]; omega) fun j hj => ?_
        rw [plc_app]
        by_cases c : j < (s.take i).length
        · rw [if_pos c]
          rw [List.length_take] at c
          rw [plc_get hj, plc_get (by rw [List.length_take]; omega), List.getElem_take]
        · rw [if_neg c]
          rw [List.length_take] at c
          rw [if_pos (by rw [List.length_take]; omega), show j = i by omega]
      have hi := h i (Nat.lt_succ_self i)
      refine ⟨s.take i, (bx_mem tops i _).mpr ⟨by rw [List.length_take]; omega, fun j hj => ?_⟩, ?_⟩
      · have hj' : j < (s.take i).length := by rw [List.length_take]; omega
        rw [plc_get hj', List.getElem_take, ← plc_get (show j < s.length by omega)]
        exact h j (by omega)
      · refine List.mem_map.mpr ⟨(plc s i).toNat, List.mem_range.mpr (by omega), ?_⟩
        rw [Int.toNat_of_nonneg hi.1]
        exact e.symm
def goodB (rs : List Rl) (st : List Int) : Bool := rs.all (kept st)
theorem goodB_iff {rs : List Rl} {st : List Int} : goodB rs st = true ↔ Good rs st := List.all_eq_true
def goods (tops : List Int) (rs : List Rl) : List (List Int) := (bx tops tops.length).filter (goodB rs)
theorem goods_mem {tops : List Int} {rs : List Rl} {s : List Int} : s ∈ goods tops rs ↔ (s.length = tops.length ∧ ∀ j, j < tops.length → 0 ≤ plc s j ∧ plc s j ≤ plc tops j) ∧ Good rs s := by
  unfold goods
  rw [List.mem_filter, bx_mem, goodB_iff]
/-- what steps lead to -/
inductive Rch (G : List (List Int)) : List Int → List Int → Prop where
  | refl (a : List Int) : Rch G a a
  | step {a b : List Int} {i : Nat} {y : Int} (h : Rch G a b) (hi : i < b.length) (hy : y = plc b i - 1 ∨ y = plc b i + 1) (hg : b.set i y ∈ G) : Rch G a (b.set i y)
theorem Rch.trans {G : List (List Int)} {a b c : List Int} (h : Rch G a b) (h' : Rch G b c) : Rch G a c := by
  induction h' with
  | refl => exact h
  | step _ hi hy hg ih => exact .step ih hi hy hg
theorem Rch.mem {G : List (List Int)} {a b : List Int} (h : Rch G a b) (ha : a ∈ G) : b ∈ G := by
  cases h with
  | refl => exact ha
  | step h hi hy hg => exact hg
theorem Rch.len {G : List (List Int)} {a b : List Int} (h : Rch G a b) : b.length = a.length := by
  induction h with
  | refl => rfl
  | step _ hi hy hg ih => rw [List.length_set, ih]
theorem set_back {b : List Int} {i : Nat} {y : Int} (hi : i < b.length) : (b.set i y).set i (plc b i) = b := by
  refine plc_ext (by rw [List.length_set, List.length_set]) fun j hj => ?_
  by_cases c : i = j
  · subst c
    rw [plc_set_self (by rw [List.length_set]; exact hi)]
  · rw [plc_set_ne c, plc_set_ne c]
theorem set_same {b : List Int} {i : Nat} (hi : i < b.length) : b.set i (plc b i) = b := by
  refine plc_ext (by rw [List.length_set]) fun j hj => ?_
  by_cases c : i = j
  · subst c
    rw [plc_set_self hi]
  · rw [plc_set_ne c]
theorem Rch.symm {G : List (List Int)} {a b : List Int} (h : Rch G a b) (ha : a ∈ G) : Rch G b a := by
  induction h with
  | refl => exact .refl _
  | step h hi hy hg ih =>
    rename_i b i y
    have st : Rch G (b.set i y) ((b.set i y).set i (plc b i)) := .step (.refl _) (by rw [List.length_set]; exact hi) (by rw [plc_set_self hi]; omega) (by rw [set_back hi]; exact h.mem ha)
    rw [set_back hi] at st
    exact st.trans ih
section
variable {tops : List Int} {rs : List Rl}
/-- all along a line -/
theorem seg_rch {m : List Int} {i : Nat} {x : Int} (hm : m ∈ goods tops rs) (hi : i < m.length) (x0 : 0 ≤ x) (x1 : x ≤ plc tops i) (gd : ∀ y, Btw (plc m i) y x → Good rs (m.set i y)) : Rch (goods tops rs) m (m.set i x) := by
  obtain ⟨⟨lm, hb⟩, _⟩ := goods_mem.mp hm
  have hbi := hb i (by omega)
  have main : ∀ (n : Nat) (y : Int), (y - plc m i).natAbs = n → Btw (plc m i) y x → Rch (goods tops rs) m (m.set i y) := by
    intro n
    induction n with
    | zero =>
      intro y hn _
      have e : y = plc m i := by omega
      rw [e, set_same hi]
      exact .refl _
    | succ n ih =>
      intro y hn hy
      obtain ⟨z, hz, hz1, hz2⟩ : ∃ z, (z - plc m i).natAbs = n ∧ (y = z - 1 ∨ y = z + 1) ∧ Btw (plc m i) z x := by
        unfold Btw at *
        by_cases c : plc m i < y
        · exact ⟨y - 1, by omega, by omega, by omega⟩
        · exact ⟨y + 1, by omega, by omega, by omega⟩
      have r := ih z hz hz2
      have hl : i < (m.set i z).length := by rw [List.length_set]; exact hi
      have e : (m.set i z).set i y = m.set i y := List.set_set ..
      have : Rch (goods tops rs) m ((m.set i z).set i y) := .step r hl (by rw [plc_set_self hi]; omega) (by
        rw [e]
        refine goods_mem.mpr ⟨⟨by rw [List.length_set]; exact lm, fun j hj => ?_⟩, gd y hy⟩
        by_cases c : i = j
        · subst c
          rw [plc_set_self hi]
          unfold Btw at hy
          omega
        · rw [plc_set_ne c]
          exact hb j hj)
      rw [e] at this
      exact this
  exact main _ x rfl ⟨by omega, by omega⟩
theorem gg_rch {goal h m : List Int} (hg : goal ∈ goods tops rs) (hh : h ∈ goods tops rs) (g : GG rs goal h m) : Rch (goods tops rs) h m := by
  induction g with
  | refl => exact .refl _
  | step g hi b gd ih =>
    rename_i m i x
    have hm := ih.mem hh
    obtain ⟨⟨lm, hb⟩, _⟩ := goods_mem.mp hm
    obtain ⟨⟨lg, hbg⟩, _⟩ := goods_mem.mp hg
    have b1 := hb i (by omega)
    have b2 := hbg i (by omega)
    exact ih.trans (seg_rch hm hi (by unfold Btw at b; omega) (by unfold Btw at b; omega) gd)
theorem stk_self (goal : List Int) : Stk rs goal goal := fun i hi y hb hy => by
  unfold Btw at hb
  omega
/-- how far, all together -/
def dst : List Int → List Int → Nat
  | x :: xs, y :: ys => (x - y).natAbs + dst xs ys
  | _, _ => 0
theorem dst_set : ∀ (a g : List Int) (i : Nat) (y : Int), i < a.length → g.length = a.length → dst (a.set i y) g + (plc a i - plc g i).natAbs = dst a g + (y - plc g i).natAbs
  | [], _, i, y, h, _ => absurd h (Nat.not_lt_zero _)
  | x :: a, [], i, y, _, h => by simp at h
  | x :: a, z :: g, 0, y, _, _ => by
    show (y - z).natAbs + dst a g + (x - z).natAbs = (x - z).natAbs + dst a g + (y - z).natAbs
    omega
  | x :: a, z :: g, i + 1, y, hi, hl => by
    have := dst_set a g i y (by simpa using hi) (by simpa using hl)
    show (x - z).natAbs + dst (a.set i y) g + (plc a i - plc g i).natAbs = (x - z).natAbs + dst a g + (y - plc g i).natAbs
    omega
theorem door_ex {goal : List Int} : ∀ (n : Nat) (m : List Int), dst m goal = n → goal.length = m.length → Good rs m → ∃ d, GG rs goal m d ∧ Stk rs goal d := by
  intro n
  induction n using Nat.strongRecOn with
  | _ n ih =>
    intro m hn lg gm
    by_cases c : Stk rs goal m
    · exact ⟨m, .refl _, c⟩
    · have : ∃ i, i < m.length ∧ ∃ y, Btw (plc m i) y (plc goal i) ∧ (y = plc m i + 1 ∨ y = plc m i - 1) ∧ Good rs (m.set i y) := Classical.byContradiction fun no => c fun i hi y hb hy gd => no ⟨i, hi, y, hb, hy, gd⟩
      obtain ⟨i, hi, y, hb, hy, gd⟩ := this
      have d := dst_set m goal i y hi lg
      have lt : dst (m.set i y) goal < n := by
        unfold Btw at hb
        omega
      obtain ⟨dd, g, s⟩ := ih _ lt (m.set i y) rfl (by rw [List.length_set]; exact lg) gd
      refine ⟨dd, (GG.step (.refl m) hi hb fun z hz => ?_).trans g, s⟩
      have : z = plc m i ∨ z = y := by
        unfold Btw at hz
        omega
      rcases this with rfl | rfl
      · rw [set_same hi]
        exact gm
      · exact gd
/-- one door for all of the room -/
theorem room_door {goal a b : List Int} (rok : ∀ q ∈ rs, RuleOk tops q) (hg : goal ∈ goods tops rs) (ha : a ∈ goods tops rs) (h : Rch (goods tops rs) a b) : ∀ {d d' : List Int}, GG rs goal a d → Stk rs goal d → GG rs goal b d' → Stk rs goal d' → d = d' := by
  obtain ⟨⟨lg, hbg⟩, gg⟩ := goods_mem.mp hg
  induction h with
  | refl =>
    intro d d' g s g' s'
    obtain ⟨⟨la, _⟩, ga⟩ := goods_mem.mp ha
    exact one_door (by omega) (fun q hq => fit_of (rok q hq) la) gg ga g s g' s'
  | step h hi hy hc ih =>
    rename_i b i y
    intro d d' g s g' s'
    have hb := h.mem ha
    obtain ⟨⟨lb, _⟩, gb⟩ := goods_mem.mp hb
    obtain ⟨⟨lc, _⟩, gc⟩ := goods_mem.mp hc
    obtain ⟨e, ge, se⟩ := door_ex (goal := goal) _ b rfl (by omega) gb
    have e1 : d = e := ih g s ge se
    subst e1
    by_cases c : Btw (plc b i) y (plc goal i)
    · have st : GG rs goal b (b.set i y) := .step (.refl b) hi c fun z hz => by
        have : z = plc b i ∨ z = y := by
          unfold Btw at hz
          omega
        rcases this with rfl | rfl
        · rw [set_same hi]
          exact gb
        · exact gc
      exact one_door (by omega) (fun q hq => fit_of (rok q hq) lb) gg gb ge se (st.trans g') s'
    · have hl : i < (b.set i y).length := by rw [List.length_set]; exact hi
      have c' : Btw (plc (b.set i y) i) (plc b i) (plc goal i) := by
        rw [plc_set_self hi]
        unfold Btw at *
        omega
      have st : GG rs goal (b.set i y) ((b.set i y).set i (plc b i)) := .step (.refl _) hl c' fun z hz => by
        rw [plc_set_self hi] at hz
        have : z = plc b i ∨ z = y := by
          unfold Btw at hz
          omega
        rcases this with rfl | rfl
        · rw [set_back hi]
          exact gb
        · rw [List.set_set]
          exact gc
      rw [set_back hi] at st
      exact one_door (by omega) (fun q hq => fit_of (rok q hq) lc) gg gc (st.trans ge) se g' s'
/-- a way is where steps lead there -/
theorem rch_way {one other : List Int} (rok : ∀ q ∈ rs, RuleOk tops q) (h1 : one ∈ goods tops rs) (h2 : other ∈ goods tops rs) (h : Rch (goods tops rs) one other) : GG rs other one other := by
  obtain ⟨⟨l1, _⟩, g1⟩ := goods_mem.mp h1
  obtain ⟨⟨l2, _⟩, g2⟩ := goods_mem.mp h2
  obtain ⟨d, g, s⟩ := door_ex (goal := other) _ one rfl (by omega) g1
  have e := room_door rok h2 h1 h g s (.refl other) (stk_self other)
  rw [e] at g
  exact g
end
theorem nodup_len {α : Type} [DecidableEq α] : ∀ (l m : List α), l.Nodup → (∀ x ∈ l, x ∈ m) → l.length ≤ m.length
  | [], _, _, _ => Nat.zero_le _
  | x :: l, m, nd, h => by
    obtain ⟨n1, n2⟩ := List.nodup_cons.mp nd
    have ih := nodup_len l (m.erase x) n2 fun y hy => (List.mem_erase_of_ne (fun e : y = x => n1 (by rw [← e]; exact hy))).mpr (h y (List.mem_cons_of_mem _ hy))
    have hx := h x List.mem_cons_self
    rw [List.length_erase_of_mem hx] at ih
    have : 0 < m.length := List.length_pos_of_mem hx
    rw [List.length_cons]
    omega
end K49

set_option Elab.async false
set_option linter.all false
set_option maxRecDepth 100000
namespace K49
open PySem PySem.Spec PyProof.Rows L2 NB

/-! ### good ones, rooms and doors -/
section
variable {tops : List Int} {rs : List Rl}
theorem goods_len {s : List Int} (h : s ∈ goods tops rs) : s.length = tops.length := (goods_mem.mp h).1.1
theorem goods_good {s : List Int} (h : s ∈ goods tops rs) : Good rs s := (goods_mem.mp h).2
end

/-! ### ways walked -/
/-- the places out of a side -/
def outP (tops st : List Int) (sd : Sd) (i : Nat) : Int × Int := if sd.1 = i then (if sd.2.1 then (0, sd.2.2 - 1) else (sd.2.2 + 1, plc tops i)) else (if inB st sd then (0, -1) else (0, plc tops i))
/-- a place of the thing is out of the side -/
theorem out_iff {tops st : List Int} {sd : Sd} {i : Nat} {y : Int} (hs : sd.1 < st.length) (hi : i < st.length) (y0 : 0 ≤ y) (y1 : y ≤ plc tops i) : inB (st.set i y) sd = false ↔ (outP tops st sd i).1 ≤ y ∧ y ≤ (outP tops st sd i).2 := by
  rw [tst_in (by rw [List.length_set]; exact hs)]
  unfold outP
  by_cases c : sd.1 = i
  · rw [if_pos c, c, plc_set_self hi]
    generalize plc tops i = T at *
    cases w : sd.2.1 <;> simp <;> omega
  · rw [if_neg c, plc_set_ne (fun e => c e.symm)]
    cases e : inB st sd with
    | true =>
      rw [tst_in hs] at e
      rw [e]
      simp
      omega
    | false =>
      rw [tst_in hs] at e
      rw [e]
      simp
      exact ⟨y0, y1⟩
/-- kept all along -/
theorem along_of {tops st : List Int} {q : Rl} {i : Nat} {e : Int} (f : Fit st q) (hi : i < st.length) (s0 : 0 ≤ plc st i) (s1 : plc st i ≤ plc tops i) (e0 : 0 ≤ e) (e1 : e ≤ plc tops i) (h : ∀ y, Btw (plc st i) y e → kept (st.set i y) q = true) :
    min (min (outP tops st q.1 i).2 (outP tops st q.2 i).2) (max (plc st i) e) < max (max (outP tops st q.1 i).1 (outP tops st q.2 i).1) (min (plc st i) e) := by
  refine Classical.byContradiction fun no => ?_
  obtain ⟨y, hy1, hy2⟩ : ∃ y, max (max (outP tops st q.1 i).1 (outP tops st q.2 i).1) (min (plc st i) e) ≤ y ∧ y ≤ min (min (outP tops st q.1 i).2 (outP tops st q.2 i).2) (max (plc st i) e) := ⟨_, Int.le_refl _, by omega⟩
  have k := h y (by unfold Btw; omega)
  have y0 : 0 ≤ y := by omega
  have y1 : y ≤ plc tops i := by omega
  unfold kept at k
  rw [(out_iff (tops := tops) f.1 hi y0 y1).mpr (by omega), (out_iff (tops := tops) f.2 hi y0 y1).mpr (by omega)] at k
  cases k
theorem iteTrue {c : Bool} {A B : Prop} (e : c = true) (h : A) : if c = true then A else B := by rw [e]; exact h
theorem iteFalse {c : Bool} {A B : Prop} (e : c = false) (h : B) : if c = true then A else B := by rw [e]; exact h
section
variable {P : Program} {w : World} {K : PySem.W.Frag} {mg : Str → Option Value} {base : Heap}
def spMoved : Sp := fun vs H Q _ => ∃ (a : Addr) (n : Nat) (v : Int) (xs : List Int), vs = [.ref a, .int (n : Int), .int v] ∧ H a = some (.tup (xs.map V.int)) ∧ n < xs.length ∧ xs.length ≤ 12 ∧ ∀ g H', Same H H' → H' g = some (.tup ((xs.set n v).map V.int)) → Q (.ref g) H'
abbrev a_moved : Stmt := topS 51
abbrev n_moved : List Str := ["standing", "thing", "place"]
theorem sc_moved : FnScope n_moved ["standing", "thing", "place"] (defScope a_moved) := ⟨rfl, rfl, rfl, by decide +kernel, rfl, by decide +kernel, by decide +kernel⟩
set_option maxHeartbeats 8000000 in
theorem ok_moved {f  : Addr} {fd  : FuncData} {k : Nat}  (F : Fun K "moved" "moved" a_moved f fd)    : FnOk P w K mg base CX0 (k + 1) f fd ["standing", "thing", "place"] spMoved := by
  refine F.ok sc_moved (fun vs H Q E h => ?_) (fun cdv A outer s H vs Q E hr h => ?_)
  · obtain ⟨a, n, v, xs, rfl, _⟩ := h
    rfl
  · obtain ⟨a, n, v, xs, rfl, ea, hn, l12, q⟩ := h
    refine ⟨_, (pss_one (ps_ret (pe_op (r := rCatA K) op_catA (pe_op (r := rCatA K) op_catA (pe_slice (r := rSlA K) sl_tupA (pv 0) po_none (po_some (pv 1))) (pe_tup (pa_cons (pv 2) pa_nil))) (pe_slice (r := rSlA K) sl_tupA (pv 0) (po_some (pe_op op_add (pv 1) pe_int)) po_none)))), ?_⟩
    exact moved_val (a := 0) (i := 1) (x := 2) rfl rfl rfl ea hn l12 q
def spRow (C : Addr) : Sp := fun vs H Q _ => ∃ (x a r : Addr) (tops st : List Int) (rs : List Rl) (i : Nat) (e : Int), vs = [.ref x, .ref a, .ref r] ∧ PlanAt C H x tops rs ∧ H a = some (.tup (st.map V.int)) ∧ H r = some (.tup [.int (i : Int), .int e]) ∧ st.length = tops.length ∧ i < tops.length ∧ 0 ≤ e ∧ e ≤ plc tops i ∧ e ≠ plc st i ∧ Q (.bl true) H
abbrev a_is_row : Stmt := topS 52
abbrev n_is_row : List Str := ["plan", "standing", "thing", "number", "place"]
theorem sc_is_row : FnScope n_is_row ["plan", "standing", "thing"] (defScope a_is_row) := ⟨rfl, rfl, rfl, by decide +kernel, rfl, by decide +kernel, by decide +kernel⟩
set_option maxHeartbeats 8000000 in
theorem ok_is_row {f fPl : Addr} {fd fdPl : FuncData} {k : Nat} {C : Addr} (F : Fun K "is_row" "is_row" a_is_row f fd) (Pl : Kn P w K mg base 2 "is_place" ["top", "thing"] spPlace fPl fdPl) (T : PlanTxt K mg C) (m_isinstance : mg "isinstance" = none) (m_len : mg "len" = none) (m_tuple : mg "tuple" = none) : FnOk P w K mg base CX0 (k + 3) f fd ["plan", "standing", "thing"] (spRow C) := by
  refine F.ok sc_is_row (fun vs H Q E h => ?_) (fun cdv A outer s H vs Q E hr h => ?_)
  · obtain ⟨x, a, r, tops, st, rs, i, e, rfl, _⟩ := h
    rfl
  · obtain ⟨x, a, r, tops, st, rs, i, e, rfl, ⟨dx, t, R, ex, et, hR⟩, ea, er, lst, li, e0, e1, ne, q⟩ := h
    refine ⟨_, (pss_cons (ps_if (PW.pt (pw_or (pt_not (pt_val (pe_callB call_isi (by rfl) m_isinstance (by decide +kernel) (pa_cons (pv 2) (pa_cons (pe_bltn (v := .ty "tuple") (u := .type "tuple") (by rfl) m_tuple (by decide +kernel) rfl) pa_nil))))) (pw_or (pt_cmpR op_ne (pe_callB call_len_seq (by rfl) m_len (by decide +kernel) (pa_cons (pv 2) pa_nil)) pe_int (nomark _)) (pw_or1 (pt_not (pt_val (pe_kn Pl hr (by omega) (pa_cons (pe_op op_sub (pe_callB call_len_seq (by rfl) m_len (by decide +kernel) (pa_cons (pe_fld (pv 0) rfl) pa_nil)) pe_int) (pa_cons (pe_ix ix_tup (pv 2) pe_int (fun _ _ => rfl)) pa_nil))))))))) (pss_one (ps_ret pe_bl)) pss_nil)
      (pss_cons (ps_asg (pv 2) (pg_tup rfl (pgs_cons (pg_name (i := 3) sc_is_row.nd rfl (.inl rfl)) (pgs_cons (pg_name (i := 4) sc_is_row.nd rfl (.inl rfl)) pgs_nil))))
      (pss_one (ps_ret (pe_and (pe_kn Pl hr (by omega) (pa_cons (pe_ix ix_tup (pe_fld (pv 0) rfl) (pv 3) (fun _ _ => rfl)) (pa_cons (pv 4) pa_nil))) (pe_one (pe_cmpR op_ne (pv 4) (pe_ix ix_tup (pv 1) (pv 3) (fun _ _ => rfl)) (nomark _)))))))), ?_⟩
    have at1 : atI (tops.map V.int) (i : Int) = some (.int (plc tops i)) := by
      rw [plc_get li]
      exact at_int li
    have at2 : atI (st.map V.int) (i : Int) = some (.int (plc st i)) := by
      rw [plc_get (show i < st.length by omega)]
      exact at_int (by omega)
    refine ⟨.ref r, rfl, _, _, _, _, true, rfl, .ty "tuple", .base (.tup er), kit_ty (by decide +kernel), true, rfl, iteF ?_⟩
    refine ⟨.ref r, rfl, r, _, rfl, .inr (.inl (.inl er)), rfl, _, rfl, iteNS rfl ?_⟩
    refine ⟨.ref x, rfl, x, C, dx, _, _, rfl, ex, T.cl, T.nT, look_tops _ _, t, _, rfl, .inr (.inl (.inl et)), _, 1, rfl, rfl, .ref r, rfl, r, _, 0, _, rfl, rfl, .inl (.inl er), rfl, _, _, rfl, _, rfl, ?_⟩
    have c1 : (decide ((0 : Int) ≤ (i : Int)) && decide ((i : Int) ≤ ((tops.map V.int).length : Int) - 1)) = true := by
      rw [List.length_map, decide_eq_true (by omega), decide_eq_true (by omega)]
      rfl
    rw [c1]
    refine iteF ?_
    refine ⟨.ref r, rfl, r, _, rfl, .inl (.inl er), rfl, _, _, rfl, _, _, rfl, rfl, ?_⟩
    refine ⟨.ref x, rfl, x, C, dx, _, _, rfl, ex, T.cl, T.nT, look_tops _ _, _, rfl, t, _, i, _, rfl, rfl, .inl (.inl et), at1, .int e, rfl, _, _, rfl, ?_⟩
    rw [decide_eq_true e0, decide_eq_true e1]
    refine ⟨_, rfl, iteT ⟨.int e, rfl, .ref a, rfl, _, rfl, a, _, i, _, rfl, rfl, .inl (.inl ea), at2, rfl, ?_⟩⟩
    have c2 : decide (V.int e = V.int (plc st i)) = false := decide_eq_false fun z => ne (by injection z)
    rw [c2]
    exact q
def spOut (C : Addr) : Sp := fun vs H Q _ => ∃ (x a p : Addr) (tops st : List Int) (rs : List Rl) (sd : Sd) (i : Nat), vs = [.ref x, .ref a, .ref p, .int (i : Int)] ∧ PlanAt C H x tops rs ∧ H a = some (.tup (st.map V.int)) ∧ SideAt H p sd ∧ sd.1 < st.length ∧ i < tops.length ∧
  ∀ H' g, Same H H' → H' g = some (.tup [.int (outP tops st sd i).1, .int (outP tops st sd i).2]) → Q (.ref g) H'
abbrev a_out_places : Stmt := topS 53
abbrev n_out_places : List Str := ["plan", "standing", "side", "thing", "top"]
theorem sc_out_places : FnScope n_out_places ["plan", "standing", "side", "thing"] (defScope a_out_places) := ⟨rfl, rfl, rfl, by decide +kernel, rfl, by decide +kernel, by decide +kernel⟩
set_option maxHeartbeats 8000000 in
theorem ok_out_places {f fIn : Addr} {fd fdIn : FuncData} {k : Nat} {C : Addr} (F : Fun K "out_places" "out_places" a_out_places f fd) (In : Kn P w K mg base 1 "is_in" ["side", "standing"] spIn fIn fdIn) (T : PlanTxt K mg C)  : FnOk P w K mg base CX0 (k + 2) f fd ["plan", "standing", "side", "thing"] (spOut C) := by
  refine F.ok sc_out_places (fun vs H Q E h => ?_) (fun cdv A outer s H vs Q E hr h => ?_)
  · obtain ⟨x, a, p, tops, st, rs, sd, i, rfl, _⟩ := h
    rfl
  · obtain ⟨x, a, p, tops, st, rs, sd, i, rfl, ⟨dx, t, R, ex, et, hR⟩, ea, hs, ls, li, q⟩ := h
    refine ⟨_, (pss_cons (ps_set (i := 4) sc_out_places.nd rfl (.inl rfl) (pe_ix ix_tup (pe_fld (pv 0) rfl) (pv 3) (fun _ _ => rfl)))
      (pss_cons (ps_if (pt_cmpR op_ne (pe_ix ix_tup (pv 2) pe_int (fun _ _ => rfl)) (pv 3) (nomark _)) (pss_one (ps_ret (pe_ifExp (pt_val (pe_kn In hr (by omega) (pa_cons (pv 2) (pa_cons (pv 1) pa_nil)))) (pe_tup (pa_cons pe_int (pa_cons (pe_un un_neg pe_int) pa_nil))) (pe_tup (pa_cons pe_int (pa_cons (pv 4) pa_nil)))))) pss_nil)
      (pss_cons (ps_if (pt_cmpR op_eq (pe_ix ix_tup (pv 2) pe_int (fun _ _ => rfl)) pe_str (nomark _)) (pss_one (ps_ret (pe_tup (pa_cons pe_int (pa_cons (pe_op op_sub (pe_ix ix_tup (pv 2) pe_int (fun _ _ => rfl)) pe_int) pa_nil))))) pss_nil)
      (pss_one (ps_ret (pe_tup (pa_cons (pe_op op_add (pe_ix ix_tup (pv 2) pe_int (fun _ _ => rfl)) pe_int) (pa_cons (pv 4) pa_nil)))))))), ?_⟩
    have at1 : atI (tops.map V.int) (i : Int) = some (.int (plc tops i)) := by
      rw [plc_get li]
      exact at_int li
    have z2 : (2 : Nat) ≤ sizeLine := by decide
    refine ⟨.ref x, rfl, x, C, dx, _, _, rfl, ex, T.cl, T.nT, look_tops _ _, _, rfl, t, _, i, _, rfl, rfl, .inl (.inl et), at1, ?_⟩
    refine ⟨.ref p, rfl, p, _, 0, _, rfl, rfl, .inl (.inl hs), rfl, _, rfl, rfl, _, rfl, ite2 (fun c => ?_) (fun c => ?_)⟩
    · have ne : ¬ sd.1 = i := fun z => by
        rw [z] at c
        simp at c
      refine ⟨.ref p, rfl, .ref a, rfl, p, a, sd, st, rfl, hs, ea, ls, _, rfl, ite2 (fun d => ?_) (fun d => ?_)⟩
      · refine ⟨1, rfl, z2, fun g ng => q _ g (same_new ng) ?_⟩
        rw [upd_same]
        unfold outP
        rw [if_neg ne, if_pos d]
      · refine ⟨_, rfl, z2, fun g ng => q _ g (same_new ng) ?_⟩
        rw [upd_same]
        unfold outP
        rw [if_neg ne, if_neg d]
    · have eqi : sd.1 = i := by
        rw [Bool.not_eq_true, Bool.not_eq_false'] at c
        have := of_decide_eq_true c
        injection this with h
        omega
      refine ⟨.ref p, rfl, p, _, 1, _, rfl, rfl, .inl (.inl hs), rfl, rfl, _, rfl, ?_⟩
      cases w : sd.2.1 with
      | true =>
        refine iteTrue (by decide +kernel) ⟨.ref p, rfl, p, _, 2, _, rfl, rfl, .inl (.inl hs), rfl, _, 1, rfl, rfl, z2, fun g ng => q _ g (same_new ng) ?_⟩
        rw [upd_same]
        unfold outP
        rw [if_pos eqi, if_pos w]
      | false =>
        refine iteFalse (by decide +kernel) ⟨.ref p, rfl, p, _, 2, _, rfl, rfl, .inl (.inl hs), rfl, _, 1, rfl, rfl, _, rfl, z2, fun g ng => q _ g (same_new ng) ?_⟩
        rw [upd_same]
        unfold outP
        rw [if_pos eqi, if_neg (by rw [w]; decide)]
end
end K49

set_option Elab.async false
set_option linter.all false
set_option maxRecDepth 100000
namespace K49
open PySem PySem.Spec PyProof.Rows L2 NB

/-! ### going along, and walked -/
section
variable {P : Program} {w : World} {K : PySem.W.Frag} {mg : Str → Option Value} {base : Heap}
def spAlong (C : Addr) : Sp := fun vs H Q _ => ∃ (x a r : Addr) (tops st : List Int) (rs : List Rl) (q0 : Rl) (i : Nat) (e : Int), vs = [.ref x, .ref a, .ref r, .int (i : Int), .int e] ∧ PlanAt C H x tops rs ∧ H a = some (.tup (st.map V.int)) ∧ RuleAt H r q0 ∧ Fit st q0 ∧ st.length = tops.length ∧ i < tops.length ∧ 0 ≤ plc st i ∧ plc st i ≤ plc tops i ∧ 0 ≤ e ∧ e ≤ plc tops i ∧ (∀ y, Btw (plc st i) y e → kept (st.set i y) q0 = true) ∧ ∀ H', Same H H' → Q (.bl true) H'
abbrev a_is_kept_along : Stmt := topS 54
abbrev n_is_kept_along : List Str := ["plan", "standing", "rule", "thing", "place", "here", "least", "most", "low", "high"]
theorem sc_is_kept_along : FnScope n_is_kept_along ["plan", "standing", "rule", "thing", "place"] (defScope a_is_kept_along) := ⟨rfl, rfl, rfl, by decide +kernel, rfl, by decide +kernel, by decide +kernel⟩
set_option maxHeartbeats 8000000 in
theorem ok_is_kept_along {f fOu : Addr} {fd fdOu : FuncData} {k : Nat} {C : Addr} (F : Fun K "is_kept_along" "is_kept_along" a_is_kept_along f fd) (Ou : Kn P w K mg base 2 "out_places" ["plan", "standing", "side", "thing"] (spOut C) fOu fdOu)  (m_max : mg "max" = none) (m_min : mg "min" = none) : FnOk P w K mg base CX0 (k + 3) f fd ["plan", "standing", "rule", "thing", "place"] (spAlong C) := by
  refine F.ok sc_is_kept_along (fun vs H Q E h => ?_) (fun cdv A outer s H vs Q E hr h => ?_)
  · obtain ⟨x, a, r, tops, st, rs, q0, i, e, rfl, _⟩ := h
    rfl
  · obtain ⟨x, a, r, tops, st, rs, q0, i, e, rfl, hp, ea, ⟨r1, r2, er, h1, h2⟩, ft, lst, li, s0, s1, e0, e1, al, q⟩ := h
    refine ⟨_, (pss_cons (ps_set (i := 5) sc_is_kept_along.nd rfl (.inl rfl) (pe_ix ix_tup (pv 1) (pv 3) (fun _ _ => rfl)))
      (pss_cons (ps_asg (pe_kn Ou hr (by omega) (pa_cons (pv 0) (pa_cons (pv 1) (pa_cons (pe_ix ix_tup (pv 2) pe_int (fun _ _ => rfl)) (pa_cons (pv 3) pa_nil))))) (pg_tup rfl (pgs_cons (pg_name (i := 6) sc_is_kept_along.nd rfl (.inl rfl)) (pgs_cons (pg_name (i := 7) sc_is_kept_along.nd rfl (.inl rfl)) pgs_nil))))
      (pss_cons (ps_asg (pe_kn Ou hr (by omega) (pa_cons (pv 0) (pa_cons (pv 1) (pa_cons (pe_ix ix_tup (pv 2) pe_int (fun _ _ => rfl)) (pa_cons (pv 3) pa_nil))))) (pg_tup rfl (pgs_cons (pg_name (i := 8) sc_is_kept_along.nd rfl (.inl rfl)) (pgs_cons (pg_name (i := 9) sc_is_kept_along.nd rfl (.inl rfl)) pgs_nil))))
      (pss_one (ps_ret (pe_cmpR op_gt (pe_callB (max3 rfl) (by rfl) m_max (by decide +kernel) (pa_cons (pv 6) (pa_cons (pv 8) (pa_cons (pe_callB (call_min2 rfl) (by rfl) m_min (by decide +kernel) (pa_cons (pv 5) (pa_cons (pv 4) pa_nil))) pa_nil)))) (pe_callB (min3 rfl) (by rfl) m_min (by decide +kernel) (pa_cons (pv 7) (pa_cons (pv 9) (pa_cons (pe_callB (call_max2 rfl) (by rfl) m_max (by decide +kernel) (pa_cons (pv 5) (pa_cons (pv 4) pa_nil))) pa_nil)))) (nomark _))))))), ?_⟩
    have hi : i < st.length := by omega
    have at2 : atI (st.map V.int) (i : Int) = some (.int (plc st i)) := by
      rw [plc_get hi]
      exact at_int hi
    have key := along_of (tops := tops) ft hi s0 s1 e0 e1 al
    refine ⟨.ref a, rfl, _, rfl, a, _, i, _, rfl, rfl, .inl (.inl ea), at2, ?_⟩
    refine ⟨.ref x, rfl, .ref a, rfl, .ref r, rfl, r, _, 0, _, rfl, rfl, .inl (.inl er), rfl, _, rfl, x, a, r1, tops, st, rs, q0.1, i, rfl, hp, ea, h1, ft.1, li, fun H1 g1 t1 eg1 => ⟨g1, _, rfl, .inl (.inl eg1), rfl, _, _, rfl, _, _, rfl, rfl, ?_⟩⟩
    refine ⟨.ref x, rfl, .ref a, rfl, .ref r, rfl, r, _, 1, _, rfl, rfl, .inl (.inl (t1 _ _ er)), rfl, _, rfl, x, a, r2, tops, st, rs, q0.2, i, rfl, hp.keep (.same t1), t1 _ _ ea, h2.keep (.same t1), ft.2, li, fun H2 g2 t2 eg2 => ⟨g2, _, rfl, .inl (.inl eg2), rfl, _, _, rfl, _, _, rfl, rfl, ?_⟩⟩
    refine ⟨_, rfl, _, rfl, _, rfl, .int e, rfl, plc st i, e, rfl, _, _, _, rfl, _, rfl, _, rfl, _, rfl, .int e, rfl, plc st i, e, rfl, _, _, _, rfl, _, _, rfl, rfl, ?_⟩
    have m1 : (if e < plc st i then e else plc st i) = min (plc st i) e := by split <;> omega
    have m2 : (if e > plc st i then e else plc st i) = max (plc st i) e := by split <;> omega
    rw [m1, m2]
    show Q (.bl (decide (min (min (outP tops st q0.1 i).2 (outP tops st q0.2 i).2) (max (plc st i) e) < max (max (outP tops st q0.1 i).1 (outP tops st q0.2 i).1) (min (plc st i) e)))) H2
    rw [decide_eq_true key]
    exact q H2 (t1.trans t2)
def spCan (C : Addr) : Sp := fun vs H Q _ => ∃ (x a : Addr) (tops st : List Int) (rs : List Rl) (i : Nat) (e : Int), vs = [.ref x, .ref a, .int (i : Int), .int e] ∧ PlanAt C H x tops rs ∧ H a = some (.tup (st.map V.int)) ∧ rs.length ≤ 40 ∧ (∀ q ∈ rs, Fit st q) ∧ st.length = tops.length ∧ i < tops.length ∧ 0 ≤ plc st i ∧ plc st i ≤ plc tops i ∧ 0 ≤ e ∧ e ≤ plc tops i ∧ (∀ q ∈ rs, ∀ y, Btw (plc st i) y e → kept (st.set i y) q = true) ∧ ∀ H', Same H H' → Q (.bl true) H'
abbrev a_can_go : Stmt := topS 55
abbrev n_can_go : List Str := ["plan", "standing", "thing", "place", "rule"]
theorem sc_can_go : FnScope n_can_go ["plan", "standing", "thing", "place"] (defScope a_can_go) := ⟨rfl, rfl, rfl, by decide +kernel, rfl, by decide +kernel, by decide +kernel⟩
set_option maxHeartbeats 8000000 in
theorem ok_can_go {f fKa : Addr} {fd fdKa : FuncData} {k : Nat} {C : Addr} (F : Fun K "can_go" "can_go" a_can_go f fd) (Ka : Kn P w K mg base 3 "is_kept_along" ["plan", "standing", "rule", "thing", "place"] (spAlong C) fKa fdKa) (T : PlanTxt K mg C) (m_all : mg "all" = none) : FnOk P w K mg base CX0 (k + 4) f fd ["plan", "standing", "thing", "place"] (spCan C) := by
  refine F.ok sc_can_go (fun vs H Q E h => ?_) (fun cdv A outer s H vs Q E hr h => ?_)
  · obtain ⟨x, a, tops, st, rs, i, e, rfl, _⟩ := h
    rfl
  · obtain ⟨x, a, tops, st, rs, i, e, rfl, hp, ea, l40, ft, lst, li, s0, s1, e0, e1, al, q⟩ := h
    refine ⟨_, (pss_one (ps_ret (pe_callB (cr_all rfl) (by rfl) m_all (by decide +kernel) (pa_cons (
        pe_lc (own := [("rule", 4)]) (g := (gName 4)) (tt := tYes) (te := (tCall (spAlong C) [] E0 (tCons (tVar 0) (tCons (tVar 1) (tCons (tVar 4) (tCons (tVar 2) (tCons (tVar 3) tNil))))))) rfl sc_can_go.nd (pi_tup (pe_fld (pv 0) rfl)) (blkOk_by (N := n_can_go) (sc := defScope a_can_go) (by decide +kernel))
          (fun _ _ _ _ _ => (pg_name (i := 4) sc_can_go.nd rfl (.inl rfl) (hf := .inr rfl))) (fun _ _ _ _ _ => pts_nil) (fun _ _ _ _ _ => (pe_kn Ka hr (by omega) (pa_cons (pv 0) (pa_cons (pv 1) (pa_cons (pv 4) (pa_cons (pv 2) (pa_cons (pv 3) pa_nil)))))))) pa_nil)))), ?_⟩
    obtain ⟨dx, t, R, ex, et, as, eR, la, ha⟩ := hp
    have hp : PlanAt C H x tops rs := ⟨dx, t, R, ex, et, as, eR, la, ha⟩
    refine ⟨.ref x, rfl, x, C, dx, _, _, rfl, ex, T.cl, T.nR, look_rules _ _, R, rfl, ⟨_, .inl (.inl eR)⟩, fun D nD => lc_it (walk_tup (xs := as.map V.ref)) (fun j H' => Same H H' ∧ H' D = some (.lst ((List.replicate j true).map V.bl))) ⟨same_new nD, upd_same⟩ (fun j H' _ y => .inl (.inl (y.1 _ _ eR))) (fun j v H1 H2 hj y z => ?_) (fun H1 y => ?_)⟩
    · obtain ⟨sm, eD⟩ := y
      obtain ⟨rfl, gv⟩ := z
      obtain ⟨r, er, rfl⟩ := mapGet gv
      have hj' : j < as.length := by simpa using hj
      have hw : j < rs.length := by omega
      have hq := ha j r rs[j] er (List.getElem?_eq_getElem hw)
      have hm : rs[j] ∈ rs := List.getElem_mem hw
      refine ⟨wipe_one, .ref x, rfl, .ref a, rfl, .ref r, rfl, _, rfl, _, rfl, x, a, r, tops, st, rs, rs[j], i, e, rfl, hp.keep (.same sm), sm _ _ ea, hq.keep (.same sm), ft _ hm, lst, li, s0, s1, e0, e1, al _ hm, fun H3 s3 => ⟨_, s3 _ _ eD, ?_, same_over (sm.trans s3) nD, ?_⟩⟩
      · rw [List.length_map, List.length_replicate]
        exact small1000 (by omega)
      · rw [upd_same, List.replicate_succ', List.map_append]
        rfl
    · obtain ⟨sm, eD⟩ := y
      have al3 : (List.replicate (as.map V.ref).length true).all id = true := List.all_eq_true.mpr fun y hy => List.eq_of_mem_replicate hy
      refine ⟨D, _, rfl, .inl (.inl eD), ?_⟩
      rw [al3]
      exact q H1 sm
end
end K49

set_option Elab.async false
set_option linter.all false
set_option maxRecDepth 100000
namespace K49
open PySem PySem.Spec PyProof.Rows L2 NB

/-! ### rows that can be walked, and walked -/
inductive GW (tops : List Int) (rs : List Rl) : List Int → List (Nat × Int) → List Int → Prop where
  | nil (a : List Int) : GW tops rs a [] a
  | snoc {a m : List Int} {rows : List (Nat × Int)} {i : Nat} {x : Int} (g : GW tops rs a rows m) (hi : i < m.length) (x0 : 0 ≤ x) (x1 : x ≤ plc tops i) (ne : x ≠ plc m i) (gd : ∀ y, Btw (plc m i) y x → Good rs (m.set i y)) : GW tops rs a (rows ++ [(i, x)]) (m.set i x)
abbrev stq (st : List Int) (r : Nat × Int) : List Int := st.set r.1 r.2
section
variable {tops : List Int} {rs : List Rl}
theorem GW.rch {a m : List Int} {rows : List (Nat × Int)} (ha : a ∈ goods tops rs) (g : GW tops rs a rows m) : Rch (goods tops rs) a m := by
  induction g with
  | nil => exact .refl _
  | snoc g hi x0 x1 ne gd ih =>
    exact ih.trans (seg_rch (ih.mem ha) hi x0 x1 gd)
theorem GW.at' {a m : List Int} {rows : List (Nat × Int)} (g : GW tops rs a rows m) : rows.foldl stq a = m ∧ ∀ (n : Nat) (r : Nat × Int), rows[n]? = some r → GW tops rs a (rows.take n) ((rows.take n).foldl stq a) ∧ r.1 < ((rows.take n).foldl stq a).length ∧ 0 ≤ r.2 ∧ r.2 ≤ plc tops r.1 ∧ r.2 ≠ plc ((rows.take n).foldl stq a) r.1 ∧ ∀ y, Btw (plc ((rows.take n).foldl stq a) r.1) y r.2 → Good rs (((rows.take n).foldl stq a).set r.1 y) := by
  induction g with
  | nil => exact ⟨rfl, fun n r e => by simp at e⟩
  | snoc g hi x0 x1 ne gd ih =>
    rename_i m rows i x
    obtain ⟨e1, h1⟩ := ih
    refine ⟨by rw [List.foldl_append, e1]; rfl, fun n r e => ?_⟩
    rcases Nat.lt_or_ge n rows.length with c | c
    · rw [List.getElem?_append_left c] at e
      rw [List.take_append_of_le_length (by omega)]
      exact h1 n r e
    · rw [List.getElem?_append_right c] at e
      have c' : n = rows.length := by
        have := (List.getElem?_eq_some_iff.mp e).1
        simp only [List.length_cons, List.length_nil] at this
        omega
      subst c'
      rw [Nat.sub_self] at e
      cases e
      rw [List.take_left, e1]
      exact ⟨g, hi, x0, x1, ne, gd⟩
theorem GW.take {a m : List Int} {rows : List (Nat × Int)} (g : GW tops rs a rows m) (n : Nat) : ∃ m', GW tops rs a (rows.take n) m' := by
  rcases Nat.lt_or_ge n rows.length with c | c
  · exact ⟨_, (g.at'.2 n _ (List.getElem?_eq_getElem c)).1⟩
  · rw [List.take_of_length_le c]
    exact ⟨_, g⟩
theorem goes_gw {one other h last : List Int} {nds : List ND} {rows : List (Nat × Int)} (rok : ∀ q ∈ rs, RuleOk tops q) (N : NdsOf one other rs nds) (h1 : one ∈ goods tops rs) (h2 : other ∈ goods tops rs) (g : Goes one other nds h rows last) : GW tops rs h rows last := by
  have lo := goods_len h1
  have lo' := goods_len h2
  induction g with
  | nil => exact .nil _
  | snoc g sf wi li ne g0 g1 ih =>
    rename_i m rows i e
    have lm : i < m.length := by rw [wi.1]; exact li
    have e1 := (endF_spec (one := one) (other := other) nds m i).2.1
    have w0 := (wi.2 i li).1
    have z0 : gn one other i (plc one i) = 0 := gone_one i
    have bE : Btw (plc one i) e (plc other i) := gone_btw (one := one) (other := other) (i := i) (by rw [z0]; exact Int.le_trans w0 g0) (Int.le_trans g1 e1)
    have b1 := (goods_mem.mp h1).1.2 i (by omega)
    have b2 := (goods_mem.mp h2).1.2 i (by omega)
    refine .snoc ih lm (by unfold Btw at bE; omega) (by unfold Btw at bE; omega) ne fun y hy q hq => ?_
    have gm := gone_mid (one := one) (other := other) (i := i) g0 hy.1 hy.2
    exact safe_kept lo lo' rok N (sf.move lm gm.1 (Int.le_trans gm.2 g1)) (wi.move (by have := gm.1; omega) (Int.le_trans gm.2 (Int.le_trans g1 e1))) hq (goods_good h1 q hq) (goods_good h2 q hq)
end
section
variable {P : Program} {w : World} {K : PySem.W.Frag} {mg : Str → Option Value} {base : Heap}
def spWk (C : Addr) : Sp := fun vs H Q _ => ∃ (x a p : Addr) (tops one last : List Int) (rs : List Rl) (rws : List (Nat × Int)), vs = [.ref x, .ref a, .ref p] ∧ PlanAt C H x tops rs ∧ H a = some (.tup (one.map V.int)) ∧ RowsAt H p rws ∧ GW tops rs one rws last ∧ one ∈ goods tops rs ∧ (∀ q ∈ rs, RuleOk tops q) ∧ tops.length ≤ 12 ∧ rs.length ≤ 31 ∧ ∀ H' g, Same H H' → H' g = some (.tup (last.map V.int)) → Q (.ref g) H'
abbrev a_walked : Stmt := topS 56
abbrev n_walked : List Str := ["plan", "standing", "way", "here", "at", "row"]
theorem sc_walked : FnScope n_walked ["plan", "standing", "way"] (defScope a_walked) := ⟨rfl, rfl, rfl, by decide +kernel, rfl, by decide +kernel, by decide +kernel⟩
set_option maxHeartbeats 8000000 in
theorem ok_walked {f fIr fCg fMo : Addr} {fd fdIr fdCg fdMo : FuncData} {k : Nat} {C : Addr} (F : Fun K "walked" "walked" a_walked f fd) (Ir : Kn P w K mg base 3 "is_row" ["plan", "standing", "thing"] (spRow C) fIr fdIr) (Cg : Kn P w K mg base 4 "can_go" ["plan", "standing", "thing", "place"] (spCan C) fCg fdCg) (Mo : Kn P w K mg base 1 "moved" ["standing", "thing", "place"] spMoved fMo fdMo)  (m_enumerate : mg "enumerate" = none) (m_isinstance : mg "isinstance" = none) (m_tuple : mg "tuple" = none) : FnOk P w K mg base CX0 (k + 5) f fd ["plan", "standing", "way"] (spWk C) := by
  refine F.ok sc_walked (fun vs H Q E h => ?_) (fun cdv A outer s H vs Q E hr h => ?_)
  · obtain ⟨x, a, p, tops, one, last, rs, rws, rfl, _⟩ := h
    rfl
  · obtain ⟨x, a, p, tops, one, last, rs, rws, rfl, hp, ea, ⟨as, ep, la, fa⟩, G, G1, rok, l12, l31, q⟩ := h
    refine ⟨_, (pss_cons (ps_if (pt_not (pt_val (pe_callB call_isi (by rfl) m_isinstance (by decide +kernel) (pa_cons (pv 2) (pa_cons (pe_bltn (v := .ty "tuple") (u := .type "tuple") (by rfl) m_tuple (by decide +kernel) rfl) pa_nil))))) (pss_one (ps_never)) pss_nil)
      (pss_cons (ps_set (i := 3) sc_walked.nd rfl (.inl rfl) (pv 1))
      (pss_cons (ps_for PassesOwn.never rfl (pi_enumT (by rfl) m_enumerate (pa_cons (pv 2) pa_nil)) (pg_tup rfl (pgs_cons (pg_name (i := 4) sc_walked.nd rfl (.inl rfl)) (pgs_cons (pg_name (i := 5) sc_walked.nd rfl (.inl rfl)) pgs_nil)))
        (pss_cons (ps_if (PW.pt (pw_or (pt_not (pt_val (pe_kn Ir hr (by omega) (pa_cons (pv 0) (pa_cons (pv 3) (pa_cons (pv 5) pa_nil)))))) (pw_or1 (pt_not (pt_val (pe_kn Cg hr (by omega) (pa_cons (pv 0) (pa_cons (pv 3) (pa_cons (pe_ix ix_tup (pv 5) pe_int (fun _ _ => rfl)) (pa_cons (pe_ix ix_tup (pv 5) pe_int (fun _ _ => rfl)) pa_nil)))))))))) (pss_one (ps_never)) pss_nil)
      (pss_one (ps_set (i := 3) sc_walked.nd rfl (.inl rfl) (pe_kn Mo hr (by omega) (pa_cons (pv 3) (pa_cons (pe_ix ix_tup (pv 5) pe_int (fun _ _ => rfl)) (pa_cons (pe_ix ix_tup (pv 5) pe_int (fun _ _ => rfl)) pa_nil))))))))
      (pss_one (ps_ret (pv 3)))))), ?_⟩
    obtain ⟨gl, gs⟩ := G.at'
    refine ⟨.ref p, rfl, _, _, _, _, true, rfl, .ty "tuple", .base (.tup ep), kit_ty (by decide +kernel), true, rfl, iteF ?_⟩
    refine ⟨.ref a, rfl, .ref p, rfl, p, _, rfl, .inl (.inl ep), for_it (walk_enumT (xs := as.map V.ref)) (fun m σ H' => (∃ (u4 u5 : Option V) (h : Addr), σ = [some (.ref x), some (.ref a), some (.ref p), some (.ref h), u4, u5] ∧ H' h = some (.tup (((rws.take m).foldl stq one).map V.int))) ∧ Same H H')
      ⟨⟨none, none, a, rfl, ea⟩, Same.refl H⟩ (fun m σ H' _ z => .inl (.inl (z.2 _ _ ep))) (fun m v σ H2 H3 hm z y => ?_) (fun σ H2 z => ?_)⟩
    · obtain ⟨⟨u4, u5, h, rfl, eh⟩, s2⟩ := z
      obtain ⟨T', x1, x2, rfl, nT, rfl, g1, g2⟩ := y
      have e1 : x1 = .int (m : Nat) := (Option.some.inj g1).symm
      subst e1
      obtain ⟨r, er, rfl⟩ := mapGet g2
      have sT := same_new (o := HO.tup [V.int (m : Nat), V.ref r]) nT
      have s3 := s2.trans sT
      have hm' : m < as.length := by simpa using hm
      have hw : m < rws.length := by omega
      have ew : rws[m]? = some rws[m] := List.getElem?_eq_getElem hw
      have rr := s3 _ _ (fa m r _ er ew)
      have eh3 := sT _ _ eh
      have tk : (rws.take (m + 1)).foldl stq one = ((rws.take m).foldl stq one).set rws[m].1 rws[m].2 := by
        rw [List.take_add_one, ew, List.foldl_append]
        rfl
      obtain ⟨gw, li, e0, e1, ne, gd⟩ := gs m _ ew
      have ms := (gw.rch G1).mem G1
      rw [tk]
      generalize (rws.take m).foldl stq one = st at *
      generalize rws[m] = rw' at *
      obtain ⟨i, e⟩ := rw'
      have li : i < st.length := li
      have ne : e ≠ plc st i := ne
      have e0 : 0 ≤ e := e0
      have e1 : e ≤ plc tops i := e1
      have gd : ∀ y, Btw (plc st i) y e → Good rs (st.set i y) := gd
      have rr' : (upd H2 T' (.tup [V.int (m : Nat), V.ref r])) r = some (.tup [.int (i : Int), .int e]) := rr
      have lst : st.length = tops.length := goods_len ms
      have li'' : i < tops.length := by omega
      have q1 := (goods_mem.mp ms).1.2 i li''
      refine ⟨T', _, rfl, .inl (.inl upd_same), rfl, _, _, rfl, _, _, rfl, rfl, ?_⟩
      refine ⟨.ref x, rfl, .ref h, rfl, .ref r, rfl, x, h, r, tops, st, rs, i, e, rfl, hp.keep (.same s3), eh3, rr', lst, li'', e0, e1, ne, ⟨true, rfl, iteF ?_⟩⟩
      refine ⟨.ref x, rfl, .ref h, rfl, .ref r, rfl, r, _, 0, _, rfl, rfl, .inl (.inl rr'), rfl, .ref r, rfl, r, _, 1, _, rfl, rfl, .inl (.inl rr'), rfl, x, h, tops, st, rs, i, e, rfl, hp.keep (.same s3), eh3, by omega, (fun y hy => fit_of (rok y hy) lst), lst, li'', q1.1, q1.2, e0, e1, (fun y hy z hz => gd z hz y hy), fun H4 s4 => ⟨true, rfl, iteF ?_⟩⟩
      refine ⟨.ref h, rfl, .ref r, rfl, r, _, 0, _, rfl, rfl, .inl (.inl (s4 _ _ rr')), rfl, .ref r, rfl, r, _, 1, _, rfl, rfl, .inl (.inl (s4 _ _ rr')), rfl, h, i, e, st, rfl, s4 _ _ eh3, by omega, by omega, fun g H5 s5 e5 => ⟨⟨_, _, g, rfl, e5⟩, (s3.trans s4).trans s5⟩⟩
    · obtain ⟨⟨u4, u5, h, rfl, eh⟩, s2⟩ := z
      rw [List.length_map, la, List.take_length, gl] at eh
      exact ⟨.ref h, rfl, q H2 h s2 eh⟩
end
end K49

set_option Elab.async false
set_option linter.all false
set_option maxRecDepth 100000
namespace K49
open PySem PySem.Spec PyProof.Rows L2 NB

/-! ### k49: ways drawn, the mathematics -/
/-- rows gone: who, from where, to where -/
inductive G3 (one two : List Int) (nds : List ND) : List (Nat × Int × Int) → List Int → Prop where
  | nil : G3 one two nds [] one
  | snoc {m : List Int} {ts : List (Nat × Int × Int)} {i : Nat} {e : Int} (g : G3 one two nds ts m) (sf : Safe one two nds m) (wi : Within one two m) (li : i < one.length) (h0 : gn one two i (plc m i) < gn one two i e) (h1 : gn one two i e ≤ gn one two i (endF one two nds m i)) : G3 one two nds (ts ++ [(i, plc m i, e)]) (m.set i e)
section
variable {one two : List Int} {nds : List ND}
theorem G3.goes {ts : List (Nat × Int × Int)} {m : List Int} (g : G3 one two nds ts m) : Goes one two nds one (ts.map fun t => (t.1, t.2.2)) m := by
  induction g with
  | nil => exact .nil _
  | snoc g sf wi li h0 h1 ih =>
    rw [List.map_append]
    rename_i m ts i e
    exact .snoc (i := i) (e := e) ih sf wi li (fun z : e = plc m i => by rw [z] at h0; omega) (Int.le_of_lt h0) h1
theorem G3.cover {ts : List (Nat × Int × Int)} {m : List Int} (g : G3 one two nds ts m) : ∀ (i : Nat) (x : Int), i < one.length → 0 ≤ x → x < gn one two i (plc m i) → ∃ (k : Nat) (t : Nat × Int × Int), ts[k]? = some t ∧ t.1 = i ∧ gn one two i t.2.1 ≤ x ∧ x < gn one two i t.2.2 := by
  induction g with
  | nil =>
    intro i x _ h0 h1
    have e : gn one two i (plc one i) = 0 := gone_one i
    omega
  | snoc g sf wi li h0 h1 ih =>
    rename_i m ts i e
    intro j x hj x0 x1
    have old : x < gn one two j (plc m j) → ∃ (k : Nat) (t : Nat × Int × Int), (ts ++ [(i, plc m i, e)])[k]? = some t ∧ t.1 = j ∧ gn one two j t.2.1 ≤ x ∧ x < gn one two j t.2.2 := fun lt => by
      obtain ⟨k, t, a, b⟩ := ih j x hj x0 lt
      exact ⟨k, t, by rw [List.getElem?_append_left (List.getElem?_eq_some_iff.mp a).1]; exact a, b⟩
    by_cases c : i = j
    · subst c
      rw [plc_set_self (by rw [wi.1]; exact hj)] at x1
      rcases Int.lt_or_le x (gn one two i (plc m i)) with lt | le
      · exact old lt
      · exact ⟨ts.length, _, by rw [List.getElem?_append_right (Nat.le_refl _), Nat.sub_self]; rfl, rfl, le, x1⟩
    · rw [plc_set_ne c] at x1
      exact old x1
/-- who passes a stop comes behind the one that was waited for -/
theorem G3.order {ts : List (Nat × Int × Int)} {m : List Int} (g : G3 one two nds ts m) (ok : ∀ n ∈ nds, n.Ok one two) : ∀ n ∈ nds, ∀ (k : Nat) (t : Nat × Int × Int), ts[k]? = some t → t.1 = n.i → gn one two n.i n.s < gn one two n.i t.2.2 → ∃ (k' : Nat) (t' : Nat × Int × Int), k' < k ∧ ts[k']? = some t' ∧ t'.1 = n.j ∧ gn one two n.j t'.2.1 ≤ gn one two n.j n.p - 1 ∧ gn one two n.j n.p - 1 < gn one two n.j t'.2.2 := by
  induction g with
  | nil =>
    intro n _ k t h
    simp at h
  | snoc g sf wi li h0 h1 ih =>
    rename_i m ts i e
    intro n hn k t hk ti lt
    rcases Nat.lt_or_ge k ts.length with c | c
    · rw [List.getElem?_append_left c] at hk
      obtain ⟨k', t', a, b, r⟩ := ih n hn k t hk ti lt
      exact ⟨k', t', a, by rw [List.getElem?_append_left (by omega)]; exact b, r⟩
    · have c' : k = ts.length := by
        have := (List.getElem?_eq_some_iff.mp hk).1
        rw [List.length_append, List.length_singleton] at this
        omega
      subst c'
      rw [List.getElem?_append_right (Nat.le_refl _), Nat.sub_self] at hk
      cases hk
      have ti' : i = n.i := ti
      subst ti'
      have lt' : gn one two n.i n.s < gn one two n.i e := lt
      have mt : met one two n m = true := by
        cases cm : met one two n m with
        | true => rfl
        | false =>
          have := (endF_spec (one := one) (other := two) nds m n.i).2.2 n hn rfl cm
          omega
      unfold met at mt
      rw [decide_eq_true_eq] at mt
      have o := ok n hn
      obtain ⟨k', t', a, b, r⟩ := g.cover n.j (gn one two n.j n.p - 1) o.lj (by have := o.p0; omega) (by omega)
      have lk := (List.getElem?_eq_some_iff.mp a).1
      exact ⟨k', t', lk, by rw [List.getElem?_append_left lk]; exact a, b, r⟩
theorem G3.rng {ts : List (Nat × Int × Int)} {m : List Int} (g : G3 one two nds ts m) : ∀ t ∈ ts, t.1 < one.length ∧ 0 ≤ gn one two t.1 t.2.1 ∧ gn one two t.1 t.2.1 < gn one two t.1 t.2.2 ∧ gn one two t.1 t.2.2 ≤ tot one two t.1 := by
  induction g with
  | nil => exact fun _ h => absurd h List.not_mem_nil
  | snoc g sf wi li h0 h1 ih =>
    rename_i m ts i e
    intro t ht
    rcases List.mem_append.mp ht with z | z
    · exact ih t z
    · rw [List.mem_singleton.mp z]
      exact ⟨li, (wi.2 i li).1, h0, Int.le_trans h1 (endF_spec (one := one) (other := two) nds m i).2.1⟩
/-- where none can go on, all are there -/
theorem CutsOf.free {tops : List Int} {rs : List Rl} {hs : List (List Int)} {here : List Int} (C : CutsOf one two rs hs) (lo : one.length = tops.length) (lo' : two.length = tops.length) (rok : ∀ q ∈ rs, RuleOk tops q) (N : NdsOf one two rs nds) (lh : here.length = one.length) (st : ∀ i, i < one.length → endF one two nds here i = plc here i) : here = two := by
  have held : ∀ i, i < one.length → plc here i ≠ plc two i → ∃ n ∈ nds, n.i = i ∧ n.s = plc here i ∧ met one two n here = false := fun i hi ne => held_at (st i hi) ne
  have go : ∀ t : Nat, ∀ n ∈ nds, met one two n here = false → ∀ ht : t < hs.length, gn one two n.j n.p ≤ gn one two n.j (plc hs[t] n.j) → False := by
    intro t
    induction t using Nat.strongRecOn with
    | _ t ih =>
      intro n hn hm ht b
      obtain ⟨lj, ne⟩ := held_on N.ok hn hm
      obtain ⟨m, hmm, ei, es, um⟩ := held n.j lj ne
      obtain ⟨g, hg, a', b'⟩ := C.need lo lo' rok N hmm
      obtain ⟨u, hu, rfl⟩ := List.getElem_of_mem hg
      rcases Nat.lt_or_ge u t with c | c
      · exact ih u c m hmm um hu b'
      · have le : gn one two n.j (plc hs[t] n.j) ≤ gn one two n.j (plc hs[u] n.j) := by
          rcases Nat.lt_or_eq_of_le c with z | z
          · exact List.pairwise_iff_getElem.mp C.up t u ht hu z n.j lj
          · subst z
            exact Int.le_refl _
        unfold met at hm
        rw [decide_eq_false_iff_not] at hm
        rw [ei, es] at a'
        omega
  refine std_ext (by omega) fun i hi => ?_
  by_cases ne : plc here i = plc two i
  · exact ne
  · exfalso
    obtain ⟨n, hn, _, _, um⟩ := held i (by omega) ne
    obtain ⟨h, hh, _, b⟩ := C.need lo lo' rok N hn
    obtain ⟨t, ht, rfl⟩ := List.getElem_of_mem hh
    exact go t n hn um ht b
/-- what is still ahead -/
def ahd (one two : List Int) (nds : List ND) (here : List Int) : Nat := ((List.range one.length).filter fun i => decide (plc here i ≠ plc two i)).length + (nds.filter fun n => decide (gn one two n.i (plc here n.i) < gn one two n.i n.s)).length
theorem ahd_most (here : List Int) : ahd one two nds here ≤ one.length + nds.length := by
  unfold ahd
  have a := List.length_filter_le (fun i => decide (plc here i ≠ plc two i)) (List.range one.length)
  have b := List.length_filter_le (fun n => decide (gn one two n.i (plc here n.i) < gn one two n.i n.s)) nds
  rw [List.length_range] at a
  omega
theorem ahd_le {here : List Int} {i : Nat} {e : Int} (wi : Within one two here) (hi : i < one.length) (h0 : gn one two i (plc here i) < gn one two i e) (h1 : gn one two i e ≤ tot one two i) :
    (∀ x ∈ List.range one.length, decide (plc (here.set i e) x ≠ plc two x) = true → decide (plc here x ≠ plc two x) = true) ∧ ∀ n ∈ nds, decide (gn one two n.i (plc (here.set i e) n.i) < gn one two n.i n.s) = true → decide (gn one two n.i (plc here n.i) < gn one two n.i n.s) = true := by
  have hl : i < here.length := by rw [wi.1]; exact hi
  refine ⟨fun x _ h => ?_, fun n _ h => ?_⟩
  · rw [decide_eq_true_eq] at h ⊢
    by_cases c : i = x
    · subst c
      intro z
      rw [z] at h0
      have : gn one two i (plc two i) = tot one two i := rfl
      omega
    · rwa [plc_set_ne c] at h
  · rw [decide_eq_true_eq] at h ⊢
    by_cases c : i = n.i
    · subst c
      rw [plc_set_self hl] at h
      omega
    · rwa [plc_set_ne c] at h
theorem ahd_on {here : List Int} {i : Nat} {e : Int} (wi : Within one two here) (hi : i < one.length) (h0 : gn one two i (plc here i) < gn one two i e) (h1 : gn one two i e ≤ tot one two i) : ahd one two nds (here.set i e) ≤ ahd one two nds here := by
  obtain ⟨a, b⟩ := ahd_le (nds := nds) wi hi h0 h1
  have := filter_le a
  have := filter_le b
  unfold ahd
  omega
theorem ahd_full {here : List Int} {i : Nat} (wi : Within one two here) (hi : i < one.length) (h0 : gn one two i (plc here i) < gn one two i (endF one two nds here i)) : ahd one two nds (here.set i (endF one two nds here i)) < ahd one two nds here := by
  have hl : i < here.length := by rw [wi.1]; exact hi
  obtain ⟨a, b⟩ := ahd_le (nds := nds) wi hi h0 (endF_spec (one := one) (other := two) nds here i).2.1
  have a' := filter_le a
  have b' := filter_le b
  unfold ahd
  rcases (endF_spec (one := one) (other := two) nds here i).1 with e | ⟨n, hn, hni, _, e⟩
  · have := filter_lt a ⟨i, List.mem_range.mpr hi, by rw [plc_set_self hl, e]; simp, by
      rw [decide_eq_true_eq]
      intro z
      rw [e, z] at h0
      omega⟩
    omega
  · have := filter_lt b ⟨n, hn, by
      subst hni
      rw [plc_set_self hl, e]
      simp, by
      subst hni
      rw [decide_eq_true_eq, ← e]
      exact h0⟩
    omega
theorem NdsOf.few12 {rs : List Rl} (N : NdsOf one two rs nds) : nds.length ≤ rs.length := by
  have h := ndl (l := nds.map ND.toL) (m := (cands one two rs).filterMap id) N.is.nd fun x hx => List.mem_filterMap.mpr ⟨some x, (N.is.mem x).mp hx, rfl⟩
  rw [List.length_map] at h
  exact Nat.le_trans h (cands_few one two rs)
end
section
variable {one two : List Int}
/-- the law's look for the row of a step -/
def inRow (i : Nat) (a b : Int) (t : Nat × Int × Int) : Bool := decide (t.1 = i) && (decide (min t.2.1 t.2.2 ≤ min a b) && decide (max a b ≤ max t.2.1 t.2.2))
theorem inRow_iff {i : Nat} {a b : Int} {t : Nat × Int × Int} (ht : gn one two i t.2.1 < gn one two i t.2.2) (hab : gn one two i b = gn one two i a + 1 ∨ gn one two i b = gn one two i a - 1) : inRow i a b t = true ↔ t.1 = i ∧ gn one two i t.2.1 ≤ min (gn one two i a) (gn one two i b) ∧ max (gn one two i a) (gn one two i b) ≤ gn one two i t.2.2 := by
  unfold inRow
  rw [Bool.and_eq_true, Bool.and_eq_true, decide_eq_true_eq, decide_eq_true_eq, decide_eq_true_eq]
  refine and_congr_right fun _ => ?_
  unfold gn gone at *
  split at ht <;> simp_all <;> omega
def rowOf (ts : List (Nat × Int × Int)) (i : Nat) (a b : Int) : Int := match ts.findIdx? (inRow i a b) with
  | some k => k
  | none => -1
/-- told one behind another, gone one behind another -/
theorem row_order {nds : List ND} {ts : List (Nat × Int × Int)} (g : G3 one two nds ts two) (lo : two.length = one.length) (ok : ∀ n ∈ nds, n.Ok one two) {z y : Nat × Int × Int} (sz : Str3 one two z.1 z.2.1 z.2.2) (sy : Str3 one two y.1 y.2.1 y.2.2) (h : (⟨y.1, y.2.1, z.1, z.2.2⟩ : ND) ∈ nds) :
    0 ≤ rowOf ts z.1 z.2.2 (z.2.2 + (if z.2.1 > z.2.2 then 1 else -1)) ∧ rowOf ts z.1 z.2.2 (z.2.2 + (if z.2.1 > z.2.2 then 1 else -1)) < rowOf ts y.1 y.2.1 (y.2.1 + (if y.2.2 > y.2.1 then 1 else -1)) := by
  have ez : gn one two z.1 (z.2.2 + (if z.2.1 > z.2.2 then 1 else -1)) = gn one two z.1 z.2.2 - 1 := by
    have := sz.lt
    unfold gn gone at *
    split <;> split at this <;> omega
  have ey : gn one two y.1 (y.2.1 + (if y.2.2 > y.2.1 then 1 else -1)) = gn one two y.1 y.2.1 + 1 := by
    have := sy.lt
    unfold gn gone at *
    split <;> split at this <;> omega
  generalize z.2.2 + (if z.2.1 > z.2.2 then 1 else -1) = bz at ez ⊢
  generalize y.2.1 + (if y.2.2 > y.2.1 then 1 else -1) = by' at ey ⊢
  have rng := g.rng
  have fz := fun t (ht : t ∈ ts) (e : t.1 = z.1) => inRow_iff (one := one) (two := two) (i := z.1) (a := z.2.2) (b := bz) (t := t) (by have := (rng t ht).2.2.1; rwa [e] at this) (.inr ez)
  have fy := fun t (ht : t ∈ ts) (e : t.1 = y.1) => inRow_iff (one := one) (two := two) (i := y.1) (a := y.2.1) (b := by') (t := t) (by have := (rng t ht).2.2.1; rwa [e] at this) (.inl ey)
  have fst : ∀ {i : Nat} {a b : Int} {t : Nat × Int × Int}, inRow i a b t = true → t.1 = i := fun {i a b t} h => by
    unfold inRow at h
    rw [Bool.and_eq_true, decide_eq_true_eq] at h
    exact h.1
  -- the row that passes the stop
  have toty : gn one two y.1 (plc two y.1) = tot one two y.1 := rfl
  obtain ⟨k0, t0, a0, b0, c0, d0⟩ := g.cover y.1 (gn one two y.1 y.2.1) sy.li sy.b0 (by have := sy.lt; have := sy.le; omega)
  have in0 : inRow y.1 y.2.1 by' t0 = true := (fy t0 (List.mem_of_getElem? a0) b0).mpr ⟨b0, by omega, by omega⟩
  unfold rowOf
  cases ey' : ts.findIdx? (inRow y.1 y.2.1 by') with
  | none =>
    have := List.findIdx?_eq_none_iff.mp ey' t0 (List.mem_of_getElem? a0)
    rw [in0] at this
    cases this
  | some k2 =>
    obtain ⟨l2, p2, _⟩ := List.findIdx?_eq_some_iff_getElem.mp ey'
    have m2 : ts[k2] ∈ ts := List.getElem_mem l2
    obtain ⟨q1, q2, q3⟩ := (fy _ m2 (fst p2)).mp p2
    obtain ⟨k', t', lt', a', b', c', d'⟩ := g.order ok _ h k2 ts[k2] (List.getElem?_eq_getElem l2) q1 (show gn one two y.1 y.2.1 < gn one two y.1 ts[k2].2.2 by omega)
    have b'' : t'.1 = z.1 := b'
    have c'' : gn one two z.1 t'.2.1 ≤ gn one two z.1 z.2.2 - 1 := c'
    have d'' : gn one two z.1 z.2.2 - 1 < gn one two z.1 t'.2.2 := d'
    have in1 : inRow z.1 z.2.2 bz t' = true := (fz t' (List.mem_of_getElem? a') b'').mpr ⟨b'', by omega, by omega⟩
    cases ez' : ts.findIdx? (inRow z.1 z.2.2 bz) with
    | none =>
      have := List.findIdx?_eq_none_iff.mp ez' t' (List.mem_of_getElem? a')
      rw [in1] at this
      cases this
    | some k1 =>
      obtain ⟨l1, p1, n1⟩ := List.findIdx?_eq_some_iff_getElem.mp ez'
      have : ¬ k' < k1 := fun lt => by
        have := n1 k' lt
        obtain ⟨lk, ek⟩ := List.getElem?_eq_some_iff.mp a'
        rw [ek] at this
        exact this in1
      refine ⟨?_, ?_⟩
      · show (0 : Int) ≤ (k1 : Nat)
        omega
      · show ((k1 : Nat) : Int) < (k2 : Nat)
        omega
end
end K49

set_option Elab.async false
set_option linter.all false
set_option maxRecDepth 100000
namespace K49
open PySem PySem.Spec PyProof.Rows L2 NB

/-! ### how far a thing may go -/
theorem sgn_gn {one two : List Int} {i : Nat} {p q : Int} (ne : two.getD i 0 ≠ one.getD i 0) : (p - q) * (if two.getD i 0 > one.getD i 0 then 1 else -1) = gn one two i p - gn one two i q := by
  unfold gn gone
  split <;> split <;> omega
theorem sgn_gn' {one two : List Int} {i : Nat} {p q : Int} : (two.getD i 0 = one.getD i 0 → p = q) → (p - q) * (if two.getD i 0 > one.getD i 0 then 1 else -1) = gn one two i p - gn one two i q := fun h => by
  unfold gn gone
  split <;> split <;> omega
theorem tot_ne {one two : List Int} {i : Nat} (h : 0 < tot one two i) : two.getD i 0 ≠ one.getD i 0 := fun e => by
  rw [tot_eq, e] at h
  omega
section
variable {P : Program} {w : World} {K : PySem.W.Frag} {mg : Str → Option Value} {base : Heap}
def spRe : Sp := fun vs H Q _ => ∃ (p o1 o2 D : Addr) (one two here : List Int) (nds : List ND) (i : Nat), vs = [.ref p, .ref o1, .ref o2, .ref D, .int (i : Int)] ∧ AskedAt H p nds ∧ H o1 = some (.tup (one.map V.int)) ∧ H o2 = some (.tup (two.map V.int)) ∧ H D = some (.lst (here.map V.int)) ∧ (∀ n ∈ nds, n.Ok one two) ∧ two.length = one.length ∧ i < one.length ∧ Within one two here ∧ Safe one two nds here ∧
  Q (.int (gn one two i (endF one two nds here i) - gn one two i (plc here i))) H
abbrev a__law_reach : Stmt := topS 66
abbrev n__law_reach : List Str := ["_law_due", "_law_one", "_law_two", "_law_here", "_law_thing", "_law_span", "_law_mover", "_law_stop", "_law_waited", "_law_place", "_law_on", "_law_left"]
theorem sc__law_reach : FnScope n__law_reach ["_law_due", "_law_one", "_law_two", "_law_here", "_law_thing"] (defScope a__law_reach) := ⟨rfl, rfl, rfl, by decide +kernel, rfl, by decide +kernel, by decide +kernel⟩
set_option maxHeartbeats 8000000 in
theorem ok__law_reach {f  : Addr} {fd  : FuncData} {k : Nat}  (F : Fun K "_law_reach" "_law_reach" a__law_reach f fd)   (m_abs : mg "abs" = none) (m_min : mg "min" = none) : FnOk P w K mg base CX0 (k + 2) f fd ["_law_due", "_law_one", "_law_two", "_law_here", "_law_thing"] spRe := by
  refine F.ok sc__law_reach (fun vs H Q E h => ?_) (fun cdv A outer s H vs Q E hr h => ?_)
  · obtain ⟨p, o1, o2, D, one, two, here, nds, i, rfl, _⟩ := h
    rfl
  · obtain ⟨p, o1, o2, D, one, two, here, nds, i, rfl, hA, e1, e2, eD, ok, lo, li, wi, sf, q⟩ := h
    refine ⟨_, (pss_cons (ps_set (i := 5) sc__law_reach.nd rfl (.inl rfl) (pe_callB call_abs (by rfl) m_abs (by decide +kernel) (pa_cons (pe_op op_sub (pe_ix ix_tup (pv 2) (pv 4) (fun _ _ => rfl)) (pe_ix ix_list (pv 3) (pv 4) (fun _ _ => rfl))) pa_nil)))
      (pss_cons (ps_for PassesOwn.never rfl (pi_tup (pv 0)) (pg_tup rfl (pgs_cons (pg_name (i := 6) sc__law_reach.nd rfl (.inl rfl)) (pgs_cons (pg_name (i := 7) sc__law_reach.nd rfl (.inl rfl)) (pgs_cons (pg_name (i := 8) sc__law_reach.nd rfl (.inl rfl)) (pgs_cons (pg_name (i := 9) sc__law_reach.nd rfl (.inl rfl)) pgs_nil)))))
        (pss_cons (ps_set (i := 10) sc__law_reach.nd rfl (.inl rfl) (pe_ifExp (pt_cmpR op_gt (pe_ix ix_tup (pv 2) (pv 8) (fun _ _ => rfl)) (pe_ix ix_tup (pv 1) (pv 8) (fun _ _ => rfl)) (nomark _)) pe_int (pe_un un_neg pe_int)))
      (pss_one (ps_if (PW.pt (pw_and (pt_cmpR op_eq (pv 6) (pv 4) (nomark _)) (pw_and1 (pt_cmpR op_lt (pe_op op_mul (pe_op op_sub (pe_ix ix_list (pv 3) (pv 8) (fun _ _ => rfl)) (pv 9)) (pv 10)) pe_int (nomark _))))) (pss_cons (ps_set (i := 11) sc__law_reach.nd rfl (.inl rfl) (pe_op op_mul (pe_op op_sub (pv 7) (pe_ix ix_list (pv 3) (pv 4) (fun _ _ => rfl))) (pe_ifExp (pt_cmpR op_gt (pe_ix ix_tup (pv 2) (pv 4) (fun _ _ => rfl)) (pe_ix ix_tup (pv 1) (pv 4) (fun _ _ => rfl)) (nomark _)) pe_int (pe_un un_neg pe_int))))
      (pss_one (ps_set (i := 5) sc__law_reach.nd rfl (.inl rfl) (pe_ifExp (pt_cmpR op_ge (pv 11) pe_int (nomark _)) (pe_callB (call_min2 rfl) (by rfl) m_min (by decide +kernel) (pa_cons (pv 5) (pa_cons (pv 11) pa_nil))) (pv 5))))) pss_nil))))
      (pss_one (ps_ret (pv 5))))), ?_⟩
    obtain ⟨as, ep, la, fa⟩ := hA
    have lh : here.length = one.length := wi.1
    have ixo : ∀ {j : Nat}, j < one.length → atI (one.map V.int) (j : Int) = some (.int (one.getD j 0)) := fun {j} hj => by
      rw [List.getD_eq_getElem?_getD, List.getElem?_eq_getElem hj]
      exact at_int hj
    have ixt : ∀ {j : Nat}, j < one.length → atI (two.map V.int) (j : Int) = some (.int (two.getD j 0)) := fun {j} hj => by
      have hj' : j < two.length := by omega
      rw [List.getD_eq_getElem?_getD, List.getElem?_eq_getElem hj']
      exact at_int hj'
    have ixh : ∀ {j : Nat}, j < one.length → atI (here.map V.int) (j : Int) = some (.int (plc here j)) := fun {j} hj => by
      rw [plc_get (by omega)]
      exact at_int (by omega)
    have fd := far_gn (one := one) (two := two) (i := i) (wi.2 i li).1 (wi.2 i li).2
    have eab : (if two.getD i 0 - plc here i < 0 then -(two.getD i 0 - plc here i) else two.getD i 0 - plc here i) = gn one two i (plc two i) - gn one two i (plc here i) := by
      show _ = tot one two i - gn one two i (plc here i)
      rw [← fd]
      split <;> omega
    refine ⟨_, rfl, _, rfl, o2, _, _, _, rfl, rfl, .inl (.inl e2), ixt li, _, rfl, _, rfl, D, _, _, _, rfl, rfl, .inl (.inl eD), ixh li, _, _, rfl, rfl, _, rfl, ?_⟩
    rw [eab]
    dsimp only [List.set]
    refine ⟨_, rfl, p, rfl, ⟨_, .inl (.inl ep)⟩, for_it (walk_tup (xs := as.map V.ref)) (fun k σ H' => (∃ u6 u7 u8 u9 u10 u11, σ = [some (.ref p), some (.ref o1), some (.ref o2), some (.ref D), some (.int (i : Int)), some (.int (gn one two i ((nds.take k).foldl (endS one two here i) (plc two i)) - gn one two i (plc here i))), u6, u7, u8, u9, u10, u11]) ∧ H' = H)
      ⟨⟨_, _, _, _, _, _, rfl⟩, rfl⟩ (fun k σ H' _ z => by rw [z.2]; exact .inl (.inl ep)) (fun k v σ H1 H2 hk z y => ?_) (fun σ H1 z => ?_)⟩
    rotate_left
    · obtain ⟨⟨u6, u7, u8, u9, u10, u11, rfl⟩, rfl⟩ := z
      rw [List.length_map, List.take_of_length_le (by omega)]
      exact ⟨_, rfl, q⟩
    obtain ⟨⟨u6, u7, u8, u9, u10, u11, rfl⟩, rfl⟩ := z
    obtain ⟨rfl, gv⟩ := y
    obtain ⟨r, er, rfl⟩ := mapGet gv
    have hk' : k < as.length := by simpa using hk
    have hn : k < nds.length := by omega
    have en : nds[k]? = some nds[k] := List.getElem?_eq_getElem hn
    have rn := fa k r _ er en
    have okn := ok _ (List.getElem_mem hn)
    have sfn := sf _ (List.getElem_mem hn)
    have rn' : H2 r = some (.tup [.int (nds[k].i : Int), .int nds[k].s, .int (nds[k].j : Int), .int nds[k].p]) := rn
    have tk : (nds.take (k + 1)).foldl (endS one two here i) (plc two i) = endS one two here i ((nds.take k).foldl (endS one two here i) (plc two i)) nds[k] := by
      rw [List.take_add_one, en, List.foldl_append]
      rfl
    rw [tk]
    generalize (nds.take k).foldl (endS one two here i) (plc two i) = e0
    generalize nds[k] = n at rn rn' okn sfn
    have nej := tot_ne (one := one) (two := two) (i := n.j) (by have := okn.p0; have := okn.p1; omega)
    have ons : ∀ {j : Nat}, (-(2 ^ 64) < (if two.getD j 0 > one.getD j 0 then 1 else -1 : Int) ∧ (if two.getD j 0 > one.getD j 0 then 1 else -1 : Int) < 2 ^ 64) := fun {j} => by
      split <;> decide
    refine ⟨r, _, rfl, .inl (.inl rn'), rfl, _, _, rfl, _, _, rfl, _, _, rfl, _, _, rfl, rfl, ?_⟩
    dsimp only [List.set]
    refine ⟨_, rfl, _, rfl, o2, _, _, _, rfl, rfl, .inl (.inl e2), ixt okn.lj, _, rfl, _, rfl, o1, _, _, _, rfl, rfl, .inl (.inl e1), ixo okn.lj, _, _, rfl, rfl, _, rfl, tif_join (v := .int (if two.getD n.j 0 > one.getD n.j 0 then 1 else -1)) (fun e Q q => by rw [if_pos (of_decide_eq_true e)] at q; exact q) (fun e Q q => ⟨1, rfl, by rw [if_neg (fun z => e (decide_eq_true z))] at q; exact q⟩) ?_⟩
    dsimp only [List.set]
    refine ⟨_, rfl, _, rfl, rfl, _, rfl, ite2 (fun c => ?_) (fun c => ?_)⟩
    rotate_left
    · rw [show endS one two here i e0 n = e0 from if_neg (fun z => c (decide_eq_true (by rw [z.1])))]
      exact ⟨⟨_, _, _, _, _, _, rfl⟩, rfl⟩
    have ci : n.i = i := by
      have := of_decide_eq_true c
      injection this with h
      exact Int.ofNat.inj h
    subst ci
    refine ⟨_, rfl, _, rfl, D, _, _, _, rfl, rfl, .inl (.inl eD), ixh okn.lj, _, rfl, _, _, rfl, rfl, _, rfl, _, _, rfl, rfl, .inr ons, _, _, rfl, rfl, _, rfl, ?_⟩
    rw [sgn_gn nej]
    have um : decide (gn one two n.j (plc here n.j) - gn one two n.j n.p < 0) = !met one two n here := by
      unfold met
      by_cases c : gn one two n.j n.p ≤ gn one two n.j (plc here n.j)
      · rw [decide_eq_true c, decide_eq_false (by omega)]
        rfl
      · rw [decide_eq_false c, decide_eq_true (by omega)]
        rfl
    rw [um]
    refine ite2 (fun c2 => ?_) (fun c2 => ?_)
    rotate_left
    · rw [show endS one two here n.i e0 n = e0 from if_neg (fun z => c2 (by rw [z.2.1]; rfl))]
      exact ⟨⟨_, _, _, _, _, _, rfl⟩, rfl⟩
    have cm : met one two n here = false := (Bool.not_eq_true' _).mp c2
    have nei := tot_ne (one := one) (two := two) (i := n.i) (by have := okn.s0; have := okn.s1; omega)
    have left0 : gn one two n.i (plc here n.i) ≤ gn one two n.i n.s := by
      rcases sfn with h | h
      · exact h
      · rw [cm] at h
        cases h
    refine ⟨_, rfl, _, rfl, _, rfl, D, _, _, _, rfl, rfl, .inl (.inl eD), ixh li, _, _, rfl, rfl, _, rfl, _, rfl, o2, _, _, _, rfl, rfl, .inl (.inl e2), ixt li, _, rfl, _, rfl, o1, _, _, _, rfl, rfl, .inl (.inl e1), ixo li, _, _, rfl, rfl, _, rfl, tif_join (v := .int (if two.getD n.i 0 > one.getD n.i 0 then 1 else -1)) (fun e Q q => by rw [if_pos (of_decide_eq_true e)] at q; exact q) (fun e Q q => ⟨1, rfl, by rw [if_neg (fun z => e (decide_eq_true z))] at q; exact q⟩) ?_⟩
    refine ⟨_, _, rfl, rfl, .inr ons, ?_⟩
    dsimp only [List.set]
    rw [sgn_gn nei]
    refine ⟨_, rfl, _, _, rfl, rfl, _, rfl, iteTv (decide_eq_true (by omega)) ?_⟩
    refine ⟨_, rfl, _, rfl, _, _, rfl, ?_⟩
    dsimp only [List.set]
    have fin : (if gn one two n.i n.s - gn one two n.i (plc here n.i) < gn one two n.i e0 - gn one two n.i (plc here n.i) then gn one two n.i n.s - gn one two n.i (plc here n.i) else gn one two n.i e0 - gn one two n.i (plc here n.i)) = gn one two n.i (endS one two here n.i e0 n) - gn one two n.i (plc here n.i) := by
      unfold endS
      by_cases c3 : gn one two n.i n.s < gn one two n.i e0
      · rw [if_pos (by omega), if_pos ⟨rfl, cm, c3⟩]
      · rw [if_neg (by omega), if_neg (fun z => c3 z.2.2)]
    rw [fin]
    exact ⟨⟨_, _, _, _, _, _, rfl⟩, rfl⟩
end
end K49

set_option Elab.async false
set_option linter.all false
set_option maxRecDepth 100000
namespace K49
open PySem PySem.Spec PyProof.Rows L2 NB

/-! ### a way drawn -/
theorem RnL.snoc {H H' : Hp} {as : List Addr} {rs : List (List Int)} {T : Addr} {r : List Int} (h : RnL H as rs) (k : Keep H H') (e : H' T = some (.tup (r.map V.int))) : RnL H' (as ++ [T]) (rs ++ [r]) := (h.keep k).app (RnL.single e)
section
variable {P : Program} {w : World} {K : PySem.W.Frag} {mg : Str → Option Value} {base : Heap}
def Stuck (one two : List Int) (nds : List ND) (here : List Int) : Prop := ∀ i, i < one.length → endF one two nds here i = plc here i
def spDw (K : PySem.W.Frag) : Sp := fun vs H Q _ => ∃ (a p o1 o2 : Addr) (tops one two : List Int) (rs : List Rl) (hs : List (List Int)) (nds : List ND) (c : Nat), vs = [.ref a, .ref p, .ref o1, .ref o2] ∧ PotAt H a c ∧ c < 600000 ∧ AskedAt H p nds ∧ H o1 = some (.tup (one.map V.int)) ∧ H o2 = some (.tup (two.map V.int)) ∧ tops.length ≤ 12 ∧ one.length = tops.length ∧ two.length = tops.length ∧ Pl one ∧ Pl two ∧ (∀ q ∈ rs, RuleOk tops q) ∧ rs.length ≤ 12 ∧ CutsOf one two rs hs ∧ NdsOf one two rs nds ∧
  ∀ H' D as ts, But a H H' → PotAt H' a (c + 300) → H' D = some (.lst (as.map V.ref)) → RnL H' as (ts.map rw3) → ts.length ≤ 100 → G3 one two nds ts two → Q (.ref D) H'
abbrev a__law_drawn_way : Stmt := topS 67
abbrev n__law_drawn_way : List Str := ["_law_pot_here", "_law_due", "_law_one", "_law_two", "_law_here", "_law_found", "_law_turn", "_law_thing", "_law_free", "_law_span", "_law_there"]
theorem sc__law_drawn_way : FnScope n__law_drawn_way ["_law_pot_here", "_law_due", "_law_one", "_law_two"] (defScope a__law_drawn_way) := ⟨rfl, rfl, rfl, by decide +kernel, rfl, by decide +kernel, by decide +kernel⟩
set_option maxHeartbeats 8000000 in
theorem ok__law_drawn_way {f fTk fLo fRe : Addr} {fd fdTk fdLo fdRe : FuncData} {k : Nat}  (F : Fun K "_law_drawn_way" "_law_drawn_way" a__law_drawn_way f fd) (Tk : Kn P w K mg base 1 "_law_take" ["_law_pot_here", "_law_many"] spTake fTk fdTk) (Lo : Kn P w K mg base 2 "_law_of" ["_law_pot_here", "_law_some"] (spOf K) fLo fdLo) (Re : Kn P w K mg base 2 "_law_reach" ["_law_due", "_law_one", "_law_two", "_law_here", "_law_thing"] spRe fRe fdRe)  (m_len : mg "len" = none) (m_list : mg "list" = none) (m_range : mg "range" = none) : FnOk P w K mg base CX0 (k + 4) f fd ["_law_pot_here", "_law_due", "_law_one", "_law_two"] (spDw K) := by
  refine F.ok sc__law_drawn_way (fun vs H Q E h => ?_) (fun cdv A outer s H vs Q E hr h => ?_)
  · obtain ⟨a, p, o1, o2, tops, one, two, rs, hs, nds, c, rfl, _⟩ := h
    rfl
  · obtain ⟨a, p, o1, o2, tops, one, two, rs, hs, nds, c, rfl, pa, hc, hA, e1, e2, l12, lo1, lo2, p1, p2, rok, lr, C, N, q⟩ := h
    refine ⟨_, (pss_cons (ps_asg (pe_tup (pa_cons (pe_callTy call_list_of (by rfl) m_list (by decide +kernel) (pa_cons (pv 2) pa_nil)) (pa_cons (pe_lst pa_nil) pa_nil))) (pg_tup rfl (pgs_cons (pg_name (i := 4) sc__law_drawn_way.nd rfl (.inr rfl)) (pgs_cons (pg_name (i := 5) sc__law_drawn_way.nd rfl (.inl rfl)) pgs_nil))))
      (pss_cons (ps_for PassesOwn.never rfl (pi_range1 (by rfl) m_range (pa_cons pe_int pa_nil)) (pg_name (i := 6) sc__law_drawn_way.nd rfl (.inl rfl))
        (pss_cons (ps_setLc (i := 8) (own := [("_law_thing", 7)]) (g := (gName 7)) (tt := (tTest (tOp (rI0 fun i j => .bl (decide (i > j))) (tCall spRe [] E0 (tCons (tVar 1) (tCons (tVar 2) (tCons (tVar 3) (tCons (tVar 4) (tCons (tVar 7) tNil)))))) (tC (.int 0))))) (te := (tVar 7)) rfl sc__law_drawn_way.nd rfl rfl (sw_true rfl rfl rfl (by decide +kernel)) (pi_range1 (by rfl) m_range (pa_cons (pe_callB call_len_seq (by rfl) m_len (by decide +kernel) (pa_cons (pv 2) pa_nil)) pa_nil)) (blkOk_by (N := n__law_drawn_way) (sc := defScope a__law_drawn_way) (by decide +kernel))
          (fun _ _ _ _ _ => (pg_name (i := 7) sc__law_drawn_way.nd rfl (.inl rfl) (hf := .inr rfl))) (fun _ _ _ _ _ => pts_one (pt_cmpR op_gt (pe_kn Re hr (by omega) (pa_cons (pv 1) (pa_cons (pv 2) (pa_cons (pv 3) (pa_cons (pv 4) (pa_cons (pv 7) pa_nil)))))) pe_int (nomark _))) (fun _ _ _ _ _ => (pv 7)))
      (pss_one (ps_if (pt_cmpR (op_neD hr.units) (pv 8) (pe_lst pa_nil) (nomark _)) (pss_cons (ps_set (i := 7) sc__law_drawn_way.nd rfl (.inl rfl) (pe_kn Lo hr (by omega) (pa_cons (pv 0) (pa_cons (pv 8) pa_nil))))
      (pss_cons (ps_set (i := 9) sc__law_drawn_way.nd rfl (.inl rfl) (pe_kn Re hr (by omega) (pa_cons (pv 1) (pa_cons (pv 2) (pa_cons (pv 3) (pa_cons (pv 4) (pa_cons (pv 7) pa_nil)))))))
      (C8.pss_cut (ps_if (PW.pt (pw_and (pt_cmpR op_lt (pv 6) pe_int (nomark _)) (pw_and1 (pt_cmpR op_eq (pe_kn Tk hr (by omega) (pa_cons (pv 0) (pa_cons pe_int pa_nil))) pe_int (nomark _))))) (pss_one (ps_set (i := 9) sc__law_drawn_way.nd rfl (.inl rfl) (pe_op op_add pe_int (pe_kn Tk hr (by omega) (pa_cons (pv 0) (pa_cons (pv 9) pa_nil)))))) pss_nil)
      (pss_cons (ps_set (i := 10) sc__law_drawn_way.nd rfl (.inl rfl) (pe_op op_add (pe_ix ix_list (pv 4) (pv 7) (fun _ _ => rfl)) (pe_ifExp (pt_cmpR op_gt (pe_ix ix_tup (pv 3) (pv 7) (fun _ _ => rfl)) (pe_ix ix_tup (pv 2) (pv 7) (fun _ _ => rfl)) (nomark _)) (pv 9) (pe_op op_sub pe_int (pv 9)))))
      (pss_cons (ps_expr (pe_bm PySem.F.plainAttrs_list PySem.F.slot_list_append PySem.F.type_list_append mt_append (pv 5) (pa_cons (pe_tup (pa_cons (pv 7) (pa_cons (pe_ix ix_list (pv 4) (pv 7) (fun _ _ => rfl)) (pa_cons (pv 10) pa_nil)))) pa_nil)))
      (pss_one (ps_asg (pv 10) (pg_sub (pv 4) (pv 7) set_list)))))))) pss_nil))))
      (pss_one (ps_ret (pv 5))))), ?_⟩
    have l21 : two.length = one.length := by omega
    have ok := N.ok
    have nf := N.few12
    refine ⟨_, rfl, o1, _, rfl, .inr (.inl (.inl e1)), fun Dh nDh => ?_⟩
    have s1 := same_new (o := HO.lst (one.map V.int)) nDh
    refine ⟨Nat.zero_le _, fun F nF => ⟨(show 2 ≤ sizeLine by decide), fun T nT => ⟨T, _, rfl, .inl (.inl upd_same), rfl, _, _, rfl, _, _, rfl, rfl, ?_⟩⟩⟩
    have s2 := s1.trans (same_new (o := HO.lst []) nF)
    have s3 := s2.trans (same_new (o := HO.tup [V.ref Dh, V.ref F]) nT)
    have eDh : (upd (upd (upd H Dh (.lst (one.map V.int))) F (.lst [])) T (.tup [.ref Dh, .ref F])) Dh = some (.lst (one.map V.int)) := (same_new nT) _ _ ((same_new nF) _ _ upd_same)
    have eF : (upd (upd (upd H Dh (.lst (one.map V.int))) F (.lst [])) T (.tup [.ref Dh, .ref F])) F = some (.lst []) := (same_new nT) _ _ upd_same
    have nDha : Dh ≠ a := pa.ne nDh
    have w3x : (3 : Nat) ≤ sizeLine := by decide
    have nF' : H F = none := s1.free nF
    have nFa : F ≠ a := (pa.keep s1).ne nF
    have nFD : F ≠ Dh := fun z => by
      rw [z, upd_same] at nF
      cases nF
    have nDhF : Dh ≠ F := fun z => nFD z.symm
    generalize (upd (upd (upd H Dh (.lst (one.map V.int))) F (.lst [])) T (.tup [.ref Dh, .ref F])) = H3 at s3 eDh eF ⊢
    dsimp only [List.set]
    have am : ∀ here, ahd one two nds here ≤ 24 := fun here => by
      have := ahd_most (one := one) (two := two) (nds := nds) here
      omega
    refine ⟨100, rfl, by decide, by decide, for_it walk_range (fun i σ H' => (∃ u6 u7 u8 u9 u10, σ = [some (.ref a), some (.ref p), some (.ref o1), some (.ref o2), some (.ref Dh), some (.ref F), u6, u7, u8, u9, u10]) ∧ But a H H' ∧ PotAt H' a (c + 3 * i) ∧ ∃ (here : List Int) (as : List Addr) (ts : List (Nat × Int × Int)), H' Dh = some (.lst (here.map V.int)) ∧ H' F = some (.lst (as.map V.ref)) ∧ RnL H' as (ts.map rw3) ∧ ts.length ≤ i ∧ G3 one two nds ts here ∧ Within one two here ∧ Safe one two nds here ∧ (ahd one two nds here + (i - 40) ≤ 36 ∨ Stuck one two nds here))
      ⟨⟨_, _, _, _, _, rfl⟩, But.of s3, pa.keep s3, one, [], [], eDh, eF, RnL.nil _, Nat.zero_le _, .nil, Within.first l21, Safe.first ok, .inl (by have := am one; omega)⟩ (fun _ _ _ _ _ => trivial) (fun i v σ H4 H5 hi y z => ?_) (fun σ H4 y => ?_)⟩
    rotate_left
    · obtain ⟨⟨u6, u7, u8, u9, u10, rfl⟩, b4, p4, here, as, ts, eD4, eF4, ra, lt, g, wi, sf, fin⟩ := y
      have st : Stuck one two nds here := fin.elim (fun h => absurd h (by show ¬ _ + (100 - 40) ≤ 36; omega)) id
      have eh : here = two := C.free lo1 lo2 rok N wi.1 st
      subst eh
      exact ⟨_, rfl, q _ F as ts b4 p4 eF4 ra lt g⟩
    obtain ⟨⟨u6, u7, u8, u9, u10, rfl⟩, b4, p4, here, as, ts, eD4, eF4, ra, lt, g, wi, sf, fin⟩ := y
    obtain ⟨rfl, rfl⟩ := z
    have i100 : i < 100 := hi
    have lh : here.length = one.length := wi.1
    have kp := Keep.but b4 pa
    have e1' := kp.tup e1
    have e2' := kp.tup e2
    have hA' := hA.keep kp
    dsimp only [List.set]
    have ixo : ∀ {j : Nat}, j < one.length → atI (one.map V.int) (j : Int) = some (.int (one.getD j 0)) := fun {j} hj => by
      rw [List.getD_eq_getElem?_getD, List.getElem?_eq_getElem hj]
      exact at_int hj
    have ixt : ∀ {j : Nat}, j < one.length → atI (two.map V.int) (j : Int) = some (.int (two.getD j 0)) := fun {j} hj => by
      have hj' : j < two.length := by omega
      rw [List.getD_eq_getElem?_getD, List.getElem?_eq_getElem hj']
      exact at_int hj'
    have ixh : ∀ {j : Nat}, j < one.length → atI (here.map V.int) (j : Int) = some (.int (plc here j)) := fun {j} hj => by
      rw [plc_get (by omega)]
      exact at_int (by omega)
    refine ⟨_, rfl, o1, _, rfl, .inr (.inl (.inl e1')), ?_⟩
    rw [List.length_map]
    refine ⟨_, rfl, by omega, by omega, fun D1 nD1 => ?_⟩
    rw [Int.toNat_natCast]
    have nD1a : D1 ≠ a := p4.ne nD1
    refine lc_it walk_range (fun j H' => Same H5 H' ∧ ∃ ks : List Nat, H' D1 = some (.lst ((ks.map fun (k : Nat) => (k : Int)).map V.int)) ∧ (∀ k ∈ ks, k < one.length ∧ gn one two k (plc here k) < gn one two k (endF one two nds here k)) ∧ (∀ k, k < j → k ∉ ks → endF one two nds here k = plc here k) ∧ ks.length ≤ j) ⟨same_new nD1, [], upd_same, (fun _ h => absurd h List.not_mem_nil), fun k h => absurd h (Nat.not_lt_zero _), Nat.le_refl _⟩ (fun _ _ _ _ => trivial) (fun j v H6 H7 hj y z => ?_) (fun H6 y => ?_)
    · obtain ⟨s6, ks, eD, hk, hks, lk⟩ := y
      obtain ⟨rfl, rfl⟩ := z
      refine ⟨wipe_one, ?_⟩
      simp only [Int.zero_add]
      refine ⟨_, rfl, _, rfl, _, rfl, _, rfl, _, rfl, p, o1, o2, Dh, one, two, here, nds, j, rfl, hA'.keep (.same s6), s6 _ _ e1', s6 _ _ e2', s6 _ _ eD4, ok, l21, hj, wi, sf, ?_⟩
      have on := end_on sf wi hj
      refine ⟨_, _, rfl, rfl, _, rfl, ?_⟩
      by_cases cc : endF one two nds here j = plc here j
      · refine iteFv (decide_eq_false (by rw [cc]; omega)) ⟨s6, ks, eD, hk, fun k hk1 hk2 => ?_, by omega⟩
        rcases Nat.lt_or_eq_of_le (Nat.le_of_lt_succ hk1) with z | z
        · exact hks k z hk2
        · rw [z]
          exact cc
      · have lt : gn one two j (plc here j) < gn one two j (endF one two nds here j) := by
          rcases Int.lt_or_eq_of_le on with h | h
          · exact h
          · exact absurd (gone_inj h).symm cc
        refine iteTv (decide_eq_true (by omega)) ⟨_, rfl, _, eD, ?_, same_over s6 nD1, ks ++ [j], by rw [upd_same, List.map_append, List.map_append]; rfl, fun k hk' => ?_, fun k hk1 hk2 => ?_, by rw [List.length_append, List.length_singleton]; omega⟩
        · rw [List.length_map, List.length_map]
          exact small1000 (by omega)
        · rcases List.mem_append.mp hk' with h | h
          · exact hk k h
          · rw [List.mem_singleton.mp h]
            exact ⟨hj, lt⟩
        · rw [List.mem_append, not_or, List.mem_singleton] at hk2
          exact hks k (by omega) hk2.1
    obtain ⟨s6, ks, eD6, hk, hks, lk⟩ := y
    have p6 := p4.keep s6
    have b6 := b4.trans (But.of s6)
    dsimp only [List.set]
    refine ⟨_, rfl, Nat.zero_le _, fun E nE => ?_⟩
    have sE := same_new (o := HO.lst []) nE
    refine ⟨_, _, .lst (.inl (.inl (sE _ _ eD6))) (dps _), .lst (.inl (.inl upd_same)) .nil, shaped_ints_l _, rfl, _, rfl, ?_⟩
    rw [eqv_nilL]
    have s67 := s6.trans sE
    have eD7 := sE _ _ eD6
    generalize (upd H6 E (.lst [])) = H7 at s67 eD7 ⊢
    have p7 := p4.keep s67
    have b7 := b4.trans (But.of s67)
    cases ks with
    | nil =>
      refine iteFv rfl ?_
      exact ⟨⟨_, _, _, _, _, rfl⟩, b7, p7.mono (by omega), here, as, ts, s67 _ _ eD4, s67 _ _ eF4, ra.same s67, by omega, g, wi, sf, .inr fun k hk => hks k hk List.not_mem_nil⟩
    | cons k0 ks =>
    refine iteTv rfl ?_
    have hA7 := hA'.keep (.same s67)
    have e2a := s67 _ _ e2'
    have e1a := s67 _ _ e1'
    have eDa := s67 _ _ eD4
    have eFa := s67 _ _ eF4
    refine ⟨_, rfl, _, rfl, a, D1, _, _, rfl, p7, nD1a, .inl (.inl (.inl eD7)), by simp, by rw [List.length_map, List.length_map]; omega, by omega, fun u H8 hu b8 p8 => ?_⟩
    obtain ⟨k1, hk1, rfl⟩ : ∃ k1, k1 ∈ (k0 :: ks) ∧ u = .int ((k1 : Nat) : Int) := by
      obtain ⟨n, hn, rfl⟩ := List.mem_map.mp hu
      obtain ⟨k1, hk1, rfl⟩ := List.mem_map.mp hn
      exact ⟨k1, hk1, rfl⟩
    obtain ⟨li, ltE⟩ := hk k1 hk1
    have k8 := Keep.but b8 p7
    have e2b := k8.tup e2a
    have e1b := k8.tup e1a
    have hA8 := hA7.keep k8
    have eDb := b8 _ _ nDha eDa
    have eFb := b8 _ _ nFa eFa
    have ra8 := (ra.same s67).keep k8
    have b08 := b7.trans b8
    dsimp only [List.set]
    refine ⟨_, rfl, _, rfl, _, rfl, _, rfl, _, rfl, p, o1, o2, Dh, one, two, here, nds, k1, rfl, hA8, e1b, e2b, eDb, ok, l21, li, wi, sf, ?_⟩
    dsimp only [List.set]
    have et := (endF_spec (one := one) (other := two) nds here k1).2.1
    have w0 := (wi.2 k1 li).1
    have tb : tot one two k1 < 10 ^ 30 := by
      have h1' := p1 _ (List.getElem_mem li)
      have hm2 : k1 < two.length := by omega
      have h2' := p2 _ (List.getElem_mem hm2)
      rw [tot_eq, List.getD_eq_getElem?_getD, List.getD_eq_getElem?_getD, List.getElem?_eq_getElem li, List.getElem?_eq_getElem hm2]
      simp only [Option.getD_some]
      omega
    refine ⟨fun σ H' => ∃ (sp : Int) (u10 : Option V), σ = [some (.ref a), some (.ref p), some (.ref o1), some (.ref o2), some (.ref Dh), some (.ref F), some (.int (0 + (i : Int))), some (.int (k1 : Int)), some (.ref D1), some (.int sp), u10] ∧ But a H8 H' ∧ PotAt H' a (c + 3 * i + 3) ∧ 1 ≤ sp ∧ sp ≤ gn one two k1 (endF one two nds here k1) - gn one two k1 (plc here k1) ∧ (40 ≤ i → sp = gn one two k1 (endF one two nds here k1) - gn one two k1 (plc here k1)), ?_, fun σ H9 y => ?_⟩
    · refine ⟨_, rfl, _, 40, rfl, rfl, _, rfl, ite2 (fun c1 => ?_) (fun c1 => ?_)⟩
      · have c40 := of_decide_eq_true c1
        refine ⟨_, rfl, a, 2, _, rfl, p8, by decide, by decide, by omega, fun d H9 b9 p9 d0 d1 => ⟨rfl, _, rfl, ite2 (fun c2 => ?_) (fun c2 => ?_)⟩⟩
        · refine ⟨_, rfl, _, rfl, a, _, _, rfl, p9, by omega, Int.lt_trans (show _ < 10 ^ 30 by omega) (by decide), by omega, fun d2 H10 b10 p10 d20 d21 => ⟨1, d2, rfl, rfl, ?_⟩⟩
          exact ⟨1 + d2, _, rfl, b9.trans b10, p10.mono (by omega), by omega, by omega, fun h => by omega⟩
        · exact ⟨_, _, rfl, b9, p9.mono (by omega), by omega, by omega, fun h => rfl⟩
      · exact ⟨_, _, rfl, fun x o _ h => h, p8.mono (by omega), by omega, by omega, fun h => rfl⟩
    obtain ⟨sp, u10', rfl, b9, p9, sp1, sp2, sp40⟩ := y
    have k9 := Keep.but b9 p8
    have e2c := k9.tup e2b
    have e1c := k9.tup e1b
    have eDc := b9 _ _ nDha eDb
    have eFc := b9 _ _ nFa eFb
    have ra9 := ra8.keep k9
    have b09 := b08.trans b9
    refine ⟨_, rfl, _, rfl, Dh, _, _, _, rfl, rfl, .inl (.inl eDc), ixh li, _, rfl, _, rfl, o2, _, _, _, rfl, rfl, .inl (.inl e2c), ixt li, _, rfl, _, rfl, o1, _, _, _, rfl, rfl, .inl (.inl e1c), ixo li, _, _, rfl, rfl, _, rfl, tif_join (v := .int (if two.getD k1 0 > one.getD k1 0 then sp else 0 - sp)) (fun e Q q => ⟨_, rfl, by rw [if_pos (of_decide_eq_true e)] at q; exact q⟩) (fun e Q q => ⟨_, rfl, 0, sp, rfl, rfl, by rw [if_neg (fun z => e (decide_eq_true z))] at q; exact q⟩) ?_⟩
    refine ⟨_, _, rfl, rfl, ?_⟩
    have gon := gn_on (one := one) (two := two) (i := k1) (p := plc here k1) (d := sp) (by omega) (by omega) (by omega)
    have full : 40 ≤ i → plc here k1 + (if two.getD k1 0 > one.getD k1 0 then sp else 0 - sp) = endF one two nds here k1 := fun h => gone_inj (one := one) (other := two) (i := k1) (by
      have := sp40 h
      show gn one two k1 _ = gn one two k1 _
      omega)
    dsimp only [List.set]
    generalize plc here k1 + (if two.getD k1 0 > one.getD k1 0 then sp else 0 - sp) = v1 at gon full ⊢
    refine ⟨_, rfl, .inl ⟨rfl, _, .inl (.inl eFc)⟩, _, rfl, _, rfl, _, rfl, Dh, _, _, _, rfl, rfl, .inl (.inl eDc), ixh li, _, rfl, w3x, fun Tq nTq => ⟨F, _, _, rfl, rfl, same_new nTq _ _ eFc, by rw [List.length_map]; exact small1000 (by have := ra.1; rw [List.length_map] at this; omega), ?_⟩⟩
    have sq := same_new (o := HO.tup [V.int (k1 : Int), V.int (plc here k1), V.int v1]) nTq
    have nTa : Tq ≠ a := p9.ne nTq
    have kq : Keep H9 (upd (upd H9 Tq (.tup [.int (k1 : Int), .int (plc here k1), .int v1])) F (.lst (as.map V.ref ++ [V.ref Tq]))) := (Keep.same sq).trans (.upd (sq _ _ eFc))
    have rq : RnL (upd (upd H9 Tq (.tup [.int (k1 : Int), .int (plc here k1), .int v1])) F (.lst (as.map V.ref ++ [V.ref Tq]))) (as ++ [Tq]) ((ts ++ [(k1, plc here k1, v1)]).map rw3) := by
      rw [List.map_append]
      exact ra9.snoc kq ((Keep.upd (sq _ _ eFc)).tup upd_same)
    have bq : But a H (upd (upd H9 Tq (.tup [.int (k1 : Int), .int (plc here k1), .int v1])) F (.lst (as.map V.ref ++ [V.ref Tq]))) := but_new (b09.trans (But.of sq)) nF'
    have pq : PotAt (upd (upd H9 Tq (.tup [.int (k1 : Int), .int (plc here k1), .int v1])) F (.lst (as.map V.ref ++ [V.ref Tq]))) a (c + 3 * i + 3) := pot_upd (p9.keep sq) nFa
    have eDq : (upd (upd H9 Tq (.tup [.int (k1 : Int), .int (plc here k1), .int v1])) F (.lst (as.map V.ref ++ [V.ref Tq]))) Dh = some (.lst (here.map V.int)) := by
      rw [upd_ne nDhF]
      exact sq _ _ eDc
    have eFq : (upd (upd H9 Tq (.tup [.int (k1 : Int), .int (plc here k1), .int v1])) F (.lst (as.map V.ref ++ [V.ref Tq]))) F = some (.lst ((as ++ [Tq]).map V.ref)) := by
      rw [upd_same, List.map_append]
      rfl
    generalize (upd (upd H9 Tq (.tup [.int (k1 : Int), .int (plc here k1), .int v1])) F (.lst (as.map V.ref ++ [V.ref Tq]))) = G at kq rq bq pq eDq eFq ⊢
    refine ⟨_, rfl, _, rfl, _, rfl, Dh, _, _, k1, rfl, rfl, eDq, ixN_nat (by rw [List.length_map, lh]; exact li), ?_⟩
    have g' : G3 one two nds (ts ++ [(k1, plc here k1, v1)]) (here.set k1 v1) := .snoc g sf wi li (by omega) (by omega)
    have wi' : Within one two (here.set k1 v1) := wi.move (by omega) (by omega)
    have sf' : Safe one two nds (here.set k1 v1) := sf.move (by omega) (by omega) (by omega)
    refine ⟨⟨_, _, _, _, _, rfl⟩, but_new bq nDh, pot_upd (pq.mono (by omega)) nDha, here.set k1 v1, as ++ [Tq], ts ++ [(k1, plc here k1, v1)], by rw [upd_same, List.map_set], by rw [upd_ne nFD]; exact eFq, rq.keep (.upd eDq), by rw [List.length_append, List.length_singleton]; omega, g', wi', sf', .inl ?_⟩
    have on := ahd_on (nds := nds) wi li (e := v1) (by omega) (by omega)
    rcases Nat.lt_or_ge i 40 with c40 | c40
    · have := am here
      omega
    · rw [full c40]
      have := ahd_full (nds := nds) wi li ltE
      rcases fin with h | h
      · omega
      · exact absurd (h k1 li) (fun z => by rw [z] at ltE; omega)
end
end K49

set_option Elab.async false
set_option linter.all false
set_option maxRecDepth 100000
namespace K49
open PySem PySem.Spec PyProof.Rows L2 NB

/-! ### told one behind another, gone one behind another: the program's look -/
theorem rowOf_no {ts : List (Nat × Int × Int)} {i : Nat} {x y : Int} (h : ∀ j (hj : j < ts.length), inRow i x y ts[j] = false) : rowOf ts i x y = -1 := by
  unfold rowOf
  have : ts.findIdx? (inRow i x y) = none := List.findIdx?_eq_none_iff.mpr fun t ht => by
    obtain ⟨j, hj, rfl⟩ := List.getElem_of_mem ht
    exact h j hj
  rw [this]
theorem rowOf_at {ts : List (Nat × Int × Int)} {i : Nat} {x y : Int} {k : Nat} (hk : k < ts.length) (h : ∀ j (hj : j < ts.length), j < k → inRow i x y ts[j] = false) (e : inRow i x y ts[k] = true) : rowOf ts i x y = (k : Nat) := by
  unfold rowOf
  have : ts.findIdx? (inRow i x y) = some k := List.findIdx?_eq_some_iff_getElem.mpr ⟨hk, e, fun j hj z => by
    rw [h j (by omega) hj] at z
    cases z⟩
  rw [this]
section
variable {P : Program} {w : World} {K : PySem.W.Frag} {mg : Str → Option Value} {base : Heap}
def spRo : Sp := fun vs H Q _ => ∃ (D : Addr) (i : Nat) (x y : Int) (as : List Addr) (ts : List (Nat × Int × Int)), vs = [.ref D, .int (i : Int), .int x, .int y] ∧ H D = some (.lst (as.map V.ref)) ∧ RnL H as (ts.map rw3) ∧ ts.length ≤ 100 ∧ ∀ H', Same H H' → Q (.int (rowOf ts i x y)) H'
abbrev a__law_row_of : Stmt := topS 68
abbrev n__law_row_of : List Str := ["_law_rows", "_law_thing", "_law_here", "_law_there", "_law_number", "_law_mover", "_law_first", "_law_last", "_law_low", "_law_high"]
theorem sc__law_row_of : FnScope n__law_row_of ["_law_rows", "_law_thing", "_law_here", "_law_there"] (defScope a__law_row_of) := ⟨rfl, rfl, rfl, by decide +kernel, rfl, by decide +kernel, by decide +kernel⟩
set_option maxHeartbeats 8000000 in
theorem ok__law_row_of {f  : Addr} {fd  : FuncData} {k : Nat}  (F : Fun K "_law_row_of" "_law_row_of" a__law_row_of f fd)   (m_enumerate : mg "enumerate" = none) (m_max : mg "max" = none) (m_min : mg "min" = none) : FnOk P w K mg base CX0 (k + 1) f fd ["_law_rows", "_law_thing", "_law_here", "_law_there"] spRo := by
  refine F.ok sc__law_row_of (fun vs H Q E h => ?_) (fun cdv A outer s H vs Q E hr h => ?_)
  · obtain ⟨D, i, x, y, as, ts, rfl, _⟩ := h
    rfl
  · obtain ⟨D, i, x, y, as, ts, rfl, eD, ra, few, q⟩ := h
    refine ⟨_, (pss_cons (ps_for PassesOwn.never rfl (pi_enum (by rfl) m_enumerate (pa_cons (pv 0) pa_nil)) (pg_tup rfl (pgs_cons (pg_name (i := 4) sc__law_row_of.nd rfl (.inl rfl)) (pgs_cons (pg_tup rfl (pgs_cons (pg_name (i := 5) sc__law_row_of.nd rfl (.inl rfl)) (pgs_cons (pg_name (i := 6) sc__law_row_of.nd rfl (.inl rfl)) (pgs_cons (pg_name (i := 7) sc__law_row_of.nd rfl (.inl rfl)) pgs_nil)))) pgs_nil)))
        (pss_cons (ps_par (i := 8) (j := 9) (by rfl) sc__law_row_of.nd rfl rfl (by decide) rfl rfl (pa_cons (pe_callB (call_min2 rfl) (by rfl) m_min (by decide +kernel) (pa_cons (pv 6) (pa_cons (pv 7) pa_nil))) (pa_cons (pe_callB (call_max2 rfl) (by rfl) m_max (by decide +kernel) (pa_cons (pv 6) (pa_cons (pv 7) pa_nil))) pa_nil)) (by rfl))
      (pss_one (ps_if (PW.pt (pw_and (pt_cmpR op_eq (pv 5) (pv 1) (nomark _)) (pw_and (pt_cmpR op_le (pv 8) (pe_callB (call_min2 rfl) (by rfl) m_min (by decide +kernel) (pa_cons (pv 2) (pa_cons (pv 3) pa_nil))) (nomark _)) (pw_and1 (pt_cmpR op_le (pe_callB (call_max2 rfl) (by rfl) m_max (by decide +kernel) (pa_cons (pv 2) (pa_cons (pv 3) pa_nil))) (pv 9) (nomark _)))))) (pss_one (ps_ret (pv 4))) pss_nil))))
      (pss_one (ps_ret (pe_un un_neg pe_int)))), ?_⟩
    have las : as.length = ts.length := by
      have := ra.1
      rwa [List.length_map] at this
    refine ⟨_, rfl, D, _, rfl, .inl (.inl eD), for_it (walk_enum (xs := as.map V.ref)) (fun k σ H' => (∃ u4 u5 u6 u7 u8 u9, σ = [some (.ref D), some (.int (i : Int)), some (.int x), some (.int y), u4, u5, u6, u7, u8, u9]) ∧ Same H H' ∧ ∀ j (hj : j < ts.length), j < k → inRow i x y ts[j] = false)
      ⟨⟨_, _, _, _, _, _, rfl⟩, Same.refl H, fun j _ h => absurd h (Nat.not_lt_zero _)⟩ (fun k σ H' _ z => .inl (.inl (z.2.1 _ _ eD))) (fun k v σ H2 H3 hk z y' => ?_) (fun σ H2 z => ?_)⟩
    rotate_left
    · obtain ⟨⟨u4, u5, u6, u7, u8, u9, rfl⟩, s2, no⟩ := z
      rw [List.length_map, las] at no
      have e := rowOf_no (x := x) (y := y) (i := i) fun j hj => no j hj hj
      have q' := q H2 s2
      rw [e] at q'
      exact ⟨1, rfl, q'⟩
    obtain ⟨⟨u4, u5, u6, u7, u8, u9, rfl⟩, s2, no⟩ := z
    obtain ⟨T', x1, x2, rfl, nT, rfl, g1, g2⟩ := y'
    have ex1 : x1 = .int (k : Nat) := (Option.some.inj g1).symm
    subst ex1
    obtain ⟨r, er, rfl⟩ := mapGet g2
    have sT := same_new (o := HO.tup [V.int (k : Nat), V.ref r]) nT
    have s3 := s2.trans sT
    have hk' : k < as.length := by simpa using hk
    have hw : k < ts.length := by omega
    have rr : (upd H2 T' (.tup [V.int (k : Nat), V.ref r])) r = some (.tup [.int (ts[k].1 : Int), .int ts[k].2.1, .int ts[k].2.2]) := s3 _ _ (ra.2 k r (rw3 ts[k]) er (by rw [List.getElem?_map, List.getElem?_eq_getElem hw]; rfl))
    have nxt : inRow i x y ts[k] = false → ∀ j (hj : j < ts.length), j < k + 1 → inRow i x y ts[j] = false := fun h j hj lt => by
      rcases Nat.lt_or_eq_of_le (Nat.le_of_lt_succ lt) with z | z
      · exact no j hj z
      · subst z
        exact h
    have fnd : inRow i x y ts[k] = true → rowOf ts i x y = (k : Nat) := fun h => rowOf_at hw (fun j hj lt => no j hj lt) h
    refine ⟨T', _, rfl, .inl (.inl upd_same), rfl, _, _, rfl, _, _, rfl, r, _, rfl, .inl (.inl rr), rfl, _, _, rfl, _, _, rfl, _, _, rfl, rfl, rfl, ?_⟩
    dsimp only [List.set]
    have mn : ∀ a b : Int, (if b < a then b else a) = min a b := fun a b => by
      split <;> omega
    have mx : ∀ a b : Int, (if b > a then b else a) = max a b := fun a b => by
      split <;> omega
    refine ⟨_, rfl, _, rfl, _, _, rfl, _, rfl, _, rfl, _, _, rfl, _, _, rfl, ?_⟩
    dsimp only [List.set]
    rw [mn, mx]
    have bad : inRow i x y ts[k] = false → (∃ u4 u5 u6 u7 u8 u9, [some (V.ref D), some (V.int (i : Int)), some (V.int x), some (V.int y), some (V.int (k : Int)), some (V.int (ts[k].1 : Int)), some (V.int ts[k].2.1), some (V.int ts[k].2.2), some (V.int (min ts[k].2.1 ts[k].2.2)), some (V.int (max ts[k].2.1 ts[k].2.2))] = [some (.ref D), some (.int (i : Int)), some (.int x), some (.int y), u4, u5, u6, u7, u8, u9]) ∧ Same H (upd H2 T' (.tup [V.int (k : Nat), V.ref r])) ∧ ∀ j (hj : j < ts.length), j < k + 1 → inRow i x y ts[j] = false := fun h => ⟨⟨_, _, _, _, _, _, rfl⟩, s3, nxt h⟩
    refine ⟨_, rfl, _, rfl, rfl, _, rfl, ite2 (fun c1 => ?_) (fun c1 => ?_)⟩
    rotate_left
    · refine bad ?_
      unfold inRow
      rw [decide_eq_false fun z => c1 (decide_eq_true (by rw [z]))]
      rfl
    have c1' : ts[k].1 = i := by
      have := of_decide_eq_true c1
      injection this with h
      exact Int.ofNat.inj h
    refine ⟨_, rfl, _, rfl, _, rfl, _, _, rfl, _, _, rfl, rfl, _, rfl, ?_⟩
    rw [mn]
    refine ite2 (fun c2 => ?_) (fun c2 => ?_)
    rotate_left
    · refine bad ?_
      unfold inRow
      rw [Bool.eq_false_iff.mpr c2, Bool.false_and, Bool.and_false]
    refine ⟨_, rfl, _, rfl, _, _, rfl, _, rfl, _, _, rfl, rfl, _, rfl, ?_⟩
    rw [mx]
    refine ite2 (fun c3 => ?_) (fun c3 => ?_)
    rotate_left
    · refine bad ?_
      unfold inRow
      rw [Bool.eq_false_iff.mpr c3, Bool.and_false, Bool.and_false]
    have q' := q _ s3
    rw [fnd (by unfold inRow; rw [c2, c3, decide_eq_true c1']; rfl)] at q'
    exact ⟨_, rfl, q'⟩
def spIo : Sp := fun vs H Q _ => ∃ (D p : Addr) (as : List Addr) (one two : List Int) (nds : List ND) (ts zs : List (Nat × Int × Int)), vs = [.ref D, .ref p] ∧ H D = some (.lst (as.map V.ref)) ∧ RnL H as (ts.map rw3) ∧ ts.length ≤ 100 ∧ G3 one two nds ts two ∧ two.length = one.length ∧ (∀ n ∈ nds, n.Ok one two) ∧ RunsAt H p (zs.map rw3) ∧ zs.length ≤ 100 ∧ (∀ z ∈ zs, Str3 one two z.1 z.2.1 z.2.2) ∧ (∀ (k : Nat) (z y : Nat × Int × Int), zs[k]? = some z → zs[k + 1]? = some y → (⟨y.1, y.2.1, z.1, z.2.2⟩ : ND) ∈ nds) ∧ ∀ H', Same H H' → Q (.bl true) H'
abbrev a__law_in_order : Stmt := topS 69
abbrev n__law_in_order : List Str := ["_law_rows", "_law_told", "_law_waited", "_law_begun", "_law_place", "_law_thing", "_law_stop", "_law_there", "_law_come", "_law_passed"]
theorem sc__law_in_order : FnScope n__law_in_order ["_law_rows", "_law_told"] (defScope a__law_in_order) := ⟨rfl, rfl, rfl, by decide +kernel, rfl, by decide +kernel, by decide +kernel⟩
set_option maxHeartbeats 8000000 in
theorem ok__law_in_order {f fRo : Addr} {fd fdRo : FuncData} {k : Nat}  (F : Fun K "_law_in_order" "_law_in_order" a__law_in_order f fd) (Ro : Kn P w K mg base 1 "_law_row_of" ["_law_rows", "_law_thing", "_law_here", "_law_there"] spRo fRo fdRo)  (m_zip : mg "zip" = none) : FnOk P w K mg base CX0 (k + 2) f fd ["_law_rows", "_law_told"] spIo := by
  refine F.ok sc__law_in_order (fun vs H Q E h => ?_) (fun cdv A outer s H vs Q E hr h => ?_)
  · obtain ⟨D, p, as, one, two, nds, ts, zs, rfl, _⟩ := h
    rfl
  · obtain ⟨D, p, as, one, two, nds, ts, zs, rfl, eD, ra, few, g, lo, ok, hR, fz, st, due, q⟩ := h
    refine ⟨_, (pss_cons (ps_for PassesOwn.never rfl (RZ.pi_zipA (by rfl) m_zip (pa_cons (pv 1) (pa_cons (pe_slice (r := rSlA K) sl_tupA (pv 1) (po_some pe_int) po_none) pa_nil))) (pg_tup rfl (pgs_cons (pg_tup rfl (pgs_cons (pg_name (i := 2) sc__law_in_order.nd rfl (.inl rfl)) (pgs_cons (pg_name (i := 3) sc__law_in_order.nd rfl (.inl rfl)) (pgs_cons (pg_name (i := 4) sc__law_in_order.nd rfl (.inl rfl)) pgs_nil)))) (pgs_cons (pg_tup rfl (pgs_cons (pg_name (i := 5) sc__law_in_order.nd rfl (.inl rfl)) (pgs_cons (pg_name (i := 6) sc__law_in_order.nd rfl (.inl rfl)) (pgs_cons (pg_name (i := 7) sc__law_in_order.nd rfl (.inl rfl)) pgs_nil)))) pgs_nil)))
        (pss_cons (ps_set (i := 8) sc__law_in_order.nd rfl (.inl rfl) (pe_kn Ro hr (by omega) (pa_cons (pv 0) (pa_cons (pv 2) (pa_cons (pv 4) (pa_cons (pe_op op_add (pv 4) (pe_ifExp (pt_cmpR op_gt (pv 3) (pv 4) (nomark _)) pe_int (pe_un un_neg pe_int))) pa_nil))))))
      (pss_cons (ps_set (i := 9) sc__law_in_order.nd rfl (.inl rfl) (pe_kn Ro hr (by omega) (pa_cons (pv 0) (pa_cons (pv 5) (pa_cons (pv 6) (pa_cons (pe_op op_add (pv 6) (pe_ifExp (pt_cmpR op_gt (pv 7) (pv 6) (nomark _)) pe_int (pe_un un_neg pe_int))) pa_nil))))))
      (pss_one (ps_if (PW.pt (pw_or (pt_cmpR op_lt (pv 8) pe_int (nomark _)) (pw_or1 (pt_cmpR op_le (pv 9) (pv 8) (nomark _))))) (pss_one (ps_ret pe_bl)) pss_nil)))))
      (pss_one (ps_ret pe_bl))), ?_⟩
    obtain ⟨ps, ep, hRn⟩ := id hR
    have las : ps.length = zs.length := by
      have := hRn.1
      rwa [List.length_map] at this
    have row : ∀ {G : Hp}, Same H G → ∀ (k : Nat) (a : Addr) (hk : k < zs.length), ps[k]? = some a → G a = some (.tup [.int (zs[k].1 : Int), .int zs[k].2.1, .int zs[k].2.2]) := fun {G} sG k a hk ea => sG _ _ (hRn.2 k a (rw3 zs[k]) ea (by rw [List.getElem?_map, List.getElem?_eq_getElem hk]; rfl))
    refine ⟨_, rfl, _, rfl, 1, rfl, ?_⟩
    show tNoPart _ _ _
    unfold tNoPart
    refine cut_one1 ep fun g' H4 s4 eg => ?_
    refine ⟨p, g', _, _, rfl, .inr ⟨.inl (.inl (s4 _ _ ep)), .inl (.inl eg), for_it (walk_zipTm (n := min (ps.map V.ref).length ((ps.map V.ref).drop 1).length) rfl) (fun k σ H' => (∃ u2 u3 u4 u5 u6 u7 u8 u9, σ = [some (.ref D), some (.ref p), u2, u3, u4, u5, u6, u7, u8, u9]) ∧ Same H4 H')
      ⟨⟨_, _, _, _, _, _, _, _, rfl⟩, Same.refl _⟩ (fun k σ H' _ y => ⟨.inl (.inl (y.2 _ _ (s4 _ _ ep))), .inl (.inl (y.2 _ _ eg))⟩) (fun k v σ H5 H6 hk y z => ?_) (fun σ H5 y => ?_)⟩⟩
    rotate_left
    · obtain ⟨⟨u2, u3, u4, u5, u6, u7, u8, u9, rfl⟩, s5⟩ := y
      exact q _ (s4.trans s5)
    obtain ⟨⟨u2, u3, u4, u5, u6, u7, u8, u9, rfl⟩, s5⟩ := y
    obtain ⟨T, x, y, rfl, nT, rfl, g1, g2⟩ := z
    obtain ⟨r1, er1, rfl⟩ := mapGet g1
    have g2 : ((ps.map V.ref).drop 1)[k]? = some y := g2
    rw [List.getElem?_drop] at g2
    obtain ⟨r2, er2, rfl⟩ := mapGet g2
    have h1 : k < zs.length := by
      have := (List.getElem?_eq_some_iff.mp er1).1
      omega
    have h2 : k + 1 < zs.length := by
      have := (List.getElem?_eq_some_iff.mp er2).1
      omega
    rw [Nat.add_comm 1 k] at er2
    have sT := same_new (o := HO.tup [V.ref r1, V.ref r2]) nT
    have s06 := (s4.trans s5).trans sT
    refine ⟨T, _, rfl, .inl (.inl upd_same), rfl, _, _, rfl, r1, _, rfl, .inl (.inl (row s06 k r1 h1 er1)), rfl, _, _, rfl, _, _, rfl, _, _, rfl, rfl, _, _, rfl, r2, _, rfl, .inl (.inl (row s06 (k + 1) r2 h2 er2)), rfl, _, _, rfl, _, _, rfl, _, _, rfl, rfl, rfl, ?_⟩
    generalize (upd H5 T (.tup [.ref r1, .ref r2])) = H7 at sT s06 ⊢
    have ro := row_order g lo ok (st _ (List.getElem_mem h1)) (st _ (List.getElem_mem h2)) (due k zs[k] zs[k + 1] (List.getElem?_eq_getElem h1) (List.getElem?_eq_getElem h2))
    generalize zs[k] = z at ro ⊢
    generalize zs[k + 1] = y at ro ⊢
    dsimp only [List.set]
    refine ⟨_, rfl, _, rfl, _, rfl, _, rfl, _, rfl, _, rfl, _, _, rfl, rfl, _, rfl, tif_join (v := .int (if z.2.1 > z.2.2 then 1 else -1)) (fun e Q q => by rw [if_pos (of_decide_eq_true e)] at q; exact q) (fun e Q q => ⟨1, rfl, by rw [if_neg (fun z => e (decide_eq_true z))] at q; exact q⟩) ?_⟩
    refine ⟨_, _, rfl, rfl, D, z.1, z.2.2, _, as, ts, rfl, s06 _ _ eD, ra.same s06, few, fun H8 s8 => ?_⟩
    have s08 := s06.trans s8
    dsimp only [List.set]
    refine ⟨_, rfl, _, rfl, _, rfl, _, rfl, _, rfl, _, rfl, _, _, rfl, rfl, _, rfl, tif_join (v := .int (if y.2.2 > y.2.1 then 1 else -1)) (fun e Q q => by rw [if_pos (of_decide_eq_true e)] at q; exact q) (fun e Q q => ⟨1, rfl, by rw [if_neg (fun z => e (decide_eq_true z))] at q; exact q⟩) ?_⟩
    refine ⟨_, _, rfl, rfl, D, y.1, y.2.1, _, as, ts, rfl, s08 _ _ eD, ra.same s08, few, fun H9 s9 => ?_⟩
    dsimp only [List.set]
    refine ⟨_, rfl, _, 0, rfl, rfl, _, rfl, iteFv (decide_eq_false (by have := ro.1; omega)) ?_⟩
    refine ⟨_, rfl, _, rfl, _, _, rfl, rfl, _, rfl, iteFv (decide_eq_false (by have := ro.2; omega)) ?_⟩
    exact ⟨⟨_, _, _, _, _, _, _, _, rfl⟩, ((s5.trans sT).trans s8).trans s9⟩
end
end K49

set_option Elab.async false
set_option linter.all false
set_option maxRecDepth 100000
namespace K49
open PySem PySem.Spec PyProof.Rows L2 NB

/-! ### wiped slots -/
theorem wipe_get (σ : L2.St) : ∀ (vs : List Nat) (j : Nat), (wipe σ vs)[j]? = if j ∈ vs then σ[j]?.map (fun _ => none) else σ[j]?
  | [], j => by rw [if_neg List.not_mem_nil]; rfl
  | v :: vs, j => by
    show ((wipe σ vs).set v none)[j]? = _
    rw [List.getElem?_set, wipe_get σ vs j, wipe_length]
    by_cases c : v = j
    · subst c
      rw [if_pos rfl, if_pos List.mem_cons_self]
      by_cases d : v < σ.length
      · rw [if_pos d, List.getElem?_eq_getElem d]
        rfl
      · rw [if_neg d, List.getElem?_eq_none (by omega)]
        rfl
    · rw [if_neg c]
      have : j ∈ v :: vs ↔ j ∈ vs := by rw [List.mem_cons]; exact ⟨fun h => h.elim (fun e => absurd e.symm c) id, .inr⟩
      by_cases d : j ∈ vs
      · rw [if_pos d, if_pos (this.mpr d)]
      · rw [if_neg d, if_neg (fun h => d (this.mp h))]
theorem wipe_any {σ τ : L2.St} {vs : List Nat} (l : τ.length = σ.length) (h : ∀ j, j ∉ vs → τ[j]? = σ[j]?) : wipe τ vs = wipe σ vs := by
  refine List.ext_getElem? fun j => ?_
  rw [wipe_get, wipe_get]
  by_cases d : j ∈ vs
  · rw [if_pos d, if_pos d]
    by_cases e : j < σ.length
    · rw [List.getElem?_eq_getElem e, List.getElem?_eq_getElem (by omega)]
      rfl
    · rw [List.getElem?_eq_none (by omega), List.getElem?_eq_none (by omega)]
  · rw [if_neg d, if_neg d, h j d]

theorem wipe_two {σ : L2.St} {i j : Nat} {a b : Option V} {m n : Str} : wipe (((wipe σ ([(m, i), (n, j)].map (·.2))).set i a).set j b) ([(m, i), (n, j)].map (·.2)) = wipe σ ([(m, i), (n, j)].map (·.2)) := by
  refine wipe_any (by rw [List.length_set, List.length_set, wipe_length]) fun k hk => ?_
  have h1 : i ≠ k := fun e => hk (by simp [e])
  have h2 : j ≠ k := fun e => hk (by simp [e])
  rw [List.getElem?_set_ne h2, List.getElem?_set_ne h1, wipe_get, if_neg hk]
theorem wipe_three {σ : L2.St} {i j l : Nat} {a b c : Option V} {m n o : Str} : wipe ((((wipe σ ([(o, l), (m, i), (n, j)].map (·.2))).set i a).set j b).set l c) ([(o, l), (m, i), (n, j)].map (·.2)) = wipe σ ([(o, l), (m, i), (n, j)].map (·.2)) := by
  refine wipe_any (by rw [List.length_set, List.length_set, List.length_set, wipe_length]) fun k hk => ?_
  have h1 : i ≠ k := fun e => hk (by simp [e])
  have h2 : j ≠ k := fun e => hk (by simp [e])
  have h3 : l ≠ k := fun e => hk (by simp [e])
  rw [List.getElem?_set_ne h3, List.getElem?_set_ne h2, List.getElem?_set_ne h1, wipe_get, if_neg hk]
theorem wipe_seq3 {σ : L2.St} {i j l : Nat} {a b c : Option V} {m n o : Str} : wipe ((((wipe σ ([(m, i), (n, j), (o, l)].map (·.2))).set i a).set j b).set l c) ([(m, i), (n, j), (o, l)].map (·.2)) = wipe σ ([(m, i), (n, j), (o, l)].map (·.2)) := by
  refine wipe_any (by rw [List.length_set, List.length_set, List.length_set, wipe_length]) fun k hk => ?_
  have h1 : i ≠ k := fun e => hk (by simp [e])
  have h2 : j ≠ k := fun e => hk (by simp [e])
  have h3 : l ≠ k := fun e => hk (by simp [e])
  rw [List.getElem?_set_ne h3, List.getElem?_set_ne h2, List.getElem?_set_ne h1, wipe_get, if_neg hk]

/-! ### runs as data -/
def rdat (rl : List (List Int)) : PyData := .tuple (rl.map fun r => .tuple (r.map PyData.int))
theorem dp_runs {K : PySem.W.Frag} {H : Hp} : ∀ {as : List Addr} {rl : List (List Int)}, RnL H as rl → DpAll K H (as.map V.ref) (rl.map fun r => .tuple (r.map PyData.int))
  | [], [], _ => .nil
  | [], _ :: _, h => by
    have := h.1
    cases this
  | _ :: _, [], h => by
    have := h.1
    cases this
  | a :: as, r :: rl, h => .cons (dpt (h.2 0 a r rfl rfl)) (dp_runs ⟨by have := h.1; simpa using this, fun k b q h1 h2 => h.2 (k + 1) b q h1 h2⟩)
theorem RunsAt.dp {K : PySem.W.Frag} {H : Hp} {p : Addr} {rl : List (List Int)} (h : RunsAt H p rl) : Dp K H (.ref p) (rdat rl) := by
  obtain ⟨as, e, hR⟩ := h
  exact .tup (.inl (.inl e)) (dp_runs hR)
theorem RunsAt.same {H H' : Hp} {p : Addr} {rl : List (List Int)} (h : RunsAt H p rl) (s : Same H H') : RunsAt H' p rl := by
  obtain ⟨as, e, hR⟩ := h
  exact ⟨as, s _ _ e, hR.same s⟩
theorem eqv_rl (rl : List (List Int)) : PyData.eqv (rdat rl) (rdat rl) = true := by
  unfold rdat
  simp only [PyData.eqv]
  induction rl with
  | nil => rfl
  | cons r rl ih =>
    simp only [List.map_cons, PyData.eqvAll, PyData.eqv]
    rw [eqv_ints, decide_eq_true rfl, Bool.true_and]
    exact ih
theorem lay_rl : ∀ rl : List (List Int), PyData.canLayAll0 (rl.map fun r => .tuple (r.map PyData.int)) = true
  | [] => rfl
  | r :: rl => by
    simp only [List.map_cons, PyData.canLayAll0, PyData.canLay0, lay_ints, lay_rl rl, Bool.true_and]
theorem depth_int1 : ∀ xs : List Int, PyData.depthAll (xs.map PyData.int) ≤ 1
  | [] => by simp [PyData.depthAll]
  | x :: xs => by
    have := depth_int1 xs
    simp only [List.map_cons, PyData.depthAll, PyData.depth]
    omega
theorem depth_rl : ∀ rl : List (List Int), PyData.depthAll (rl.map fun r => .tuple (r.map PyData.int)) ≤ 2
  | [] => by simp [PyData.depthAll]
  | r :: rl => by
    have := depth_rl rl
    have := depth_int1 r
    simp only [List.map_cons, PyData.depthAll, PyData.depth]
    omega
theorem shaped_rl (rl : List (List Int)) : SeqAt.shaped (rdat rl) = true := by
  unfold SeqAt.shaped rdat
  have := depth_rl rl
  simp only [PyData.canLay0, lay_rl, PyData.depth, Bool.true_and]
  exact decide_eq_true (by omega)

/-! ### the law -/
theorem std_sml47 {tops : List Int} {st : List Int} (p : Pl st) : Sml st := fun x hx => ⟨(p x hx).1, by have := (p x hx).2; unfold BB; omega⟩
theorem wts_z2 {one two : List Int} {rs : List Rl} {nds cs cs2 : List ND} {L : Lgs} {rows : List (List Int)} (E : Earl one two rs nds cs L) (C2 : Cnts one two nds cs2) (lo : two.length = one.length) (I : IsWts one two cs2 L rows) :
    ∃ zs : List (Nat × Int × Int), rows = zs.map rw3 ∧ (∀ z ∈ zs, Str3 one two z.1 z.2.1 z.2.2) ∧ (zs = [] → one = two) ∧ ∀ (k : Nat) (z y : Nat × Int × Int), zs[k]? = some z → zs[k + 1]? = some y → (⟨y.1, y.2.1, z.1, z.2.2⟩ : ND) ∈ nds := by
  by_cases c : one = two
  · exact ⟨[], I.1 c, fun _ h => absurd h List.not_mem_nil, fun _ => c, fun k z y h => by simp at h⟩
  · obtain ⟨i, ch, hi, Im', r⟩ := I.2 c
    obtain ⟨zs, a, b, d, _, e⟩ := wts_zs E C2 lo I Im'
    exact ⟨zs, a, b, d.mp, e⟩
theorem Drn47.good {tops one two : List Int} {rs : List Rl} {hs : List (List Int)} {hr : List Int} (D : Drn47 one two rs hs hr) (lo1 : one.length = tops.length) (lo2 : two.length = tops.length) (p1 : Pl one) (p2 : Pl two) (le1 : Le one tops) (le2 : Le two tops) : one ∈ goods tops rs ∧ two ∈ goods tops rs := by
  have bd : ∀ {st : List Int}, st.length = tops.length → Pl st → Le st tops → ∀ j, j < tops.length → 0 ≤ plc st j ∧ plc st j ≤ plc tops j := fun {st} l p le j hj => by
    have hj' : j < st.length := by omega
    rw [plc_get hj', plc_get hj]
    exact ⟨(p _ (List.getElem_mem hj')).1, le j _ _ (List.getElem?_eq_getElem hj') (List.getElem?_eq_getElem hj)⟩
  exact ⟨goods_mem.mpr ⟨⟨lo1, bd lo1 p1 le1⟩, fun q hq => (D.gd q hq).1⟩, goods_mem.mpr ⟨⟨lo2, bd lo2 p2 le2⟩, fun q hq => (D.gd q hq).2⟩⟩
def rwT (t : Nat × Int × Int) : List Int := [(t.1 : Int), t.2.2]
theorem rows_T {H : Hp} {p : Addr} {bs : List Addr} {ts : List (Nat × Int × Int)} (e : H p = some (.tup (bs.map V.ref))) (r : RnL H bs (ts.map rwT)) : RowsAt H p (ts.map fun t => (t.1, t.2.2)) := by
  refine ⟨bs, e, by have := r.1; rw [List.length_map] at this ⊢; exact this, fun i a z h1 h2 => ?_⟩
  rw [List.getElem?_map] at h2
  cases ht : ts[i]? with
  | none =>
    rw [ht] at h2
    cases h2
  | some t =>
    rw [ht] at h2
    cases h2
    exact r.2 i a (rwT t) h1 (by rw [List.getElem?_map, ht]; rfl)
section
variable {P : Program} {w : World} {K : PySem.W.Frag} {mg : Str → Option Value} {base : Heap}
def spLaw (K : PySem.W.Frag) : Sp := fun vs H Q _ => ∃ (a : Addr) (ns : List Int), vs = [.ref a] ∧ SqL K H a (ns.map V.int) ∧ ns.length ≤ 63 ∧ ∀ H', Q (.bl true) H'
abbrev a_law : Stmt := topS 70
abbrev n_law : List Str := ["_law_script", "_law_k", "_law_pot_here", "_law_tops", "_law_one", "_law_two", "_law_plan", "_law_due", "_law_told", "_law_turn", "_law_rows", "_law_thing", "_law_here", "_law_there"]
theorem sc_law : FnScope n_law ["_law_script"] (defScope a_law) := ⟨rfl, rfl, rfl, by decide +kernel, rfl, by decide +kernel, by decide +kernel⟩
set_option maxHeartbeats 8000000 in
theorem ok_law {f fPo fLt fSd fDr fTk fNe fWt fDw fWk fIo : Addr} {fd fdPo fdLt fdSd fdDr fdTk fdNe fdWt fdDw fdWk fdIo : FuncData} {k : Nat} {C CK f0 : Addr} {fd0 : FuncData} (F : Fun K "law" "law" a_law f fd) (Po : Kn P w K mg base 1 "_law_pot" ["_law_script", "_law_k"] (spPot K) fPo fdPo) (Lt : Kn P w K mg base 5 "_law_long_tops" ["_law_pot_here"] spLt fLt fdLt) (Sd : Kn P w K mg base 2 "_law_standing" ["_law_pot_here", "_law_tops"] (spStand K) fSd fdSd) (Dr : Kn P w K mg base 4 "_law_done_rules" ["_law_pot_here", "_law_one", "_law_two", "_law_many"] spDr fDr fdDr) (Tk : Kn P w K mg base 1 "_law_take" ["_law_pot_here", "_law_many"] spTake fTk fdTk) (Ne : Kn P w K mg base 2 "_law_needs" ["_law_rules", "_law_one", "_law_other"] spLNeeds fNe fdNe) (Wt : KnX P w K mg base 8 "waits" ["plan", "one", "other"] (spWts K C CK) fWt fdWt) (Dw : Kn P w K mg base 4 "_law_drawn_way" ["_law_pot_here", "_law_due", "_law_one", "_law_two"] (spDw K) fDw fdDw) (Wk : Kn P w K mg base 5 "walked" ["plan", "standing", "way"] (spWk C) fWk fdWk) (Io : Kn P w K mg base 2 "_law_in_order" ["_law_rows", "_law_told"] spIo fIo fdIo) (TX : PlanTxt K mg C) (M : Mk K C f0) (GI : FnOk P w K mg base CX0 7 f0 fd0 ["self", "tops", "rules"] (spInit C)) (bI : Binds K fd0 ["self", "tops", "rules"] []) (m_len : mg "len" = none) (m_max : mg "max" = none) (m_min : mg "min" = none) (m_range : mg "range" = none) (m_tuple : mg "tuple" = none) : FnOk P w K mg base CX0 (k + 10) f fd ["_law_script"] (spLaw K) := by
  refine F.ok sc_law (fun vs H Q E h => ?_) (fun cdv A outer s H vs Q E hr h => ?_)
  · obtain ⟨a, ns, rfl, _⟩ := h
    rfl
  · obtain ⟨a, ns, rfl, hS, hn, q⟩ := h
    refine ⟨_, (pss_cons (ps_for PassesOwn.never rfl (pi_range1 (by rfl) m_range (pa_cons (pe_callB (call_max2 rfl) (by rfl) m_max (by decide +kernel) (pa_cons pe_int (pa_cons (pe_callB (call_min2 rfl) (by rfl) m_min (by decide +kernel) (pa_cons pe_int (pa_cons (pe_callB call_len_seq (by rfl) m_len (by decide +kernel) (pa_cons (pv 0) pa_nil)) pa_nil))) pa_nil))) pa_nil)) (pg_name (i := 1) sc_law.nd rfl (.inl rfl))
        (pss_cons (ps_set (i := 2) sc_law.nd rfl (.inl rfl) (pe_kn Po hr (by omega) (pa_cons (pv 0) (pa_cons (pv 1) pa_nil))))
      (pss_cons (ps_set (i := 3) sc_law.nd rfl (.inl rfl) (pe_kn Lt hr (by omega) (pa_cons (pv 2) pa_nil)))
      (pss_cons (ps_par (i := 4) (j := 5) (by rfl) sc_law.nd rfl rfl (by decide) rfl rfl (pa_cons (pe_kn Sd hr (by omega) (pa_cons (pv 2) (pa_cons (pv 3) pa_nil))) (pa_cons (pe_kn Sd hr (by omega) (pa_cons (pv 2) (pa_cons (pv 3) pa_nil))) pa_nil)) (by rfl))
      (pss_cons (ps_set (i := 6) sc_law.nd rfl (.inl rfl) (pe_make M GI (hr.mono (by omega)) (by rfl) TX.mgC bI .nil pass0 (pa_cons (pv 3) (pa_cons (pe_kn Dr hr (by omega) (pa_cons (pv 2) (pa_cons (pv 4) (pa_cons (pv 5) (pa_cons (pe_op op_add pe_int (pe_kn Tk hr (by omega) (pa_cons (pv 2) (pa_cons pe_int pa_nil)))) pa_nil))))) pa_nil))))
      (pss_cons (ps_par (i := 7) (j := 8) (by rfl) sc_law.nd rfl rfl (by decide) rfl rfl (pa_cons (pe_kn Ne hr (by omega) (pa_cons (pe_fld (pv 6) rfl) (pa_cons (pv 4) (pa_cons (pv 5) pa_nil)))) (pa_cons (pe_knX Wt hr (by omega) (pa_cons (pv 6) (pa_cons (pv 4) (pa_cons (pv 5) pa_nil)))) pa_nil)) (by rfl))
      (pss_cons (ps_for PassesOwn.never rfl (pi_range1 (by rfl) m_range (pa_cons pe_int pa_nil)) (pg_name (i := 9) sc_law.nd rfl (.inl rfl))
        (pss_cons (ps_set (i := 10) sc_law.nd rfl (.inl rfl) (pe_kn Dw hr (by omega) (pa_cons (pv 2) (pa_cons (pv 7) (pa_cons (pv 4) (pa_cons (pv 5) pa_nil))))))
      (pss_cons (ps_if (pt_cmpR (op_neD hr.units) (pe_kn Wk hr (by omega) (pa_cons (pv 6) (pa_cons (pv 4) (pa_cons (pe_callTy call_tuple_of (by rfl) m_tuple (by decide +kernel) (pa_cons (
        pe_lc (own := [("_law_thing", 11), ("_law_here", 12), ("_law_there", 13)]) (g := (gTup K 3 (gCons (gName 11) (gCons (gName 12) (gCons (gName 13) gNil))))) (tt := tYes) (te := (tTup (tCons (tVar 11) (tCons (tVar 13) tNil)))) rfl sc_law.nd (pi_list (pv 10)) (blkOk_by (N := n_law) (sc := defScope a_law) (by decide +kernel))
          (fun _ _ _ _ _ => (pg_tup rfl (pgs_cons (pg_name (i := 11) sc_law.nd rfl (.inl rfl) (hf := .inr rfl)) (pgs_cons (pg_name (i := 12) sc_law.nd rfl (.inl rfl) (hf := .inr rfl)) (pgs_cons (pg_name (i := 13) sc_law.nd rfl (.inl rfl) (hf := .inr rfl)) pgs_nil))))) (fun _ _ _ _ _ => pts_nil) (fun _ _ _ _ _ => (pe_tup (pa_cons (pv 11) (pa_cons (pv 13) pa_nil))))) pa_nil)) pa_nil)))) (pv 5) (nomark _)) (pss_one (ps_ret pe_bl)) pss_nil)
      (pss_one (ps_if (pt_not (pt_val (pe_kn Io hr (by omega) (pa_cons (pv 10) (pa_cons (pv 8) pa_nil))))) (pss_one (ps_ret pe_bl)) pss_nil)))))
      (pss_one (ps_if (PW.pt (pw_and (pt_cmpR (op_eqD hr.units) (pv 8) (pe_tup pa_nil) (nomark _)) (pw_and1 (pt_cmpR (op_neD hr.units) (pv 4) (pv 5) (nomark _))))) (pss_one (ps_ret pe_bl)) pss_nil)))))))))
      (pss_one (ps_ret pe_bl))), ?_⟩
    refine ⟨.ref a, rfl, a, _, rfl, .inl hS, 2, _, rfl, 1, _, rfl, _, rfl, ?_, ?_, for_it walk_range (fun i σ H' => (∃ u1 u2 u3 u4 u5 u6 u7 u8 u9 u10 u11 u12 u13, σ = [some (.ref a), u1, u2, u3, u4, u5, u6, u7, u8, u9, u10, u11, u12, u13]) ∧ SqL K H' a (ns.map V.int)) ⟨⟨none, none, none, none, none, none, none, none, none, none, none, none, none, rfl⟩, hS⟩ (fun _ _ _ _ _ => trivial) (fun i v σ H0' H0 hi y z => ?_) (fun σ H0 y => q H0)⟩
    · split <;> split <;> omega
    · split <;> split <;> omega
    obtain ⟨⟨u1, u2, u3, u4, u5, u6, u7, u8, u9, u10, u11, u12, u13, rfl⟩, hS0⟩ := y
    obtain ⟨rfl, rfl⟩ := z
    have i5 : i < 5 := by
      revert hi
      split <;> split <;> intro hi <;> omega
    refine ⟨.ref a, rfl, _, rfl, a, ns, i, by show [V.ref a, V.int (0 + (i : Int))] = _; rw [Int.zero_add], hS0, by omega, fun H1 p s1 np pp1 => ?_⟩
    dsimp only [List.set]
    refine ⟨_, rfl, p, 0, rfl, pp1, by omega, fun H2 t tops b2 pp2 et l2 l12 pl => ?_⟩
    dsimp only [List.set]
    refine ⟨_, rfl, _, rfl, p, t, tops, _, rfl, pp2, .inl (.inl et), pl, l12, by omega, fun H3 o1 one b3 pp3 no1 e1 lo1 p1 le1 => ?_⟩
    have et3 := (Keep.but b3 pp2).tup et
    refine ⟨_, rfl, _, rfl, p, t, tops, _, rfl, pp3, .inl (.inl et3), pl, l12, by omega, fun H4 o2 two b4 pp4 no2 e2 lo2 p2 le2 => ?_⟩
    have et4 := (Keep.but b4 pp3).tup et3
    have e14 := (Keep.but b4 pp3).tup e1
    refine ⟨_, _, rfl, ?_⟩
    dsimp only [List.set]
    refine ⟨_, rfl, _, rfl, _, rfl, _, rfl, _, rfl, p, 12, _, rfl, pp4, by decide, by decide, by omega, fun d H6 b6 pp6 d0 d1 => ⟨1, d, rfl, rfl, ?_⟩⟩
    have e16 := (Keep.but b6 pp4).tup e14
    have e26 := (Keep.but b6 pp4).tup e2
    have et6 := (Keep.but b6 pp4).tup et4
    refine ⟨p, o1, o2, tops, one, two, 1 + d, _, rfl, pp6, by omega, e16, e26, l12, pl, lo1, lo2, p1, p2, le1, le2, by omega, by omega, fun H7 R rs hs hr b7 pp7 hR lR rok Dn => ?_⟩
    have e17 := (Keep.but b7 pp6).tup e16
    have e27 := (Keep.but b7 pp6).tup e26
    have et7 := (Keep.but b7 pp6).tup et6
    have sm1 := std_sml47 (tops := tops) p1
    have sm2 := std_sml47 (tops := tops) p2
    have lo21 : two.length = one.length := by omega
    refine fun x dx nx ndx ne => plan_made (C := C) (rs := rs) nx ndx ne et7 hR (by omega) l12 pl (by omega) rok fun H8 s8 hp => ⟨rfl, ?_⟩
    have e18 := s8 _ _ e17
    have e28 := s8 _ _ e27
    have pp8 := pp7.keep s8
    dsimp only [List.set]
    obtain ⟨dx', tt', R', ex, ett, eR⟩ := id hp
    refine ⟨.ref x, rfl, x, C, dx', _, _, rfl, ex, TX.cl, TX.nR, look_rules _ _, _, rfl, _, rfl, R', o1, o2, tops, one, two, rs, rfl, eR, e18, e28, l12, pl, by omega, rok, lo1, lo2, fun H9 pd ns' s9 npd hn In => ?_⟩
    have s89 := s8.trans s9
    refine ⟨_, rfl, _, rfl, _, rfl, x, o1, o2, tops, one, two, rs, rfl, ⟨(hp.keep (.same s9)).k, s9 _ _ e18, s9 _ _ e28, l12, pl, by omega, rok, lo1, lo2, sm1, sm2⟩, by omega, fun nds cs cs2 L H10 pr rows E C2 up s10 IW hRr few3 => ?_, fun nds' G5 dd Rr Lr N' s5 nd eRr hL rg ed => (Dn.cuts.noring lo1 lo2 rok N' rg).elim⟩
    have en : ns' = nds.map ND.toL := IsNeeds.one l12 pl rok In E.N.is
    subst en
    refine ⟨_, _, rfl, ?_⟩
    obtain ⟨zs, rfl, zst, zemp, zdue⟩ := wts_z2 E C2 lo21 IW
    have s80 := s89.trans s10
    have s810 := s9.trans s10
    have pp10 := pp8.keep s810
    have hA := (hn.asked).keep (.same s10)
    have hp10 := (hp.keep (.same s9)).keep (.same s10)
    have e1a := s810 _ _ e18
    have e2a := s810 _ _ e28
    have fewz : zs.length ≤ 100 := by rwa [List.length_map] at few3
    obtain ⟨g1, g2⟩ := Dn.good lo1 lo2 p1 p2 le1 le2
    have bA : But p H0 H10 := ((((((But.of s1).trans b2).trans b3).trans b4).trans b6).trans b7).trans (But.of s80)
    dsimp only [List.set]
    refine ⟨3, rfl, by decide, by decide, for_it walk_range (fun j σ H' => (∃ u9 u10 u11 u12 u13, σ = [some (.ref a), some (.int (0 + (i : Int))), some (.ref p), some (.ref t), some (.ref o1), some (.ref o2), some (.ref x), some (.ref pd), some (.ref pr), u9, u10, u11, u12, u13]) ∧ But p H0 H' ∧ PotAt H' p (2000 + 300 * j) ∧ AskedAt H' pd nds ∧ PlanAt C H' x tops rs ∧ H' o1 = some (.tup (one.map V.int)) ∧ H' o2 = some (.tup (two.map V.int)) ∧ RunsAt H' pr (zs.map rw3))
      ⟨⟨_, _, _, _, _, rfl⟩, bA, pp10.mono (by omega), hA, hp10, e1a, e2a, hRr⟩ (fun _ _ _ _ _ => trivial) (fun j v σ Ha Hb hj y z => ?_) (fun σ Ha y => ?_)⟩
    rotate_left
    · obtain ⟨⟨u9, u10, u11, u12, u13, rfl⟩, bE, ppE, hAE, hpE, e1E, e2E, hRE⟩ := y
      refine ⟨_, rfl, Nat.zero_le _, fun Tz nz => ?_⟩
      have sz := same_new (o := HO.tup []) nz
      refine ⟨_, _, (hRE.same sz).dp, .tup (.inl (.inl upd_same)) .nil, shaped_rl _, rfl, _, rfl, ?_⟩
      have endO : SqL K (upd Ha Tz (.tup [])) a (ns.map V.int) := by
        have bE' := bE.trans (But.of sz)
        rcases hS0 with (h | ⟨o, h⟩) | h
        · exact .inl (.inl (bE' _ _ (ne_of_none h np) h))
        · exact .inl (.inr ⟨o, bE' _ _ (ne_of_none h np) h⟩)
        · exact .inr h
      refine ite2 (fun c => ?_) (fun c => ?_)
      · have ez : zs = [] := by
          cases zs with
          | nil => rfl
          | cons z zs => cases c
        have eo := zemp ez
        refine ⟨_, rfl, _, rfl, _, _, .tup (.inl (.inl (sz _ _ e1E))) (dps _), .tup (.inl (.inl (sz _ _ e2E))) (dps _), shaped_ints _, shaped_ints _, _, rfl, iteFv ?_ ?_⟩
        · subst eo
          simp only [PyData.eqv]
          rw [eqv_ints, decide_eq_true rfl]
          rfl
        · exact ⟨⟨_, _, _, _, _, _, _, _, _, _, _, _, _, rfl⟩, endO⟩
      · exact ⟨⟨_, _, _, _, _, _, _, _, _, _, _, _, _, rfl⟩, endO⟩
    obtain ⟨⟨u9, u10, u11, u12, u13, rfl⟩, bE, ppE, hAE, hpE, e1E, e2E, hRE⟩ := y
    obtain ⟨rfl, rfl⟩ := z
    dsimp only [List.set]
    refine ⟨_, rfl, _, rfl, _, rfl, _, rfl, p, pd, o1, o2, tops, one, two, rs, hs, nds, _, rfl, ppE, by omega, hAE, e1E, e2E, l12, lo1, lo2, p1, p2, rok, lR, Dn.cuts, E.N, fun Hc D as ts bc ppc eD ra few g => ?_⟩
    have kc := Keep.but bc ppE
    have e1c := kc.tup e1E
    have e2c := kc.tup e2E
    have hpc := hpE.keep kc
    have hAc := hAE.keep kc
    have hRc : RunsAt Hc pr (zs.map rw3) := by
      obtain ⟨bs, eb, rb⟩ := hRE
      exact ⟨bs, kc.tup eb, rb.keep kc⟩
    have bEc := bE.trans bc
    have las : as.length = ts.length := by
      have := ra.1
      rwa [List.length_map] at this
    dsimp only [List.set]
    refine ⟨_, rfl, _, rfl, _, rfl, D, rfl, ⟨_, .inl (.inl eD)⟩, fun D2 nD2 => ?_⟩
    refine lc_it (walk_list (xs := as.map V.ref)) (fun m H' => Same Hc H' ∧ ∃ bs : List Addr, H' D2 = some (.lst (bs.map V.ref)) ∧ RnL H' bs ((ts.take m).map rwT)) ⟨same_new nD2, [], upd_same, RnL.nil _⟩ (fun m H' _ y => .inl (.inl (y.1 _ _ eD))) (fun m v Hd He hm y z => ?_) (fun Hd y => ?_)
    · obtain ⟨sd, bs, eD2, rb⟩ := y
      obtain ⟨rfl, gv⟩ := z
      obtain ⟨r, er, rfl⟩ := mapGet gv
      have hm' : m < as.length := by simpa using hm
      have hw : m < ts.length := by omega
      have rr := sd _ _ (ra.2 m r (rw3 ts[m]) er (by rw [List.getElem?_map, List.getElem?_eq_getElem hw]; rfl))
      have rr' : He r = some (.tup [.int (ts[m].1 : Int), .int ts[m].2.1, .int ts[m].2.2]) := rr
      refine ⟨r, _, rfl, .inl (.inl rr'), rfl, _, _, rfl, _, _, rfl, _, _, rfl, rfl, wipe_seq3, ?_⟩
      refine ⟨_, rfl, _, rfl, (show 2 ≤ sizeLine by decide), fun T nT => ?_⟩
      have sT := same_new (o := HO.tup [V.int (ts[m].1 : Int), V.int ts[m].2.2]) nT
      have lb : bs.length = m := by
        have := rb.1
        rw [List.length_map, List.length_take] at this
        omega
      refine ⟨_, sT _ _ eD2, by rw [List.length_map]; exact small1000 (by omega), same_over (sd.trans sT) nD2, bs ++ [T], by rw [upd_same, List.map_append]; rfl, ?_⟩
      rw [List.take_add_one, List.getElem?_eq_getElem hw, List.map_append]
      exact rb.snoc ((Keep.same sT).trans (.upd (sT _ _ eD2))) ((Keep.upd (sT _ _ eD2)).tup upd_same)
    obtain ⟨sd, bs, eD2, rb⟩ := y
    rw [List.length_map, las, List.take_length] at rb
    refine ⟨D2, _, rfl, .inl ⟨.inl (.inl eD2), fun tr ntr => ?_⟩⟩
    have str := same_new (o := HO.tup (bs.map V.ref)) ntr
    have sc := sd.trans str
    refine ⟨x, o1, tr, tops, one, two, rs, _, rfl, hpc.keep (.same sc), sc _ _ e1c, rows_T upd_same (rb.same str), goes_gw rok E.N g1 g2 g.goes, g1, rok, l12, by omega, fun Hf gg sf eg => ?_⟩
    have scf := sc.trans sf
    refine ⟨_, rfl, _, _, .tup (.inl (.inl eg)) (dps _), .tup (.inl (.inl (scf _ _ e2c))) (dps _), shaped_ints _, shaped_ints _, _, rfl, iteFv ?_ ?_⟩
    · simp only [PyData.eqv]
      rw [eqv_ints, decide_eq_true rfl]
      rfl
    refine ⟨_, rfl, _, rfl, D, pr, as, one, two, nds, ts, zs, rfl, scf _ _ eD, ra.same scf, few, g, lo21, E.N.ok, hRc.same scf, fewz, zst, zdue, fun Hg sg => ⟨true, rfl, iteF ?_⟩⟩
    have scg := scf.trans sg
    exact ⟨⟨_, _, _, _, _, rfl⟩, bEc.trans (But.of scg), (ppc.keep scg).mono (by omega), hAc.keep (.same scg), hpc.keep (.same scg), scg _ _ e1c, scg _ _ e2c, hRc.same scg⟩
end
end K49

set_option Elab.async false
set_option linter.all false
set_option maxRecDepth 100000
namespace K49
open PySem PySem.Spec PyProof.Rows L2 NB
set_option maxHeartbeats 8000000 in
theorem all_mk {l : PySem.W.OpenLaw} {w : World} {K : PySem.W.Frag} {h : Heap} {mg : Str → Option Value} {fa : Addr} (X : K.In h) (G : h.Ns mainGlobals mg) (hfa : mg "law" = some (.ref fa))
    {f1 : Addr} {od1 an1 : Option Addr} {sl1 : Array (Option Value)} {oc1 kV1 dc1 pm1 cd1 ct1 : Value}
    {f2 : Addr} {od2 an2 : Option Addr} {sl2 : Array (Option Value)} {oc2 kV2 dc2 pm2 cd2 ct2 : Value}
    {f3 : Addr} {od3 an3 : Option Addr} {sl3 : Array (Option Value)} {oc3 kV3 dc3 pm3 cd3 ct3 : Value}
    {f4 : Addr} {od4 an4 : Option Addr} {sl4 : Array (Option Value)} {oc4 kV4 dc4 pm4 cd4 ct4 : Value}
    {f5 : Addr} {od5 an5 : Option Addr} {sl5 : Array (Option Value)} {oc5 kV5 dc5 pm5 cd5 ct5 : Value}
    {f6 : Addr} {od6 an6 : Option Addr} {sl6 : Array (Option Value)} {oc6 kV6 dc6 pm6 cd6 ct6 : Value}
    {f7 : Addr} {od7 an7 : Option Addr} {sl7 : Array (Option Value)} {oc7 kV7 dc7 pm7 cd7 ct7 : Value}
    {f8 : Addr} {od8 an8 : Option Addr} {sl8 : Array (Option Value)} {oc8 kV8 dc8 pm8 cd8 ct8 : Value}
    {f9 : Addr} {od9 an9 : Option Addr} {sl9 : Array (Option Value)} {oc9 kV9 dc9 pm9 cd9 ct9 : Value}
    {f10 : Addr} {od10 an10 : Option Addr} {sl10 : Array (Option Value)} {oc10 kV10 dc10 pm10 cd10 ct10 : Value}
    {f11 : Addr} {od11 an11 : Option Addr} {sl11 : Array (Option Value)} {oc11 kV11 dc11 pm11 cd11 ct11 : Value}
    {f12 : Addr} {od12 an12 : Option Addr} {sl12 : Array (Option Value)} {oc12 kV12 dc12 pm12 cd12 ct12 : Value}
    {f13 : Addr} {od13 an13 : Option Addr} {sl13 : Array (Option Value)} {oc13 kV13 dc13 pm13 cd13 ct13 : Value}
    {f14 : Addr} {od14 an14 : Option Addr} {sl14 : Array (Option Value)} {oc14 kV14 dc14 pm14 cd14 ct14 : Value}
    {f15 : Addr} {od15 an15 : Option Addr} {sl15 : Array (Option Value)} {oc15 kV15 dc15 pm15 cd15 ct15 : Value}
    {f16 : Addr} {od16 an16 : Option Addr} {sl16 : Array (Option Value)} {oc16 kV16 dc16 pm16 cd16 ct16 : Value}
    {f17 : Addr} {od17 an17 : Option Addr} {sl17 : Array (Option Value)} {oc17 kV17 dc17 pm17 cd17 ct17 : Value}
    {f18 : Addr} {od18 an18 : Option Addr} {sl18 : Array (Option Value)} {oc18 kV18 dc18 pm18 cd18 ct18 : Value}
    {f19 : Addr} {od19 an19 : Option Addr} {sl19 : Array (Option Value)} {oc19 kV19 dc19 pm19 cd19 ct19 : Value}
    {f20 : Addr} {od20 an20 : Option Addr} {sl20 : Array (Option Value)} {oc20 kV20 dc20 pm20 cd20 ct20 : Value}
    {f21 : Addr} {od21 an21 : Option Addr} {sl21 : Array (Option Value)} {oc21 kV21 dc21 pm21 cd21 ct21 : Value}
    {f22 : Addr} {od22 an22 : Option Addr} {sl22 : Array (Option Value)} {oc22 kV22 dc22 pm22 cd22 ct22 : Value}
    {f23 : Addr} {od23 an23 : Option Addr} {sl23 : Array (Option Value)} {oc23 kV23 dc23 pm23 cd23 ct23 : Value}
    {f24 : Addr} {od24 an24 : Option Addr} {sl24 : Array (Option Value)} {oc24 kV24 dc24 pm24 cd24 ct24 : Value}
    {f25 : Addr} {od25 an25 : Option Addr} {sl25 : Array (Option Value)} {oc25 kV25 dc25 pm25 cd25 ct25 : Value}
    {f26 : Addr} {od26 an26 : Option Addr} {sl26 : Array (Option Value)} {oc26 kV26 dc26 pm26 cd26 ct26 : Value}
    {f27 : Addr} {od27 an27 : Option Addr} {sl27 : Array (Option Value)} {oc27 kV27 dc27 pm27 cd27 ct27 : Value}
    {f28 : Addr} {od28 an28 : Option Addr} {sl28 : Array (Option Value)} {oc28 kV28 dc28 pm28 cd28 ct28 : Value}
    {f29 : Addr} {od29 an29 : Option Addr} {sl29 : Array (Option Value)} {oc29 kV29 dc29 pm29 cd29 ct29 : Value}
    {f30 : Addr} {od30 an30 : Option Addr} {sl30 : Array (Option Value)} {oc30 kV30 dc30 pm30 cd30 ct30 : Value}
    {f31 : Addr} {od31 an31 : Option Addr} {sl31 : Array (Option Value)} {oc31 kV31 dc31 pm31 cd31 ct31 : Value}
    {f32 : Addr} {od32 an32 : Option Addr} {sl32 : Array (Option Value)} {oc32 kV32 dc32 pm32 cd32 ct32 : Value}
    {f33 : Addr} {od33 an33 : Option Addr} {sl33 : Array (Option Value)} {oc33 kV33 dc33 pm33 cd33 ct33 : Value}
    {f34 : Addr} {od34 an34 : Option Addr} {sl34 : Array (Option Value)} {oc34 kV34 dc34 pm34 cd34 ct34 : Value}
    {f35 : Addr} {od35 an35 : Option Addr} {sl35 : Array (Option Value)} {oc35 kV35 dc35 pm35 cd35 ct35 : Value}
    {f36 : Addr} {od36 an36 : Option Addr} {sl36 : Array (Option Value)} {oc36 kV36 dc36 pm36 cd36 ct36 : Value}
    {f37 : Addr} {od37 an37 : Option Addr} {sl37 : Array (Option Value)} {oc37 kV37 dc37 pm37 cd37 ct37 : Value}
    {f38 : Addr} {od38 an38 : Option Addr} {sl38 : Array (Option Value)} {oc38 kV38 dc38 pm38 cd38 ct38 : Value}
    {f39 : Addr} {od39 an39 : Option Addr} {sl39 : Array (Option Value)} {oc39 kV39 dc39 pm39 cd39 ct39 : Value}
    {f40 : Addr} {od40 an40 : Option Addr} {sl40 : Array (Option Value)} {oc40 kV40 dc40 pm40 cd40 ct40 : Value}
    {f41 : Addr} {od41 an41 : Option Addr} {sl41 : Array (Option Value)} {oc41 kV41 dc41 pm41 cd41 ct41 : Value}
    {f42 : Addr} {od42 an42 : Option Addr} {sl42 : Array (Option Value)} {oc42 kV42 dc42 pm42 cd42 ct42 : Value}
    {f43 : Addr} {od43 an43 : Option Addr} {sl43 : Array (Option Value)} {oc43 kV43 dc43 pm43 cd43 ct43 : Value}
    {f44 : Addr} {od44 an44 : Option Addr} {sl44 : Array (Option Value)} {oc44 kV44 dc44 pm44 cd44 ct44 : Value}
    {f45 : Addr} {od45 an45 : Option Addr} {sl45 : Array (Option Value)} {oc45 kV45 dc45 pm45 cd45 ct45 : Value}
    {f46 : Addr} {od46 an46 : Option Addr} {sl46 : Array (Option Value)} {oc46 kV46 dc46 pm46 cd46 ct46 : Value}
    {C f0 Td e0 wa : Addr} {od0 an0 odT odW : Option Addr} {sl0 slT slW : Array (Option Value)} {oc0 kV0 dc0 pm0 cd0 ct0 ocT : Value} {nT nW : Nat} {tk1 tk2 tk3 tk4 tk5 : Tok}
    (a1 : PySem.W.nsIn K mainGlobals "is_whole" = some (some (.ref f1)))
    (l1 : K.lookup f1 = some ⟨oc1, od1, .func (PySem.W.fnOf "is_whole" "is_whole" (defArgs kWhole) (defBody kWhole) (defScope kWhole) .none kV1 dc1 pm1 an1 cd1 ct1), sl1⟩)
    (c1 : PySem.W.codeIn K cd1 "is_whole" = true) (k1 : PySem.W.keepIn K (.ref f1) = true)
    (a2 : PySem.W.nsIn K mainGlobals "is_place" = some (some (.ref f2)))
    (l2 : K.lookup f2 = some ⟨oc2, od2, .func (PySem.W.fnOf "is_place" "is_place" (defArgs kPlace) (defBody kPlace) (defScope kPlace) .none kV2 dc2 pm2 an2 cd2 ct2), sl2⟩)
    (c2 : PySem.W.codeIn K cd2 "is_place" = true) (k2 : PySem.W.keepIn K (.ref f2) = true)
    (a3 : PySem.W.nsIn K mainGlobals "are_tops" = some (some (.ref f3)))
    (l3 : K.lookup f3 = some ⟨oc3, od3, .func (PySem.W.fnOf "are_tops" "are_tops" (defArgs kTops) (defBody kTops) (defScope kTops) .none kV3 dc3 pm3 an3 cd3 ct3), sl3⟩)
    (c3 : PySem.W.codeIn K cd3 "are_tops" = true) (k3 : PySem.W.keepIn K (.ref f3) = true)
    (a4 : PySem.W.nsIn K mainGlobals "is_side_of" = some (some (.ref f4)))
    (l4 : K.lookup f4 = some ⟨oc4, od4, .func (PySem.W.fnOf "is_side_of" "is_side_of" (defArgs kSide) (defBody kSide) (defScope kSide) .none kV4 dc4 pm4 an4 cd4 ct4), sl4⟩)
    (c4 : PySem.W.codeIn K cd4 "is_side_of" = true) (k4 : PySem.W.keepIn K (.ref f4) = true)
    (a5 : PySem.W.nsIn K mainGlobals "are_sides_of" = some (some (.ref f5)))
    (l5 : K.lookup f5 = some ⟨oc5, od5, .func (PySem.W.fnOf "are_sides_of" "are_sides_of" (defArgs kSides) (defBody kSides) (defScope kSides) .none kV5 dc5 pm5 an5 cd5 ct5), sl5⟩)
    (c5 : PySem.W.codeIn K cd5 "are_sides_of" = true) (k5 : PySem.W.keepIn K (.ref f5) = true)
    (a6 : PySem.W.nsIn K mainGlobals "is_rule_of" = some (some (.ref f6)))
    (l6 : K.lookup f6 = some ⟨oc6, od6, .func (PySem.W.fnOf "is_rule_of" "is_rule_of" (defArgs kRule) (defBody kRule) (defScope kRule) .none kV6 dc6 pm6 an6 cd6 ct6), sl6⟩)
    (c6 : PySem.W.codeIn K cd6 "is_rule_of" = true) (k6 : PySem.W.keepIn K (.ref f6) = true)
    (a7 : PySem.W.nsIn K mainGlobals "are_rules_of" = some (some (.ref f7)))
    (l7 : K.lookup f7 = some ⟨oc7, od7, .func (PySem.W.fnOf "are_rules_of" "are_rules_of" (defArgs kRules) (defBody kRules) (defScope kRules) .none kV7 dc7 pm7 an7 cd7 ct7), sl7⟩)
    (c7 : PySem.W.codeIn K cd7 "are_rules_of" = true) (k7 : PySem.W.keepIn K (.ref f7) = true)
    (a8 : PySem.W.nsIn K mainGlobals "is_in" = some (some (.ref f8)))
    (l8 : K.lookup f8 = some ⟨oc8, od8, .func (PySem.W.fnOf "is_in" "is_in" (defArgs kIn) (defBody kIn) (defScope kIn) .none kV8 dc8 pm8 an8 cd8 ct8), sl8⟩)
    (c8 : PySem.W.codeIn K cd8 "is_in" = true) (k8 : PySem.W.keepIn K (.ref f8) = true)
    (a9 : PySem.W.nsIn K mainGlobals "gone_at" = some (some (.ref f9)))
    (l9 : K.lookup f9 = some ⟨oc9, od9, .func (PySem.W.fnOf "gone_at" "gone_at" (defArgs kGone) (defBody kGone) (defScope kGone) .none kV9 dc9 pm9 an9 cd9 ct9), sl9⟩)
    (c9 : PySem.W.codeIn K cd9 "gone_at" = true) (k9 : PySem.W.keepIn K (.ref f9) = true)
    (a10 : PySem.W.nsIn K mainGlobals "place_after" = some (some (.ref f10)))
    (l10 : K.lookup f10 = some ⟨oc10, od10, .func (PySem.W.fnOf "place_after" "place_after" (defArgs a_place_after) (defBody a_place_after) (defScope a_place_after) .none kV10 dc10 pm10 an10 cd10 ct10), sl10⟩)
    (c10 : PySem.W.codeIn K cd10 "place_after" = true) (k10 : PySem.W.keepIn K (.ref f10) = true)
    (a11 : PySem.W.nsIn K mainGlobals "all_steps" = some (some (.ref f11)))
    (l11 : K.lookup f11 = some ⟨oc11, od11, .func (PySem.W.fnOf "all_steps" "all_steps" (defArgs a_all_steps) (defBody a_all_steps) (defScope a_all_steps) .none kV11 dc11 pm11 an11 cd11 ct11), sl11⟩)
    (c11 : PySem.W.codeIn K cd11 "all_steps" = true) (k11 : PySem.W.keepIn K (.ref f11) = true)
    (a12 : PySem.W.nsIn K mainGlobals "is_left" = some (some (.ref f12)))
    (l12 : K.lookup f12 = some ⟨oc12, od12, .func (PySem.W.fnOf "is_left" "is_left" (defArgs kLeft) (defBody kLeft) (defScope kLeft) .none kV12 dc12 pm12 an12 cd12 ct12), sl12⟩)
    (c12 : PySem.W.codeIn K cd12 "is_left" = true) (k12 : PySem.W.keepIn K (.ref f12) = true)
    (a13 : PySem.W.nsIn K mainGlobals "need_of" = some (some (.ref f13)))
    (l13 : K.lookup f13 = some ⟨oc13, od13, .func (PySem.W.fnOf "need_of" "need_of" (defArgs kNeed) (defBody kNeed) (defScope kNeed) .none kV13 dc13 pm13 an13 cd13 ct13), sl13⟩)
    (c13 : PySem.W.codeIn K cd13 "need_of" = true) (k13 : PySem.W.keepIn K (.ref f13) = true)
    (a14 : PySem.W.nsIn K mainGlobals "needs" = some (some (.ref f14)))
    (l14 : K.lookup f14 = some ⟨oc14, od14, .func (PySem.W.fnOf "needs" "needs" (defArgs kNeeds) (defBody kNeeds) (defScope kNeeds) .none kV14 dc14 pm14 an14 cd14 ct14), sl14⟩)
    (c14 : PySem.W.codeIn K cd14 "needs" = true) (k14 : PySem.W.keepIn K (.ref f14) = true)
    (a15 : PySem.W.nsIn K mainGlobals "is_met" = some (some (.ref f15)))
    (l15 : K.lookup f15 = some ⟨oc15, od15, .func (PySem.W.fnOf "is_met" "is_met" (defArgs kMet) (defBody kMet) (defScope kMet) .none kV15 dc15 pm15 an15 cd15 ct15), sl15⟩)
    (c15 : PySem.W.codeIn K cd15 "is_met" = true) (k15 : PySem.W.keepIn K (.ref f15) = true)
    (a16 : PySem.W.nsIn K mainGlobals "end_of" = some (some (.ref f16)))
    (l16 : K.lookup f16 = some ⟨oc16, od16, .func (PySem.W.fnOf "end_of" "end_of" (defArgs kEnd) (defBody kEnd) (defScope kEnd) .none kV16 dc16 pm16 an16 cd16 ct16), sl16⟩)
    (c16 : PySem.W.codeIn K cd16 "end_of" = true) (k16 : PySem.W.keepIn K (.ref f16) = true)
    (a17 : PySem.W.nsIn K mainGlobals "rows_towards" = some (some (.ref f17)))
    (l17 : K.lookup f17 = some ⟨oc17, od17, .func (PySem.W.fnOf "rows_towards" "rows_towards" (defArgs kRows) (defBody kRows) (defScope kRows) .none kV17 dc17 pm17 an17 cd17 ct17), sl17⟩)
    (c17 : PySem.W.codeIn K cd17 "rows_towards" = true) (k17 : PySem.W.keepIn K (.ref f17) = true)
    (a18 : PySem.W.nsIn K mainGlobals "holding" = some (some (.ref f18)))
    (l18 : K.lookup f18 = some ⟨oc18, od18, .func (PySem.W.fnOf "holding" "holding" (defArgs kHold) (defBody kHold) (defScope kHold) .none kV18 dc18 pm18 an18 cd18 ct18), sl18⟩)
    (c18 : PySem.W.codeIn K cd18 "holding" = true) (k18 : PySem.W.keepIn K (.ref f18) = true)
    (a19 : PySem.W.nsIn K mainGlobals "ring_at" = some (some (.ref f19)))
    (l19 : K.lookup f19 = some ⟨oc19, od19, .func (PySem.W.fnOf "ring_at" "ring_at" (defArgs kRing) (defBody kRing) (defScope kRing) .none kV19 dc19 pm19 an19 cd19 ct19), sl19⟩)
    (c19 : PySem.W.codeIn K cd19 "ring_at" = true) (k19 : PySem.W.keepIn K (.ref f19) = true)
    (a20 : PySem.W.nsIn K mainGlobals "way" = some (some (.ref f20)))
    (l20 : K.lookup f20 = some ⟨oc20, od20, .func (PySem.W.fnOf "way" "way" (defArgs kWay) (defBody kWay) (defScope kWay) .none kV20 dc20 pm20 an20 cd20 ct20), sl20⟩)
    (c20 : PySem.W.codeIn K cd20 "way" = true) (k20 : PySem.W.keepIn K (.ref f20) = true)
    (a21 : PySem.W.nsIn K mainGlobals "way_or_refusal" = some (some (.ref f21)))
    (l21 : K.lookup f21 = some ⟨oc21, od21, .func (PySem.W.fnOf "way_or_refusal" "way_or_refusal" (defArgs a_way_or_refusal) (defBody a_way_or_refusal) (defScope a_way_or_refusal) .none kV21 dc21 pm21 an21 cd21 ct21), sl21⟩)
    (c21 : PySem.W.codeIn K cd21 "way_or_refusal" = true) (k21 : PySem.W.keepIn K (.ref f21) = true)
    (a22 : PySem.W.nsIn K mainGlobals "comes_with" = some (some (.ref f22)))
    (l22 : K.lookup f22 = some ⟨oc22, od22, .func (PySem.W.fnOf "comes_with" "comes_with" (defArgs a_comes_with) (defBody a_comes_with) (defScope a_comes_with) .none kV22 dc22 pm22 an22 cd22 ct22), sl22⟩)
    (c22 : PySem.W.codeIn K cd22 "comes_with" = true) (k22 : PySem.W.keepIn K (.ref f22) = true)
    (a23 : PySem.W.nsIn K mainGlobals "counted" = some (some (.ref f23)))
    (l23 : K.lookup f23 = some ⟨oc23, od23, .func (PySem.W.fnOf "counted" "counted" (defArgs a_counted) (defBody a_counted) (defScope a_counted) .none kV23 dc23 pm23 an23 cd23 ct23), sl23⟩)
    (c23 : PySem.W.codeIn K cd23 "counted" = true) (k23 : PySem.W.keepIn K (.ref f23) = true)
    (a24 : PySem.W.nsIn K mainGlobals "earliest" = some (some (.ref f24)))
    (l24 : K.lookup f24 = some ⟨oc24, od24, .func (PySem.W.fnOf "earliest" "earliest" (defArgs a_earliest) (defBody a_earliest) (defScope a_earliest) .none kV24 dc24 pm24 an24 cd24 ct24), sl24⟩)
    (c24 : PySem.W.codeIn K cd24 "earliest" = true) (k24 : PySem.W.keepIn K (.ref f24) = true)
    (a25 : PySem.W.nsIn K mainGlobals "latest" = some (some (.ref f25)))
    (l25 : K.lookup f25 = some ⟨oc25, od25, .func (PySem.W.fnOf "latest" "latest" (defArgs a_latest) (defBody a_latest) (defScope a_latest) .none kV25 dc25 pm25 an25 cd25 ct25), sl25⟩)
    (c25 : PySem.W.codeIn K cd25 "latest" = true) (k25 : PySem.W.keepIn K (.ref f25) = true)
    (a26 : PySem.W.nsIn K mainGlobals "held_by" = some (some (.ref f26)))
    (l26 : K.lookup f26 = some ⟨oc26, od26, .func (PySem.W.fnOf "held_by" "held_by" (defArgs a_held_by) (defBody a_held_by) (defScope a_held_by) .none kV26 dc26 pm26 an26 cd26 ct26), sl26⟩)
    (c26 : PySem.W.codeIn K cd26 "held_by" = true) (k26 : PySem.W.keepIn K (.ref f26) = true)
    (a27 : PySem.W.nsIn K mainGlobals "waits" = some (some (.ref f27)))
    (l27 : K.lookup f27 = some ⟨oc27, od27, .func (PySem.W.fnOf "waits" "waits" (defArgs a_waits) (defBody a_waits) (defScope a_waits) .none kV27 dc27 pm27 an27 cd27 ct27), sl27⟩)
    (c27 : PySem.W.codeIn K cd27 "waits" = true) (k27 : PySem.W.keepIn K (.ref f27) = true)
    (a28 : PySem.W.nsIn K mainGlobals "moved" = some (some (.ref f28)))
    (l28 : K.lookup f28 = some ⟨oc28, od28, .func (PySem.W.fnOf "moved" "moved" (defArgs a_moved) (defBody a_moved) (defScope a_moved) .none kV28 dc28 pm28 an28 cd28 ct28), sl28⟩)
    (c28 : PySem.W.codeIn K cd28 "moved" = true) (k28 : PySem.W.keepIn K (.ref f28) = true)
    (a29 : PySem.W.nsIn K mainGlobals "is_row" = some (some (.ref f29)))
    (l29 : K.lookup f29 = some ⟨oc29, od29, .func (PySem.W.fnOf "is_row" "is_row" (defArgs a_is_row) (defBody a_is_row) (defScope a_is_row) .none kV29 dc29 pm29 an29 cd29 ct29), sl29⟩)
    (c29 : PySem.W.codeIn K cd29 "is_row" = true) (k29 : PySem.W.keepIn K (.ref f29) = true)
    (a30 : PySem.W.nsIn K mainGlobals "out_places" = some (some (.ref f30)))
    (l30 : K.lookup f30 = some ⟨oc30, od30, .func (PySem.W.fnOf "out_places" "out_places" (defArgs a_out_places) (defBody a_out_places) (defScope a_out_places) .none kV30 dc30 pm30 an30 cd30 ct30), sl30⟩)
    (c30 : PySem.W.codeIn K cd30 "out_places" = true) (k30 : PySem.W.keepIn K (.ref f30) = true)
    (a31 : PySem.W.nsIn K mainGlobals "is_kept_along" = some (some (.ref f31)))
    (l31 : K.lookup f31 = some ⟨oc31, od31, .func (PySem.W.fnOf "is_kept_along" "is_kept_along" (defArgs a_is_kept_along) (defBody a_is_kept_along) (defScope a_is_kept_along) .none kV31 dc31 pm31 an31 cd31 ct31), sl31⟩)
    (c31 : PySem.W.codeIn K cd31 "is_kept_along" = true) (k31 : PySem.W.keepIn K (.ref f31) = true)
    (a32 : PySem.W.nsIn K mainGlobals "can_go" = some (some (.ref f32)))
    (l32 : K.lookup f32 = some ⟨oc32, od32, .func (PySem.W.fnOf "can_go" "can_go" (defArgs a_can_go) (defBody a_can_go) (defScope a_can_go) .none kV32 dc32 pm32 an32 cd32 ct32), sl32⟩)
    (c32 : PySem.W.codeIn K cd32 "can_go" = true) (k32 : PySem.W.keepIn K (.ref f32) = true)
    (a33 : PySem.W.nsIn K mainGlobals "walked" = some (some (.ref f33)))
    (l33 : K.lookup f33 = some ⟨oc33, od33, .func (PySem.W.fnOf "walked" "walked" (defArgs a_walked) (defBody a_walked) (defScope a_walked) .none kV33 dc33 pm33 an33 cd33 ct33), sl33⟩)
    (c33 : PySem.W.codeIn K cd33 "walked" = true) (k33 : PySem.W.keepIn K (.ref f33) = true)
    (a34 : PySem.W.nsIn K mainGlobals "_law_pot" = some (some (.ref f34)))
    (l34 : K.lookup f34 = some ⟨oc34, od34, .func (PySem.W.fnOf "_law_pot" "_law_pot" (defArgs sPot) (defBody sPot) (defScope sPot) .none kV34 dc34 pm34 an34 cd34 ct34), sl34⟩)
    (c34 : PySem.W.codeIn K cd34 "_law_pot" = true) (k34 : PySem.W.keepIn K (.ref f34) = true)
    (a35 : PySem.W.nsIn K mainGlobals "_law_take" = some (some (.ref f35)))
    (l35 : K.lookup f35 = some ⟨oc35, od35, .func (PySem.W.fnOf "_law_take" "_law_take" (defArgs sTake) (defBody sTake) (defScope sTake) .none kV35 dc35 pm35 an35 cd35 ct35), sl35⟩)
    (c35 : PySem.W.codeIn K cd35 "_law_take" = true) (k35 : PySem.W.keepIn K (.ref f35) = true)
    (a36 : PySem.W.nsIn K mainGlobals "_law_of" = some (some (.ref f36)))
    (l36 : K.lookup f36 = some ⟨oc36, od36, .func (PySem.W.fnOf "_law_of" "_law_of" (defArgs sOf) (defBody sOf) (defScope sOf) .none kV36 dc36 pm36 an36 cd36 ct36), sl36⟩)
    (c36 : PySem.W.codeIn K cd36 "_law_of" = true) (k36 : PySem.W.keepIn K (.ref f36) = true)
    (a37 : PySem.W.nsIn K mainGlobals "_law_standing" = some (some (.ref f37)))
    (l37 : K.lookup f37 = some ⟨oc37, od37, .func (PySem.W.fnOf "_law_standing" "_law_standing" (defArgs sStand) (defBody sStand) (defScope sStand) .none kV37 dc37 pm37 an37 cd37 ct37), sl37⟩)
    (c37 : PySem.W.codeIn K cd37 "_law_standing" = true) (k37 : PySem.W.keepIn K (.ref f37) = true)
    (a38 : PySem.W.nsIn K mainGlobals "_law_is_in" = some (some (.ref f38)))
    (l38 : K.lookup f38 = some ⟨oc38, od38, .func (PySem.W.fnOf "_law_is_in" "_law_is_in" (defArgs aIn) (defBody aIn) (defScope aIn) .none kV38 dc38 pm38 an38 cd38 ct38), sl38⟩)
    (c38 : PySem.W.codeIn K cd38 "_law_is_in" = true) (k38 : PySem.W.keepIn K (.ref f38) = true)
    (a39 : PySem.W.nsIn K mainGlobals "_law_needs" = some (some (.ref f39)))
    (l39 : K.lookup f39 = some ⟨oc39, od39, .func (PySem.W.fnOf "_law_needs" "_law_needs" (defArgs aNeeds) (defBody aNeeds) (defScope aNeeds) .none kV39 dc39 pm39 an39 cd39 ct39), sl39⟩)
    (c39 : PySem.W.codeIn K cd39 "_law_needs" = true) (k39 : PySem.W.keepIn K (.ref f39) = true)
    (a40 : PySem.W.nsIn K mainGlobals "_law_long_tops" = some (some (.ref f40)))
    (l40 : K.lookup f40 = some ⟨oc40, od40, .func (PySem.W.fnOf "_law_long_tops" "_law_long_tops" (defArgs a__law_long_tops) (defBody a__law_long_tops) (defScope a__law_long_tops) .none kV40 dc40 pm40 an40 cd40 ct40), sl40⟩)
    (c40 : PySem.W.codeIn K cd40 "_law_long_tops" = true) (k40 : PySem.W.keepIn K (.ref f40) = true)
    (a41 : PySem.W.nsIn K mainGlobals "_law_done_rules" = some (some (.ref f41)))
    (l41 : K.lookup f41 = some ⟨oc41, od41, .func (PySem.W.fnOf "_law_done_rules" "_law_done_rules" (defArgs a__law_done_rules) (defBody a__law_done_rules) (defScope a__law_done_rules) .none kV41 dc41 pm41 an41 cd41 ct41), sl41⟩)
    (c41 : PySem.W.codeIn K cd41 "_law_done_rules" = true) (k41 : PySem.W.keepIn K (.ref f41) = true)
    (a42 : PySem.W.nsIn K mainGlobals "_law_reach" = some (some (.ref f42)))
    (l42 : K.lookup f42 = some ⟨oc42, od42, .func (PySem.W.fnOf "_law_reach" "_law_reach" (defArgs a__law_reach) (defBody a__law_reach) (defScope a__law_reach) .none kV42 dc42 pm42 an42 cd42 ct42), sl42⟩)
    (c42 : PySem.W.codeIn K cd42 "_law_reach" = true) (k42 : PySem.W.keepIn K (.ref f42) = true)
    (a43 : PySem.W.nsIn K mainGlobals "_law_drawn_way" = some (some (.ref f43)))
    (l43 : K.lookup f43 = some ⟨oc43, od43, .func (PySem.W.fnOf "_law_drawn_way" "_law_drawn_way" (defArgs a__law_drawn_way) (defBody a__law_drawn_way) (defScope a__law_drawn_way) .none kV43 dc43 pm43 an43 cd43 ct43), sl43⟩)
    (c43 : PySem.W.codeIn K cd43 "_law_drawn_way" = true) (k43 : PySem.W.keepIn K (.ref f43) = true)
    (a44 : PySem.W.nsIn K mainGlobals "_law_row_of" = some (some (.ref f44)))
    (l44 : K.lookup f44 = some ⟨oc44, od44, .func (PySem.W.fnOf "_law_row_of" "_law_row_of" (defArgs a__law_row_of) (defBody a__law_row_of) (defScope a__law_row_of) .none kV44 dc44 pm44 an44 cd44 ct44), sl44⟩)
    (c44 : PySem.W.codeIn K cd44 "_law_row_of" = true) (k44 : PySem.W.keepIn K (.ref f44) = true)
    (a45 : PySem.W.nsIn K mainGlobals "_law_in_order" = some (some (.ref f45)))
    (l45 : K.lookup f45 = some ⟨oc45, od45, .func (PySem.W.fnOf "_law_in_order" "_law_in_order" (defArgs a__law_in_order) (defBody a__law_in_order) (defScope a__law_in_order) .none kV45 dc45 pm45 an45 cd45 ct45), sl45⟩)
    (c45 : PySem.W.codeIn K cd45 "_law_in_order" = true) (k45 : PySem.W.keepIn K (.ref f45) = true)
    (a46 : PySem.W.nsIn K mainGlobals "law" = some (some (.ref f46)))
    (l46 : K.lookup f46 = some ⟨oc46, od46, .func (PySem.W.fnOf "law" "law" (defArgs a_law) (defBody a_law) (defScope a_law) .none kV46 dc46 pm46 an46 cd46 ct46), sl46⟩)
    (c46 : PySem.W.codeIn K cd46 "law" = true) (k46 : PySem.W.keepIn K (.ref f46) = true)
    (aC : PySem.W.nsIn K mainGlobals "Plan" = some (some (.ref C))) (aI : PySem.W.findIn K (.ref C) "__init__" = some (some (.ref f0))) (iI : PySem.W.isFn K (.ref f0) = true)
    (lI : K.lookup f0 = some ⟨oc0, od0, .func (PySem.W.fnOf "__init__" "Plan.__init__" (defArgs kInit) (defBody kInit) (defScope kInit) (.ref Td) kV0 dc0 pm0 an0 cd0 ct0), sl0⟩) (cI : PySem.W.codeIn K cd0 "Plan.__init__" = true) (kI : PySem.W.keepIn K (.ref f0) = true)
    (lT : K.lookup Td = some ⟨ocT, odT, .seq #[.ref e0] nT, slT⟩)
    (pg : PySem.W.plainGet K C Str.empty = true) (hd : PySem.W.hasDictIn K C = true) (po : PySem.W.plainOver K C = true) (sa : PySem.W.findIn K (.ref C) "__setattr__" = some (some (.builtin "object.__setattr__"))) (mk : PySem.W.makesIn K C = true) (kc : PySem.W.keepIn K (.ref C) = true)
    (nTo : PySem.W.findIn K (.ref C) "tops" = some none) (nRu : PySem.W.findIn K (.ref C) "rules" = some none)
    (v1 : PySem.W.nsIn K mainGlobals "MOST_THINGS" = some (some (.int 12 tk1))) (v2 : PySem.W.nsIn K mainGlobals "MOST_RULES" = some (some (.int 40 tk2))) (v3 : PySem.W.nsIn K mainGlobals "BEYOND_THIRTY_FIGURES" = some (some (.int 1000000000000000000000000000000 tk3)))
    (v4 : PySem.W.nsIn K mainGlobals "WORDS" = some (some (.ref wa))) (v5 : K.lookup wa = some ⟨.type "tuple", odW, .seq #[.str "from" tk4, .str "to" tk5] nW, slW⟩)
    {C_Knotted f_Knotted N_Knotted : Addr} {nm_Knotted q_Knotted : Str} {bs_Knotted bm_Knotted sub_Knotted : List Value} {sn_Knotted : List Str} {ab_Knotted : Bool} {col_Knotted : Option Bool} {dd_Knotted od_Knotted an_Knotted : Option Addr} {m0_Knotted m1_Knotted m2_Knotted m3_Knotted m5_Knotted : Option Value} {sl_Knotted : Array (Option Value)} {oc_Knotted kV_Knotted dc_Knotted pm_Knotted cd_Knotted ct_Knotted : Value}
    (a_Knotted : PySem.W.nsIn K mainGlobals "Knotted" = some (some (.ref C_Knotted)))
    (x_Knotted : K.lookup C_Knotted = some (excClassObj nm_Knotted q_Knotted C_Knotted N_Knotted bs_Knotted bm_Knotted true sn_Knotted sub_Knotted ab_Knotted col_Knotted dd_Knotted m0_Knotted m1_Knotted m2_Knotted m3_Knotted m5_Knotted "ValueError.__new__"))
    (r_Knotted : PySem.HandSPX.refsVE bm_Knotted = true)
    (sa_Knotted : PySem.W.findIn K (.ref C_Knotted) "__setattr__" = some (some (.builtin "object.__setattr__"))) (ga_Knotted : PySem.W.findIn K (.ref C_Knotted) "__getattribute__" = some (some (.builtin "BaseException.__getattribute__"))) (gg_Knotted : PySem.W.findIn K (.ref C_Knotted) "__getattr__" = some none) (nb_Knotted : PySem.W.findIn K (.ref C_Knotted) "ring" = some none)
    (i_Knotted : PySem.W.findIn K (.ref C_Knotted) "__init__" = some (some (.ref f_Knotted))) (t_Knotted : PySem.W.typeIn K (.ref f_Knotted) = some (.type "function"))
    (l_Knotted : K.lookup f_Knotted = some ⟨oc_Knotted, od_Knotted, .func (PySem.W.fnOf "__init__" "Knotted.__init__" (defArgs kI_Knotted) (defBody kI_Knotted) (defScope kI_Knotted) .none kV_Knotted dc_Knotted pm_Knotted an_Knotted cd_Knotted ct_Knotted), sl_Knotted⟩) (c_Knotted : PySem.W.codeIn K cd_Knotted "Knotted.__init__" = true) (kf_Knotted : PySem.W.keepIn K (.ref f_Knotted) = true)
    (kC_Knotted : PySem.W.keepIn K (.ref C_Knotted) = true) (e_Knotted : PySem.W.subIn K (.ref C_Knotted) (.type "BaseException") = some true) (ty_Knotted : PySem.W.typeIn K (.ref C_Knotted) = some (.type "type")) (hd_Knotted : PySem.W.hasDictIn K C_Knotted = true) (is_Knotted : PySem.W.isClsIn K C_Knotted = true) (ss_Knotted : PySem.W.subIn K (.ref C_Knotted) (.ref C_Knotted) = some true)
    (z1 : PySem.W.nsIn K mainGlobals "abs" = some none)
    (z2 : PySem.W.nsIn K mainGlobals "all" = some none)
    (z3 : PySem.W.nsIn K mainGlobals "bool" = some none)
    (z4 : PySem.W.nsIn K mainGlobals "enumerate" = some none)
    (z5 : PySem.W.nsIn K mainGlobals "int" = some none)
    (z6 : PySem.W.nsIn K mainGlobals "isinstance" = some none)
    (z7 : PySem.W.nsIn K mainGlobals "len" = some none)
    (z8 : PySem.W.nsIn K mainGlobals "list" = some none)
    (z9 : PySem.W.nsIn K mainGlobals "max" = some none)
    (z10 : PySem.W.nsIn K mainGlobals "min" = some none)
    (z11 : PySem.W.nsIn K mainGlobals "range" = some none)
    (z12 : PySem.W.nsIn K mainGlobals "set" = some none)
    (z13 : PySem.W.nsIn K mainGlobals "sorted" = some none)
    (z14 : PySem.W.nsIn K mainGlobals "str" = some none)
    (z15 : PySem.W.nsIn K mainGlobals "tuple" = some none)
    (z16 : PySem.W.nsIn K mainGlobals "zip" = some none)
    : ∃ fd : FuncData, (∀ (s : Shared) (v : Value), BindsTo s fd ⟨[v], []⟩ [("_law_script", v)]) ∧ ∀ base : Heap, K.In base → base.Ns mainGlobals mg → FnOk l.prog w K mg base CX0 10 fa fd ["_law_script"] (spLaw K) := by
  have e := hfa.symm.trans (PySem.W.mg_of X G a46)
  cases e
  have F1 := fun_mk (st := kWhole) l1 c1 k1
  have b1 := F1.binds (ps := ["thing"]) fun _ _ _ _ _ _ us hl => match us, hl with | [_], _ => rfl
  have g1 := PySem.W.mg_of X G a1
  have F2 := fun_mk (st := kPlace) l2 c2 k2
  have b2 := F2.binds (ps := ["top", "thing"]) fun _ _ _ _ _ _ us hl => match us, hl with | [_, _], _ => rfl
  have g2 := PySem.W.mg_of X G a2
  have F3 := fun_mk (st := kTops) l3 c3 k3
  have b3 := F3.binds (ps := ["thing"]) fun _ _ _ _ _ _ us hl => match us, hl with | [_], _ => rfl
  have g3 := PySem.W.mg_of X G a3
  have F4 := fun_mk (st := kSide) l4 c4 k4
  have b4 := F4.binds (ps := ["tops", "thing"]) fun _ _ _ _ _ _ us hl => match us, hl with | [_, _], _ => rfl
  have g4 := PySem.W.mg_of X G a4
  have F5 := fun_mk (st := kSides) l5 c5 k5
  have b5 := F5.binds (ps := ["tops", "thing"]) fun _ _ _ _ _ _ us hl => match us, hl with | [_, _], _ => rfl
  have g5 := PySem.W.mg_of X G a5
  have F6 := fun_mk (st := kRule) l6 c6 k6
  have b6 := F6.binds (ps := ["tops", "thing"]) fun _ _ _ _ _ _ us hl => match us, hl with | [_, _], _ => rfl
  have g6 := PySem.W.mg_of X G a6
  have F7 := fun_mk (st := kRules) l7 c7 k7
  have b7 := F7.binds (ps := ["tops", "thing"]) fun _ _ _ _ _ _ us hl => match us, hl with | [_, _], _ => rfl
  have g7 := PySem.W.mg_of X G a7
  have F8 := fun_mk (st := kIn) l8 c8 k8
  have b8 := F8.binds (ps := ["side", "standing"]) fun _ _ _ _ _ _ us hl => match us, hl with | [_, _], _ => rfl
  have g8 := PySem.W.mg_of X G a8
  have F9 := fun_mk (st := kGone) l9 c9 k9
  have b9 := F9.binds (ps := ["one", "other", "thing", "place"]) fun _ _ _ _ _ _ us hl => match us, hl with | [_, _, _, _], _ => rfl
  have g9 := PySem.W.mg_of X G a9
  have F10 := fun_mk (st := a_place_after) l10 c10 k10
  have b10 := F10.binds (ps := ["one", "other", "thing", "many"]) fun _ _ _ _ _ _ us hl => match us, hl with | [_, _, _, _], _ => rfl
  have g10 := PySem.W.mg_of X G a10
  have F11 := fun_mk (st := a_all_steps) l11 c11 k11
  have b11 := F11.binds (ps := ["one", "other", "thing"]) fun _ _ _ _ _ _ us hl => match us, hl with | [_, _, _], _ => rfl
  have g11 := PySem.W.mg_of X G a11
  have F12 := fun_mk (st := kLeft) l12 c12 k12
  have b12 := F12.binds (ps := ["side", "one", "other"]) fun _ _ _ _ _ _ us hl => match us, hl with | [_, _, _], _ => rfl
  have g12 := PySem.W.mg_of X G a12
  have F13 := fun_mk (st := kNeed) l13 c13 k13
  have b13 := F13.binds (ps := ["one", "other", "left", "entered"]) fun _ _ _ _ _ _ us hl => match us, hl with | [_, _, _, _], _ => rfl
  have g13 := PySem.W.mg_of X G a13
  have F14 := fun_mk (st := kNeeds) l14 c14 k14
  have b14 := F14.binds (ps := ["plan", "one", "other"]) fun _ _ _ _ _ _ us hl => match us, hl with | [_, _, _], _ => rfl
  have g14 := PySem.W.mg_of X G a14
  have F15 := fun_mk (st := kMet) l15 c15 k15
  have b15 := F15.binds (ps := ["one", "other", "here", "need"]) fun _ _ _ _ _ _ us hl => match us, hl with | [_, _, _, _], _ => rfl
  have g15 := PySem.W.mg_of X G a15
  have F16 := fun_mk (st := kEnd) l16 c16 k16
  have b16 := F16.binds (ps := ["one", "other", "asked", "here", "thing"]) fun _ _ _ _ _ _ us hl => match us, hl with | [_, _, _, _, _], _ => rfl
  have g16 := PySem.W.mg_of X G a16
  have F17 := fun_mk (st := kRows) l17 c17 k17
  have b17 := F17.binds (ps := ["one", "other", "asked"]) fun _ _ _ _ _ _ us hl => match us, hl with | [_, _, _], _ => rfl
  have g17 := PySem.W.mg_of X G a17
  have F18 := fun_mk (st := kHold) l18 c18 k18
  have b18 := F18.binds (ps := ["one", "other", "asked", "here", "thing"]) fun _ _ _ _ _ _ us hl => match us, hl with | [_, _, _, _, _], _ => rfl
  have g18 := PySem.W.mg_of X G a18
  have F19 := fun_mk (st := kRing) l19 c19 k19
  have b19 := F19.binds (ps := ["one", "other", "asked", "here"]) fun _ _ _ _ _ _ us hl => match us, hl with | [_, _, _, _], _ => rfl
  have g19 := PySem.W.mg_of X G a19
  have F20 := fun_mk (st := kWay) l20 c20 k20
  have b20 := F20.binds (ps := ["plan", "one", "other"]) fun _ _ _ _ _ _ us hl => match us, hl with | [_, _, _], _ => rfl
  have g20 := PySem.W.mg_of X G a20
  have F21 := fun_mk (st := a_way_or_refusal) l21 c21 k21
  have b21 := F21.binds (ps := ["plan", "one", "other"]) fun _ _ _ _ _ _ us hl => match us, hl with | [_, _, _], _ => rfl
  have g21 := PySem.W.mg_of X G a21
  have F22 := fun_mk (st := a_comes_with) l22 c22 k22
  have b22 := F22.binds (ps := ["legs", "many"]) fun _ _ _ _ _ _ us hl => match us, hl with | [_, _], _ => rfl
  have g22 := PySem.W.mg_of X G a22
  have F23 := fun_mk (st := a_counted) l23 c23 k23
  have b23 := F23.binds (ps := ["one", "other", "asked"]) fun _ _ _ _ _ _ us hl => match us, hl with | [_, _, _], _ => rfl
  have g23 := PySem.W.mg_of X G a23
  have F24 := fun_mk (st := a_earliest) l24 c24 k24
  have b24 := F24.binds (ps := ["plan", "one", "other"]) fun _ _ _ _ _ _ us hl => match us, hl with | [_, _, _], _ => rfl
  have g24 := PySem.W.mg_of X G a24
  have F25 := fun_mk (st := a_latest) l25 c25 k25
  have b25 := F25.binds (ps := ["one", "other", "legs"]) fun _ _ _ _ _ _ us hl => match us, hl with | [_, _, _], _ => rfl
  have g25 := PySem.W.mg_of X G a25
  have F26 := fun_mk (st := a_held_by) l26 c26 k26
  have b26 := F26.binds (ps := ["asked", "legs", "thing", "begun", "wave"]) fun _ _ _ _ _ _ us hl => match us, hl with | [_, _, _, _, _], _ => rfl
  have g26 := PySem.W.mg_of X G a26
  have F27 := fun_mk (st := a_waits) l27 c27 k27
  have b27 := F27.binds (ps := ["plan", "one", "other"]) fun _ _ _ _ _ _ us hl => match us, hl with | [_, _, _], _ => rfl
  have g27 := PySem.W.mg_of X G a27
  have F28 := fun_mk (st := a_moved) l28 c28 k28
  have b28 := F28.binds (ps := ["standing", "thing", "place"]) fun _ _ _ _ _ _ us hl => match us, hl with | [_, _, _], _ => rfl
  have g28 := PySem.W.mg_of X G a28
  have F29 := fun_mk (st := a_is_row) l29 c29 k29
  have b29 := F29.binds (ps := ["plan", "standing", "thing"]) fun _ _ _ _ _ _ us hl => match us, hl with | [_, _, _], _ => rfl
  have g29 := PySem.W.mg_of X G a29
  have F30 := fun_mk (st := a_out_places) l30 c30 k30
  have b30 := F30.binds (ps := ["plan", "standing", "side", "thing"]) fun _ _ _ _ _ _ us hl => match us, hl with | [_, _, _, _], _ => rfl
  have g30 := PySem.W.mg_of X G a30
  have F31 := fun_mk (st := a_is_kept_along) l31 c31 k31
  have b31 := F31.binds (ps := ["plan", "standing", "rule", "thing", "place"]) fun _ _ _ _ _ _ us hl => match us, hl with | [_, _, _, _, _], _ => rfl
  have g31 := PySem.W.mg_of X G a31
  have F32 := fun_mk (st := a_can_go) l32 c32 k32
  have b32 := F32.binds (ps := ["plan", "standing", "thing", "place"]) fun _ _ _ _ _ _ us hl => match us, hl with | [_, _, _, _], _ => rfl
  have g32 := PySem.W.mg_of X G a32
  have F33 := fun_mk (st := a_walked) l33 c33 k33
  have b33 := F33.binds (ps := ["plan", "standing", "way"]) fun _ _ _ _ _ _ us hl => match us, hl with | [_, _, _], _ => rfl
  have g33 := PySem.W.mg_of X G a33
  have F34 := fun_mk (st := sPot) l34 c34 k34
  have b34 := F34.binds (ps := ["_law_script", "_law_k"]) fun _ _ _ _ _ _ us hl => match us, hl with | [_, _], _ => rfl
  have g34 := PySem.W.mg_of X G a34
  have F35 := fun_mk (st := sTake) l35 c35 k35
  have b35 := F35.binds (ps := ["_law_pot_here", "_law_many"]) fun _ _ _ _ _ _ us hl => match us, hl with | [_, _], _ => rfl
  have g35 := PySem.W.mg_of X G a35
  have F36 := fun_mk (st := sOf) l36 c36 k36
  have b36 := F36.binds (ps := ["_law_pot_here", "_law_some"]) fun _ _ _ _ _ _ us hl => match us, hl with | [_, _], _ => rfl
  have g36 := PySem.W.mg_of X G a36
  have F37 := fun_mk (st := sStand) l37 c37 k37
  have b37 := F37.binds (ps := ["_law_pot_here", "_law_tops"]) fun _ _ _ _ _ _ us hl => match us, hl with | [_, _], _ => rfl
  have g37 := PySem.W.mg_of X G a37
  have F38 := fun_mk (st := aIn) l38 c38 k38
  have b38 := F38.binds (ps := ["_law_side", "_law_standing_here"]) fun _ _ _ _ _ _ us hl => match us, hl with | [_, _], _ => rfl
  have g38 := PySem.W.mg_of X G a38
  have F39 := fun_mk (st := aNeeds) l39 c39 k39
  have b39 := F39.binds (ps := ["_law_rules", "_law_one", "_law_other"]) fun _ _ _ _ _ _ us hl => match us, hl with | [_, _, _], _ => rfl
  have g39 := PySem.W.mg_of X G a39
  have F40 := fun_mk (st := a__law_long_tops) l40 c40 k40
  have b40 := F40.binds (ps := ["_law_pot_here"]) fun _ _ _ _ _ _ us hl => match us, hl with | [_], _ => rfl
  have g40 := PySem.W.mg_of X G a40
  have F41 := fun_mk (st := a__law_done_rules) l41 c41 k41
  have b41 := F41.binds (ps := ["_law_pot_here", "_law_one", "_law_two", "_law_many"]) fun _ _ _ _ _ _ us hl => match us, hl with | [_, _, _, _], _ => rfl
  have g41 := PySem.W.mg_of X G a41
  have F42 := fun_mk (st := a__law_reach) l42 c42 k42
  have b42 := F42.binds (ps := ["_law_due", "_law_one", "_law_two", "_law_here", "_law_thing"]) fun _ _ _ _ _ _ us hl => match us, hl with | [_, _, _, _, _], _ => rfl
  have g42 := PySem.W.mg_of X G a42
  have F43 := fun_mk (st := a__law_drawn_way) l43 c43 k43
  have b43 := F43.binds (ps := ["_law_pot_here", "_law_due", "_law_one", "_law_two"]) fun _ _ _ _ _ _ us hl => match us, hl with | [_, _, _, _], _ => rfl
  have g43 := PySem.W.mg_of X G a43
  have F44 := fun_mk (st := a__law_row_of) l44 c44 k44
  have b44 := F44.binds (ps := ["_law_rows", "_law_thing", "_law_here", "_law_there"]) fun _ _ _ _ _ _ us hl => match us, hl with | [_, _, _, _], _ => rfl
  have g44 := PySem.W.mg_of X G a44
  have F45 := fun_mk (st := a__law_in_order) l45 c45 k45
  have b45 := F45.binds (ps := ["_law_rows", "_law_told"]) fun _ _ _ _ _ _ us hl => match us, hl with | [_, _], _ => rfl
  have g45 := PySem.W.mg_of X G a45
  have F46 := fun_mk (st := a_law) l46 c46 k46
  have m1 := PySem.W.mg_none_of X G z1
  have m2 := PySem.W.mg_none_of X G z2
  have m3 := PySem.W.mg_none_of X G z3
  have m4 := PySem.W.mg_none_of X G z4
  have m5 := PySem.W.mg_none_of X G z5
  have m6 := PySem.W.mg_none_of X G z6
  have m7 := PySem.W.mg_none_of X G z7
  have m8 := PySem.W.mg_none_of X G z8
  have m9 := PySem.W.mg_none_of X G z9
  have m10 := PySem.W.mg_none_of X G z10
  have m11 := PySem.W.mg_none_of X G z11
  have m12 := PySem.W.mg_none_of X G z12
  have m13 := PySem.W.mg_none_of X G z13
  have m14 := PySem.W.mg_none_of X G z14
  have m15 := PySem.W.mg_none_of X G z15
  have m16 := PySem.W.mg_none_of X G z16
  have TX : PlanTxt K mg C := ⟨⟨pg, hd, po, sa⟩, nTo, nRu, PySem.W.mg_of X G aC⟩
  have MK : Mk K C f0 := ⟨mk, aI, iI, kc⟩
  have FD : FunD K "__init__" "Plan.__init__" (defArgs kInit) (defBody kInit) (defScope kInit) [V.ref e0] [] f0 (PySem.W.fnOf "__init__" "Plan.__init__" (defArgs kInit) (defBody kInit) (defScope kInit) (.ref Td) kV0 dc0 pm0 an0 cd0 ct0) :=
    ⟨⟨oc0, od0, .ref Td, kV0, dc0, pm0, an0, cd0, ct0, sl0, rfl, lI, cI, .inr ⟨by simp, Td, _, [.ref e0], nT, rfl, lT, rfl, .cons rfl .nil⟩, .inl rfl⟩, kI⟩
  obtain ⟨ds, rds, bI⟩ := FD.binds1 (ps := ["self", "tops", "rules"]) 3 1 (by simp) rfl fun T kV doc pm an cdv ct us its h1 h2 => match us, its, h1, h2 with | [_, _, _], [_], _, _ => ⟨_, rfl, rfl⟩
  cases rds
  have hW : ∀ H, SqT K H wa [.str "from", .str "to"] := fun H => .inr ⟨_, _, _, v5, rfl, rfl, (show 2 ≤ sizeLine by decide), .cons ⟨_, rfl⟩ (.cons ⟨_, rfl⟩ .nil)⟩
  have gv1 := PySem.W.mg_of X G v1
  have gv2 := PySem.W.mg_of X G v2
  have gv3 := PySem.W.mg_of X G v3
  have gv4 := PySem.W.mg_of X G v4
  have F_Knotted := fun_mk (st := kI_Knotted) l_Knotted c_Knotted kf_Knotted
  have b_Knotted := F_Knotted.binds (ps := ["self", "ring"]) fun _ _ _ _ _ _ us hl => match us, hl with | [_, _], _ => rfl
  have O_Knotted : OexC K C_Knotted := ⟨⟨_, _, _, _, _, _, _, _, _, _, _, _, _, _, _, x_Knotted, r_Knotted⟩, sa_Knotted, e_Knotted, ty_Knotted, kC_Knotted⟩
  have EX_Knotted : ExT K mg "Knotted" "ring" C_Knotted f_Knotted _ := ⟨PySem.W.mg_of X G a_Knotted, O_Knotted, nb_Knotted, i_Knotted, t_Knotted, ⟨ga_Knotted, gg_Knotted, e_Knotted, hd_Knotted⟩, exm_self e_Knotted is_Knotted ty_Knotted ss_Knotted, b_Knotted⟩
  refine ⟨PySem.W.fnOf "law" "law" (defArgs a_law) (defBody a_law) (defScope a_law) .none kV46 dc46 pm46 an46 cd46 ct46, fun s v => .of_eq rfl, fun base _ _ => ?_⟩
  have GX_Knotted := ok_Knotted (P := l.prog) (w := w) (mg := mg) (base := base) F_Knotted O_Knotted nb_Knotted
  have Kwh := Kn.mk (x := "is_whole") (base := base) (w := w) (P := l.prog) (ok_whole (k := 0) F1 m6 m5 m3) g1 F1.kp b1
  have K_is_whole := Kwh
  have Kpl := Kn.mk (x := "is_place") (base := base) (w := w) (P := l.prog) (ok_place (k := 0) F2 Kwh) g2 F2.kp b2
  have K_is_place := Kpl
  have Kto := Kn.mk (x := "are_tops") (base := base) (w := w) (P := l.prog) (ok_tops (k := 0) F3 Kpl m6 m15 m7 m2 gv1 gv3) g3 F3.kp b3
  have K_are_tops := Kto
  have Ksi := Kn.mk (x := "is_side_of") (base := base) (w := w) (P := l.prog) (ok_side (k := 0) F4 Kpl m6 m15 m7 m14 gv4 hW) g4 F4.kp b4
  have K_is_side_of := Ksi
  have Kss := Kn.mk (x := "are_sides_of") (base := base) (w := w) (P := l.prog) (ok_sides (k := 0) F5 Ksi m6 m15 m2) g5 F5.kp b5
  have K_are_sides_of := Kss
  have Kru := Kn.mk (x := "is_rule_of") (base := base) (w := w) (P := l.prog) (ok_rule (k := 0) F6 Kss m7) g6 F6.kp b6
  have K_is_rule_of := Kru
  have Krs := Kn.mk (x := "are_rules_of") (base := base) (w := w) (P := l.prog) (ok_rules (k := 0) F7 Kru m6 m15 m7 m2 gv2) g7 F7.kp b7
  have K_are_rules_of := Krs
  have K_place_after := Kn.mk (x := "place_after") (base := base) (w := w) (P := l.prog) (ok_place_after (k := 0) F10 ) g10 F10.kp b10
  have K_all_steps := Kn.mk (x := "all_steps") (base := base) (w := w) (P := l.prog) (ok_all_steps (k := 0) F11 m1) g11 F11.kp b11
  have Kin := Kn.mk (x := "is_in") (base := base) (w := w) (P := l.prog) (ok_in (k := 0) F8) g8 F8.kp b8
  have K_is_in := Kin
  have Klf := Kn.mk (x := "is_left") (base := base) (w := w) (P := l.prog) (ok_left (k := 0) F12 Kin) g12 F12.kp b12
  have K_is_left := Klf
  have Kgo := Kn.mk (x := "gone_at") (base := base) (w := w) (P := l.prog) (ok_gone (k := 0) F9) g9 F9.kp b9
  have K_gone_at := Kgo
  have Knd := Kn.mk (x := "need_of") (base := base) (w := w) (P := l.prog) (ok_need (k := 0) F13 Klf Kgo) g13 F13.kp b13
  have K_need_of := Knd
  have Kns := Kn.mk (x := "needs") (base := base) (w := w) (P := l.prog) (ok_needs (k := 0) F14 TX Knd m15 m13 m12) g14 F14.kp b14
  have K_needs := Kns
  have Kme := Kn.mk (x := "is_met") (base := base) (w := w) (P := l.prog) (ok_met (k := 0) F15 Kgo) g15 F15.kp b15
  have K_is_met := Kme
  have Ken := Kn.mk (x := "end_of") (base := base) (w := w) (P := l.prog) (ok_end (k := 0) F16 Kme Kgo) g16 F16.kp b16
  have K_end_of := Ken
  have Krw := Kn.mk (x := "rows_towards") (base := base) (w := w) (P := l.prog) (ok_rowsT (k := 0) F17 Ken m8 m11 m7 m15) g17 F17.kp b17
  have K_rows_towards := Krw
  have Kho := Kn.mk (x := "holding") (base := base) (w := w) (P := l.prog) (ok_hold (k := 0) F18 Kme) g18 F18.kp b18
  have K_holding := Kho
  have Krg := Kn.mk (x := "ring_at") (base := base) (w := w) (P := l.prog) (ok_ring (k := 0) F19 Kho m11 m7 m15) g19 F19.kp b19
  have K_ring_at := Krg
  have Kwa := Kn.mk (x := "way") (base := base) (w := w) (P := l.prog) (ok_way (k := 0) F20 Kns Krw Krg) g20 F20.kp b20
  have K_way := Kwa
  have K_way_or_refusal := KnX.mk (x := "way_or_refusal") (base := base) (w := w) (P := l.prog) (ok_way_or_refusal (k := 0) F21 K_way EX_Knotted GX_Knotted) g21 F21.kp b21
  have K_comes_with := Kn.mk (x := "comes_with") (base := base) (w := w) (P := l.prog) (ok_comes_with (k := 0) F22 m9) g22 F22.kp b22
  have K_counted := Kn.mk (x := "counted") (base := base) (w := w) (P := l.prog) (ok_counted (k := 0) F23 K_gone_at m13) g23 F23.kp b23
  have K_earliest := KnX.mk (x := "earliest") (base := base) (w := w) (P := l.prog) (ok_earliest (k := 0) F24 K_way_or_refusal K_needs K_gone_at K_comes_with K_counted) g24 F24.kp b24
  have K_latest := Kn.mk (x := "latest") (base := base) (w := w) (P := l.prog) (ok_latest (k := 0) F25 K_comes_with K_all_steps m7 m9 m11) g25 F25.kp b25
  have K_held_by := Kn.mk (x := "held_by") (base := base) (w := w) (P := l.prog) (ok_held_by (k := 0) F26 K_comes_with) g26 F26.kp b26
  have K_waits := KnX.mk (x := "waits") (base := base) (w := w) (P := l.prog) (ok_waits (k := 0) F27 K_earliest K_counted K_needs K_latest K_all_steps K_place_after K_held_by m15) g27 F27.kp b27
  have K_moved := Kn.mk (x := "moved") (base := base) (w := w) (P := l.prog) (ok_moved (k := 0) F28 ) g28 F28.kp b28
  have K_is_row := Kn.mk (x := "is_row") (base := base) (w := w) (P := l.prog) (ok_is_row (k := 0) F29 K_is_place TX m6 m7 m15) g29 F29.kp b29
  have K_out_places := Kn.mk (x := "out_places") (base := base) (w := w) (P := l.prog) (ok_out_places (k := 0) F30 K_is_in TX) g30 F30.kp b30
  have K_is_kept_along := Kn.mk (x := "is_kept_along") (base := base) (w := w) (P := l.prog) (ok_is_kept_along (k := 0) F31 K_out_places m9 m10) g31 F31.kp b31
  have K_can_go := Kn.mk (x := "can_go") (base := base) (w := w) (P := l.prog) (ok_can_go (k := 0) F32 K_is_kept_along TX m2) g32 F32.kp b32
  have K_walked := Kn.mk (x := "walked") (base := base) (w := w) (P := l.prog) (ok_walked (k := 0) F33 K_is_row K_can_go K_moved m4 m6 m15) g33 F33.kp b33
  have Ktake := Kn.mk (x := "_law_take") (base := base) (w := w) (P := l.prog) (ok_take (k := 0) F35) g35 F35.kp b35
  have K__law_take := Ktake
  have Kof := Kn.mk (x := "_law_of") (base := base) (w := w) (P := l.prog) (ok_of (k := 0) F36 Ktake m7) g36 F36.kp b36
  have K__law_of := Kof
  have K__law_long_tops := Kn.mk (x := "_law_long_tops") (base := base) (w := w) (P := l.prog) (ok__law_long_tops (k := 0) F40 K__law_take K__law_of m11 m15) g40 F40.kp b40
  have K__law_done_rules := Kn.mk (x := "_law_done_rules") (base := base) (w := w) (P := l.prog) (ok__law_done_rules (k := 0) F41 K__law_take K__law_of m1 m7 m8 m11 m15) g41 F41.kp b41
  have K__law_reach := Kn.mk (x := "_law_reach") (base := base) (w := w) (P := l.prog) (ok__law_reach (k := 0) F42 m1 m10) g42 F42.kp b42
  have K__law_drawn_way := Kn.mk (x := "_law_drawn_way") (base := base) (w := w) (P := l.prog) (ok__law_drawn_way (k := 0) F43 K__law_take K__law_of K__law_reach m7 m8 m11) g43 F43.kp b43
  have K__law_row_of := Kn.mk (x := "_law_row_of") (base := base) (w := w) (P := l.prog) (ok__law_row_of (k := 0) F44 m4 m9 m10) g44 F44.kp b44
  have K__law_in_order := Kn.mk (x := "_law_in_order") (base := base) (w := w) (P := l.prog) (ok__law_in_order (k := 0) F45 K__law_row_of m16) g45 F45.kp b45
  have Kpot := Kn.mk (x := "_law_pot") (base := base) (w := w) (P := l.prog) (ok_pot (k := 0) F34 m7 m1 m5) g34 F34.kp b34
  have K__law_pot := Kpot
  have Kst := Kn.mk (x := "_law_standing") (base := base) (w := w) (P := l.prog) (ok_stand (k := 0) F37 Ktake m15) g37 F37.kp b37
  have K__law_standing := Kst
  have Kli := Kn.mk (x := "_law_is_in") (base := base) (w := w) (P := l.prog) (ok_lin (k := 0) F38) g38 F38.kp b38
  have K__law_is_in := Kli
  have Kln := Kn.mk (x := "_law_needs") (base := base) (w := w) (P := l.prog) (ok_lneeds (k := 0) F39 Kli m15 m13) g39 F39.kp b39
  have K__law_needs := Kln
  have GI := ok_init (P := l.prog) (w := w) (base := base) (k := 0) FD TX Kto Krs
  exact ok_law (k := 0) F46 K__law_pot K__law_long_tops K__law_standing K__law_done_rules K__law_take K__law_needs K_waits K__law_drawn_way K_walked K__law_in_order TX MK GI bI m7 m9 m10 m11 m15
end K49
open PySem PySem.W PyProof.Rows
set_option maxHeartbeats 0 in
theorem PySem.Challenge.cw_notbothout_k49_whole_chains_hold_in_any_holds : PySem.Challenge.rw_notbothout_k49_whole_chains_hold_in_any.Holds := by
  w_on; o_law; k_head; (case hw => w_witness2)
  k_fill
  refine L2.walk_of (l := PySem.Challenge.rw_notbothout_k49_whole_chains_hold_in_any) (n := 63) (k := 10) (x := "_law_script") (CX := fun _ => L2.CX0) (sp := fun w => K49.spLaw _) rfl (by decide) rfl ⟨rfl, by decide, by decide⟩ (fun w h Y => PySem.W.kIn_of Y) ?F (fun _ _ a ns hl _ hS => ⟨a, ns, rfl, hS, hl, fun _ => rfl⟩) (fun _ _ _ _ _ h => h)
  case F =>
    intro w mg fa h KX G hmg
    refine' K49.all_mk KX G hmg ?a1 ?l1 ?c1 ?k1 ?a2 ?l2 ?c2 ?k2 ?a3 ?l3 ?c3 ?k3 ?a4 ?l4 ?c4 ?k4 ?a5 ?l5 ?c5 ?k5 ?a6 ?l6 ?c6 ?k6 ?a7 ?l7 ?c7 ?k7 ?a8 ?l8 ?c8 ?k8 ?a9 ?l9 ?c9 ?k9 ?a10 ?l10 ?c10 ?k10 ?a11 ?l11 ?c11 ?k11 ?a12 ?l12 ?c12 ?k12 ?a13 ?l13 ?c13 ?k13 ?a14 ?l14 ?c14 ?k14 ?a15 ?l15 ?c15 ?k15 ?a16 ?l16 ?c16 ?k16 ?a17 ?l17 ?c17 ?k17 ?a18 ?l18 ?c18 ?k18 ?a19 ?l19 ?c19 ?k19 ?a20 ?l20 ?c20 ?k20 ?a21 ?l21 ?c21 ?k21 ?a22 ?l22 ?c22 ?k22 ?a23 ?l23 ?c23 ?k23 ?a24 ?l24 ?c24 ?k24 ?a25 ?l25 ?c25 ?k25 ?a26 ?l26 ?c26 ?k26 ?a27 ?l27 ?c27 ?k27 ?a28 ?l28 ?c28 ?k28 ?a29 ?l29 ?c29 ?k29 ?a30 ?l30 ?c30 ?k30 ?a31 ?l31 ?c31 ?k31 ?a32 ?l32 ?c32 ?k32 ?a33 ?l33 ?c33 ?k33 ?a34 ?l34 ?c34 ?k34 ?a35 ?l35 ?c35 ?k35 ?a36 ?l36 ?c36 ?k36 ?a37 ?l37 ?c37 ?k37 ?a38 ?l38 ?c38 ?k38 ?a39 ?l39 ?c39 ?k39 ?a40 ?l40 ?c40 ?k40 ?a41 ?l41 ?c41 ?k41 ?a42 ?l42 ?c42 ?k42 ?a43 ?l43 ?c43 ?k43 ?a44 ?l44 ?c44 ?k44 ?a45 ?l45 ?c45 ?k45 ?a46 ?l46 ?c46 ?k46 ?aC ?aI ?iI ?lI ?cI ?kI ?lT ?pg ?hd ?po ?sa ?mk ?kc ?nTo ?nRu ?v1 ?v2 ?v3 ?v4 ?v5 ?a_Knotted ?x_Knotted ?r_Knotted ?sa_Knotted ?ga_Knotted ?gg_Knotted ?nb_Knotted ?i_Knotted ?t_Knotted ?l_Knotted ?c_Knotted ?kf_Knotted ?kC_Knotted ?e_Knotted ?ty_Knotted ?hd_Knotted ?is_Knotted ?ss_Knotted ?z1 ?z2 ?z3 ?z4 ?z5 ?z6 ?z7 ?z8 ?z9 ?z10 ?z11 ?z12 ?z13 ?z14 ?z15 ?z16
    (case a1 => k_is)
    (case l1 => k_is)
    (case c1 => k_is)
    (case k1 => k_is)
    (case a2 => k_is)
    (case l2 => k_is)
    (case c2 => k_is)
    (case k2 => k_is)
    (case a3 => k_is)
    (case l3 => k_is)
    (case c3 => k_is)
    (case k3 => k_is)
    (case a4 => k_is)
    (case l4 => k_is)
    (case c4 => k_is)
    (case k4 => k_is)
    (case a5 => k_is)
    (case l5 => k_is)
    (case c5 => k_is)
    (case k5 => k_is)
    (case a6 => k_is)
    (case l6 => k_is)
    (case c6 => k_is)
    (case k6 => k_is)
    (case a7 => k_is)
    (case l7 => k_is)
    (case c7 => k_is)
    (case k7 => k_is)
    (case a8 => k_is)
    (case l8 => k_is)
    (case c8 => k_is)
    (case k8 => k_is)
    (case a9 => k_is)
    (case l9 => k_is)
    (case c9 => k_is)
    (case k9 => k_is)
    (case a10 => k_is)
    (case l10 => k_is)
    (case c10 => k_is)
    (case k10 => k_is)
    (case a11 => k_is)
    (case l11 => k_is)
    (case c11 => k_is)
    (case k11 => k_is)
    (case a12 => k_is)
    (case l12 => k_is)
    (case c12 => k_is)
    (case k12 => k_is)
    (case a13 => k_is)
    (case l13 => k_is)
    (case c13 => k_is)
    (case k13 => k_is)
    (case a14 => k_is)
    (case l14 => k_is)
    (case c14 => k_is)
    (case k14 => k_is)
    (case a15 => k_is)
    (case l15 => k_is)
    (case c15 => k_is)
    (case k15 => k_is)
    (case a16 => k_is)
    (case l16 => k_is)
    (case c16 => k_is)
    (case k16 => k_is)
    (case a17 => k_is)
    (case l17 => k_is)
    (case c17 => k_is)
    (case k17 => k_is)
    (case a18 => k_is)
    (case l18 => k_is)
    (case c18 => k_is)
    (case k18 => k_is)
    (case a19 => k_is)
    (case l19 => k_is)
    (case c19 => k_is)
    (case k19 => k_is)
    (case a20 => k_is)
    (case l20 => k_is)
    (case c20 => k_is)
    (case k20 => k_is)
    (case a21 => k_is)
    (case l21 => k_is)
    (case c21 => k_is)
    (case k21 => k_is)
    (case a22 => k_is)
    (case l22 => k_is)
    (case c22 => k_is)
    (case k22 => k_is)
    (case a23 => k_is)
    (case l23 => k_is)
    (case c23 => k_is)
    (case k23 => k_is)
    (case a24 => k_is)
    (case l24 => k_is)
    (case c24 => k_is)
    (case k24 => k_is)
    (case a25 => k_is)
    (case l25 => k_is)
    (case c25 => k_is)
    (case k25 => k_is)
    (case a26 => k_is)
    (case l26 => k_is)
    (case c26 => k_is)
    (case k26 => k_is)
    (case a27 => k_is)
    (case l27 => k_is)
    (case c27 => k_is)
    (case k27 => k_is)
    (case a28 => k_is)
    (case l28 => k_is)
    (case c28 => k_is)
    (case k28 => k_is)
    (case a29 => k_is)
    (case l29 => k_is)
    (case c29 => k_is)
    (case k29 => k_is)
    (case a30 => k_is)
    (case l30 => k_is)
    (case c30 => k_is)
    (case k30 => k_is)
    (case a31 => k_is)
    (case l31 => k_is)
    (case c31 => k_is)
    (case k31 => k_is)
    (case a32 => k_is)
    (case l32 => k_is)
    (case c32 => k_is)
    (case k32 => k_is)
    (case a33 => k_is)
    (case l33 => k_is)
    (case c33 => k_is)
    (case k33 => k_is)
    (case a34 => k_is)
    (case l34 => k_is)
    (case c34 => k_is)
    (case k34 => k_is)
    (case a35 => k_is)
    (case l35 => k_is)
    (case c35 => k_is)
    (case k35 => k_is)
    (case a36 => k_is)
    (case l36 => k_is)
    (case c36 => k_is)
    (case k36 => k_is)
    (case a37 => k_is)
    (case l37 => k_is)
    (case c37 => k_is)
    (case k37 => k_is)
    (case a38 => k_is)
    (case l38 => k_is)
    (case c38 => k_is)
    (case k38 => k_is)
    (case a39 => k_is)
    (case l39 => k_is)
    (case c39 => k_is)
    (case k39 => k_is)
    (case a40 => k_is)
    (case l40 => k_is)
    (case c40 => k_is)
    (case k40 => k_is)
    (case a41 => k_is)
    (case l41 => k_is)
    (case c41 => k_is)
    (case k41 => k_is)
    (case a42 => k_is)
    (case l42 => k_is)
    (case c42 => k_is)
    (case k42 => k_is)
    (case a43 => k_is)
    (case l43 => k_is)
    (case c43 => k_is)
    (case k43 => k_is)
    (case a44 => k_is)
    (case l44 => k_is)
    (case c44 => k_is)
    (case k44 => k_is)
    (case a45 => k_is)
    (case l45 => k_is)
    (case c45 => k_is)
    (case k45 => k_is)
    (case a46 => k_is)
    (case l46 => k_is)
    (case c46 => k_is)
    (case k46 => k_is)
    (case aC => k_is)
    (case aI => k_is)
    (case iI => k_is)
    (case lI => k_is)
    (case cI => k_is)
    (case kI => k_is)
    (case lT => k_is)
    (case pg => k_is)
    (case hd => k_is)
    (case po => k_is)
    (case sa => k_is)
    (case mk => k_is)
    (case kc => k_is)
    (case nTo => k_is)
    (case nRu => k_is)
    (case v1 => k_is)
    (case v2 => k_is)
    (case v3 => k_is)
    (case v4 => k_is)
    (case v5 => k_is)
    (case a_Knotted => k_is)
    (case x_Knotted => k_is)
    (case r_Knotted => first | rfl | decide +kernel)
    (case sa_Knotted => k_is)
    (case ga_Knotted => k_is)
    (case gg_Knotted => k_is)
    (case nb_Knotted => k_is)
    (case i_Knotted => k_is)
    (case t_Knotted => k_is)
    (case l_Knotted => k_is)
    (case c_Knotted => k_is)
    (case kf_Knotted => k_is)
    (case kC_Knotted => k_is)
    (case e_Knotted => k_is)
    (case ty_Knotted => k_is)
    (case hd_Knotted => k_is)
    (case is_Knotted => k_is)
    (case ss_Knotted => first | rfl | k_is)
    (case z1 => k_is)
    (case z2 => k_is)
    (case z3 => k_is)
    (case z4 => k_is)
    (case z5 => k_is)
    (case z6 => k_is)
    (case z7 => k_is)
    (case z8 => k_is)
    (case z9 => k_is)
    (case z10 => k_is)
    (case z11 => k_is)
    (case z12 => k_is)
    (case z13 => k_is)
    (case z14 => k_is)
    (case z15 => k_is)
    (case z16 => k_is)
