import PyProof.Rows.All
import Wide.All
import OpenK.AllK
import Wide.FinOn
import HandS.Base
import HandS.Call
import HandS.List
import HandS.Comp
import HandS.Ends
import HandS.Dict
import HandS.Iter
import HandS.Text
import HandS.Words
import HandS.WordsList
import HandS.WordsDict
import HandS.Wide
import HandS.Zip
import HandS.Flow
import HandS.Flt
import KE.GoesMore
import KE.KDictZip
import PyProof.ReprRoads
import HandS.Walk
import PyProof.TupleOfSeq
import KE.GoesEnum
import HandS.Style
import PyProof.ReprLen
import HandS.IsInst
import HandS.TupAny
import PyProof.EqAt
import PyProof.NeKinds
import HandS.Codes
import HandS.Defaults
import HandS.TupMul
import HandS.Exc
import HandS.ExcOwn
import HandS.ExcInit
import HandS.ExcField
import HandS.WordsExc
import KE.KListMore
import HandS.Conv
import HandS.TupSets
import HandS.DictTup
import HandS.Steps
import HandS.OwnEq
import HandS.SortOrd
import HandS.SortRule
import HandS.Deep
import KE.KDictPairs
import PyProof.Rows.TupDisplay
import HandS.ExcIs
import PyProof.P3In
import PySem.Challenge.RW_notbothout_k21_ways_walked_or_not
set_option Elab.async false
set_option linter.all false
set_option maxRecDepth 100000
/-! Defs whose callers are known to show nothing (guards empty): what repr wants. -/
namespace NB
open PySem PySem.Spec PyProof.Rows L2

/-- a def's promise, wherever nothing is being shown around it -/
structure FnG (P : Program) (w : World) (K : PySem.W.Frag) (mg : Str → Option Value) (base : Heap) (k : Nat) (f : Addr) (fd : FuncData) (ps : List Str) (sp : Sp) : Prop where
  len : ∀ vs H Q E, sp vs H Q E → vs.length = ps.length
  go : ∀ (A : Around) (out : List Env) (s : Shared) (H : Hp) (ar : Args) (us : List Value) (vs : List V) (Q : VK) (E : XK),
    A.guards = some [] → Room k A → Env0 P w K mg base A out s H → BindsTo s fd ar (ps.zip us) → Vals vs us → sp vs H Q E →
    codeAny (model P w) A (.call (.ref f) ar) (CR CX0 out P w H s Q E) s

section
variable {P : Program} {w : World} {K : PySem.W.Frag} {mg : Str → Option Value} {base : Heap}

theorem FnG.of {k : Nat} {f : Addr} {fd : FuncData} {ps : List Str} {sp : Sp} (F : FnOk P w K mg base CX0 k f fd ps sp) : FnG P w K mg base k f fd ps sp :=
  ⟨F.len, fun A out s H ar us vs Q E _ => F.run A out s H ar us vs Q E⟩

theorem fnG {x qual : Str} {st : Stmt} {f : Addr} {fd : FuncData} {N ps : List Str} {k : Nat} {sp : Sp} (F : Fun K x qual st f fd)
    (S : FnScope N ps (defScope st)) (len : ∀ vs H Q E, sp vs H Q E → vs.length = ps.length)
    (body : ∀ (c : Value) (A : Around) (out : List Env) (s : Shared) (H : Hp) (vs : List V) (Q : VK) (E : XK),
      A.guards = some [] → Room k (A.deeper (envOfC qual (defScope st) s.heap.objs.size f c)) → sp vs H Q E →
      ∃ t, PSs (cxOf CX0 P w K mg base N qual (defScope st) f c A out s H E).nox (defBody st) t ∧
        t { nx := fun _ H' => Q .non H', rt := Q } (start N vs) H) :
    FnG P w K mg base (k + 1) f fd ps sp := by
  obtain ⟨oc, od, kV, doc, pm, an, c, ct, osl, rfl, lk, hc⟩ := F.ex
  refine ⟨len, fun A out s H ar us vs Q E hg hr e hb r h => ?_⟩
  have stays : ∀ b o, base.get? b = some o → s.heap.get? b = some o := fun b o q => (e.bs b o q).1
  have inH : K.In s.heap := e.mod.kin.keeps stays
  have noLim : s.heap.NoLimit := e.mod.nolimit.keeps stays
  have kinds : ∀ y ∈ ps.zip us, (defScope st).names.lookup y.1 = some .local ∨
      ((defScope st).names.lookup y.1 = some .cell ∧ ((cellsFrom (s.heap.objs.size + 1) (defScope st).names []).lookup y.1).isSome = true) := by
    intro y hy
    obtain ⟨n, v⟩ := y
    cases S.par n (List.of_mem_zip hy).1 with
    | inl q => exact .inl q
    | inr q => exact .inr ⟨q, PySem.W.cellsFrom_some _ _ _ (.inl q)⟩
  refine codeAny_call_function hr.depth (inH _ _ lk) rfl S.co S.gen rfl (PySem.W.codeRec_of inH hc) (hb _ _ _ _ ?_)
  refine wpAny_newFunctionEnv_cells S.kind kinds ?_
  rintro env rfl s1 x
  refine ⟨noLim.keeps x.toInCall.keep, codeAny_func ?_⟩
  obtain ⟨t, ht, hq⟩ := body c A out s H vs Q E hg (hr.deeper _) h
  have I := inv_start (CX := CX0) (E := E) S hr.hd e (len _ _ _ _ h) r x
  refine wpAny_mono (ht.nox.run [] s1 (start N vs) H _ I hq) ?_ fun _ _ z => z
  intro fl s' z
  cases fl with
  | ret u =>
    obtain ⟨v, σ', H', J, rv, q⟩ := z
    exact ⟨v, H', J.os, J.bare, J.base, J.hok, rv, q⟩
  | next =>
    obtain ⟨σ', H', J, q⟩ := z
    exact ⟨V.non, H', J.os, J.bare, J.base, J.hok, rfl, q⟩
  | brk => exact False.elim z.choose_spec.choose_spec.2
  | cont => exact False.elim z.choose_spec.choose_spec.2
end

section
variable {X : Cx} {k : Nat} {f : Addr} {fd : FuncData} {ps : List Str} {sp : Sp} {x : Str} {p pos : Pos} {e : Expr} {es : List Expr} {t : TA}
/-- f(..) of such a def, all arguments written -/
theorem pe_callG (hG : X.A.guards = some []) (F : FnG X.prog X.w X.K X.mg X.base k f fd ps sp) (hr : Room k X.A) (hg : Gl X x) (hm : X.mg x = some (.ref f))
    (hk : PySem.W.keepIn X.K (.ref f) = true) (hb : Binds X.K fd ps []) (ha : PA X (e :: es) t) (hdb : (x == ("__debug__" : Str)) = false := by decide)
    (he : starEach (e :: es) X.env = (false, eval e X.env) :: starEach es X.env := by rfl) (hpl : (backTo pos (starEach es X.env)).any (·.1) = false := by rfl) :
    PE X (.Call (.Name x p) (e :: es) [] pos) (tCall sp [] E0 t) := by
  refine ⟨fun pins s σ H Q I h => wpAny_Call_Name_kw (ld_glob I hg hm ?_ hdb)⟩
  refine PySem.W.callWith_K (h₀ := X.base) I.ok.mod.kin hk (thn (ha.run pos pins s σ H _ I h) ?_) he hpl
  rintro us s1 ⟨vs, H1, I1, r, q⟩
  refine ⟨I1.kIn, wpAny_call ?_⟩
  have q2 : sp vs H1 Q E0 := by
    have q' : sp (vs ++ []) H1 Q E0 := q
    rwa [List.append_nil] at q'
  have ln : us.length = ps.length := r.length.symm.trans (F.len _ _ _ _ q2)
  have bnd : BindsTo s1 fd ⟨us, []⟩ (ps.zip us) := by
    have b := hb s1 us I1.kIn (by rw [List.append_nil]; exact ln)
    rwa [List.append_nil] at b
  refine codeAny_mono (F.go X.A X.stack s1 H1 ⟨us, []⟩ us vs Q E0 hG hr I1.env0 bnd r q2) ?_
  intro rs s' z
  cases rs with
  | error e => exact False.elim z
  | ok fl =>
    cases fl with
    | ret u => exact I1.after z
    | next => exact False.elim z
    | brk => exact False.elim z
    | cont => exact False.elim z
end

section
variable {X : Cx}
/-- what repr asks of data -/
structure Showable (d : PyData) : Prop where
  sh : d.showable = true
  nd : d.hasDict = false
  dp : d.depth ≤ 60
  sz : d.shown.length ≤ sizeLine
/-- repr(x), x a list or a tuple of data -/
theorem call_reprD (hG : X.A.guards = some []) (hu : X.A.units + 64 < cLine) : CallR X (.builtin "repr") (fun xs H Q => ∃ a d, xs = [.ref a] ∧ Dp X.K H (.ref a) d ∧ Showable d ∧ Q (.str d.shown) H) := by
  intro pins s σ H xs us Q I r h
  obtain ⟨a, d, rfl, hd, S, q⟩ := h
  obtain ⟨u, rfl, ru⟩ := vals1 r
  obtain ⟨as, rd⟩ := Dp.reads I d _ u hd ru
  cases ru
  have hn := S.dp
  exact repr_of_reads' rd S.sh (PyData.noDict_hsm S.nd) hG (by omega) (fun _ _ z => z) (fun h' u tk hk => ⟨.str _, H, I.kept hk, ⟨_, rfl⟩, q⟩) S.sz
end
end NB

set_option Elab.async false
set_option linter.all false
set_option maxRecDepth 100000
set_option maxHeartbeats 1000000
/-! zip of three tuples of one length, its turns given to one name or to three. -/
namespace NB
open PySem PySem.Spec PyProof.Rows L2
open PySem.Sem (wp)

/-- a zip as it stands between two turns: a is None or the tuple given out last -/
abbrev Zat (h : Heap) (z ti to : Addr) (a b : Value) : Prop :=
  h.get? z = some { cls := .type "zip", dict := none, data := .fields #[a, b, .bool false, .ref ti, .ref to], slots := #[] }
def Out (a : Value) : Prop := a = .none ∨ ∃ T : Addr, a = rawInt T

section
variable {prog : Program} {w : World} {A : Around} {E : Value → Shared → Prop} {s : Shared} {z ti to i1 i2 i3 l1 l2 l3 : Addr} {a a1 a2 a3 : Value} {f : Bool} {xs ys zs : Array Value} {i : Nat}

theorem freeOr {Q : Bool → Shared → Prop} (ho : Out a) (hz : Zat s.heap z ti to a (.bool f))
    (h : ∀ (b : Bool) (h' : Heap) (g : Bool), Zat h' z ti to a (.bool g) → Heap.SameBut z s.heap h' → Q b { s with heap := h' }) :
    wpAny (model prog w) A (Builtin.SmallTypes.ownedTupleIsFree (.ref z)) Q E s := by
  unfold Builtin.SmallTypes.ownedTupleIsFree
  refine wpAny_bind (wpAny_field hz rfl (x := a) rfl ?_)
  rcases ho with e | ⟨T, e⟩
  · subst e
    exact wpAny_pure (h true s.heap f hz (Heap.SameBut.refl _ _))
  · subst e
    show wpAny _ _ (loadIfAlive ((T : Int).toNat) >>= _) _ _ _
    rw [Int.toNat_natCast]
    refine wpAny_bind ?_
    cases e : s.heap.get? T with
    | none =>
      have key : wpAny (model prog w) A (loadIfAlive T) (fun r s' => r = none ∧ s' = s) E s := fun _ _ _ => ⟨e, rfl⟩
      refine thn key fun r s' q => ?_
      obtain ⟨rfl, rfl⟩ := q
      exact wpAny_pure (h true _ f hz (Heap.SameBut.refl _ _))
    | some o =>
      refine PySem.W.kdx_alive e ?_
      simp only [Option.isNone_some, Bool.false_eq_true, if_false]
      refine wpAny_bind (wpAny_field hz rfl (x := .bool f) rfl ?_)
      cases f with
      | true =>
        rw [if_neg (show ¬ ((Value.bool true != Value.bool true) = true) by decide)]
        exact wpAny_pure (h false s.heap true hz (Heap.SameBut.refl _ _))
      | false =>
        rw [if_pos (show (Value.bool false != Value.bool true) = true by decide)]
        exact wpAny_bind (wpAny_setField_rec hz (by simp) fun h1 z1 s1 => wpAny_pure (h false h1 true z1 s1))

/-- the three iterators over their tuples at turn i, apart from the zip's own cells -/
abbrev St3 (h : Heap) (i1 i2 i3 l1 l2 l3 : Addr) (xs ys zs : Array Value) (i : Nat) : Prop :=
  (h.IsTupleIter i1 l1 i ∧ h.IsTuple l1 xs) ∧ (h.IsTupleIter i2 l2 i ∧ h.IsTuple l2 ys) ∧ (h.IsTupleIter i3 l3 i ∧ h.IsTuple l3 zs)

theorem keepIt {h h' : Heap} {it l : Addr} {k : Nat} {vs : Array Value} (st : h.IsTupleIter it l k ∧ h.IsTuple l vs) {x : Addr} (hs : Heap.SameBut x h h') (n1 : it ≠ x) (n2 : l ≠ x) : h'.IsTupleIter it l k ∧ h'.IsTuple l vs :=
  ⟨st.1.extBut hs.extBut n1, st.2.extBut hs.extBut n2⟩

structure Far3 (z ti to i1 i2 i3 l1 l2 l3 : Addr) : Prop where
  tiz : ti ≠ z
  toz : to ≠ z
  tito : ti ≠ to
  ti1 : ti ≠ i1
  ti2 : ti ≠ i2
  ti3 : ti ≠ i3
  to1 : to ≠ i1
  to2 : to ≠ i2
  to3 : to ≠ i3
  z1 : i1 ≠ z
  z2 : i2 ≠ z
  z3 : i3 ≠ z
  n12 : i1 ≠ i2
  n13 : i1 ≠ i3
  n23 : i2 ≠ i3
  l1n : l1 ≠ z ∧ l1 ≠ to ∧ l1 ≠ i1 ∧ l1 ≠ i2 ∧ l1 ≠ i3
  l2n : l2 ≠ z ∧ l2 ≠ to ∧ l2 ≠ i1 ∧ l2 ≠ i2 ∧ l2 ≠ i3
  l3n : l3 ≠ z ∧ l3 ≠ to ∧ l3 ≠ i1 ∧ l3 ≠ i2 ∧ l3 ≠ i3

theorem drawT {it l : Addr} {k : Nat} {vs : Array Value} {x : Value} {Q : Value → Shared → Prop} (st : s.heap.IsTupleIter it l k ∧ s.heap.IsTuple l vs) (ne : l ≠ it) (hx : vs[k]? = some x)
    (h : ∀ h', (h'.IsTupleIter it l (k + 1) ∧ h'.IsTuple l vs) → Heap.SameBut it s.heap h' → Q x { s with heap := h' }) :
    wpAny (model prog w) A (Builtin.SmallTypes.nextOf (.ref it)) Q E s :=
  RZ.nextOf_tuple_item st.1 st.2 hx fun h' q1 q2 => h h' ⟨q1, st.2.extBut q2.extBut ne⟩ q2

theorem next3 {x1 x2 x3 : Value} {Q : Value → Shared → Prop} (D : Far3 z ti to i1 i2 i3 l1 l2 l3) (ho : Out a) (hz : Zat s.heap z ti to a (.bool f))
    (hI : IsTupOf3 s.heap ti (.ref i1) (.ref i2) (.ref i3)) (hO : IsTupOf3 s.heap to a1 a2 a3) (st : St3 s.heap i1 i2 i3 l1 l2 l3 xs ys zs i)
    (hx : xs[i]? = some x1) (hy : ys[i]? = some x2) (hw : zs[i]? = some x3)
    (hQ : ∀ (h' : Heap) (a' : Value) (g : Bool) (b1 b2 b3 : Value), Out a' → Zat h' z ti to a' (.bool g) → IsTupOf3 h' to b1 b2 b3 → St3 h' i1 i2 i3 l1 l2 l3 xs ys zs (i + 1) → IsTupOf3 h' s.heap.objs.size x1 x2 x3 → h'.objs.size = s.heap.objs.size + 1 →
      (∀ c o, c ≠ z → c ≠ to → c ≠ i1 → c ≠ i2 → c ≠ i3 → s.heap.get? c = some o → h'.get? c = some o) → Q (.ref s.heap.objs.size) { s with heap := h' }) :
    wpAny (model prog w) A (Builtin.«zip.__next__» ⟨[.ref z], []⟩) (fun fin s' => ∃ v, fin = .done (.ret v) ∧ Q v s') E s := by
  obtain ⟨hp, gg, dd, tk, os⟩ := s
  show wpAny _ _ (field (.ref z) 2 >>= _) _ _ _
  refine wpAny_bind (wpAny_field hz rfl (x := .bool false) rfl ?_)
  show wpAny _ _ (field (.ref z) 3 >>= _) _ _ _
  refine wpAny_bind (wpAny_field hz rfl (x := .ref ti) rfl ?_)
  refine wpAny_bind (wpAny_seqItems hI rfl ?_)
  show wpAny _ _ (Builtin.SmallTypes.ownedTupleIsFree (.ref z) >>= _) _ _ _
  refine wpAny_bind (freeOr ho hz fun b h1 f1 hz1 hs1 => ?_)
  replace hs1 : Heap.SameBut z hp h1 := hs1
  obtain ⟨sa, sb, sc⟩ := st
  have sa1 := keepIt sa hs1 D.z1 D.l1n.1
  have sb1 := keepIt sb hs1 D.z2 D.l2n.1
  have sc1 := keepIt sc hs1 D.z3 D.l3n.1
  have hO1 : IsTupOf3 h1 to a1 a2 a3 := hs1.extBut _ _ D.toz hO
  cases b with
  | false =>
    simp only [Bool.false_eq_true, if_false]
    refine wpAny_bind ?_
    rw [← Array.forIn_toList]
    simp only [List.forIn_cons, List.forIn_nil]
    refine wpAny_bind (wpAny_bind (wpAny_holding ?_))
    show wpAny _ _ (Builtin.SmallTypes.nextOf (.ref i1) >>= _) _ _ ⟨h1, gg, dd, tk, os⟩
    refine wpAny_bind (drawT (s := ⟨h1, gg, dd, tk, os⟩) sa1 D.l1n.2.2.1 hx fun h2 sa2 hs2 => wpAny_pure (wpAny_pure ?_))
    replace hs2 : Heap.SameBut i1 h1 h2 := hs2
    have sb2 := keepIt sb1 hs2 D.n12.symm D.l2n.2.2.1
    have sc2 := keepIt sc1 hs2 D.n13.symm D.l3n.2.2.1
    refine wpAny_bind (wpAny_bind (wpAny_holding ?_))
    show wpAny _ _ (Builtin.SmallTypes.nextOf (.ref i2) >>= _) _ _ ⟨h2, gg, dd, tk, os⟩
    refine wpAny_bind (drawT (s := ⟨h2, gg, dd, tk, os⟩) sb2 D.l2n.2.2.2.1 hy fun h3 sb3 hs3 => wpAny_pure (wpAny_pure ?_))
    replace hs3 : Heap.SameBut i2 h2 h3 := hs3
    have sa3 := keepIt sa2 hs3 D.n12 D.l1n.2.2.2.1
    have sc3 := keepIt sc2 hs3 D.n23.symm D.l3n.2.2.2.1
    refine wpAny_bind (wpAny_bind (wpAny_holding ?_))
    show wpAny _ _ (Builtin.SmallTypes.nextOf (.ref i3) >>= _) _ _ ⟨h3, gg, dd, tk, os⟩
    refine wpAny_bind (drawT (s := ⟨h3, gg, dd, tk, os⟩) sc3 D.l3n.2.2.2.2 hw fun h4 sc4 hs4 => wpAny_pure (wpAny_pure (wpAny_pure ?_)))
    replace hs4 : Heap.SameBut i3 h3 h4 := hs4
    have sa4 := keepIt sa3 hs4 D.n13 D.l1n.2.2.2.2
    have sb4 := keepIt sb3 hs4 D.n23 D.l2n.2.2.2.2
    show wpAny _ _ (newTuple [x1, x2, x3] >>= _) _ _ ⟨h4, gg, dd, tk, os⟩
    refine wpAny_bind (wpAny_newTuple (wpAny_pure ⟨_, rfl, ?_⟩))
    have sz : h4.objs.size = hp.objs.size := by rw [hs4.1, hs3.1, hs2.1, hs1.1]
    have kk : ∀ c o, c ≠ z → c ≠ i1 → c ≠ i2 → c ≠ i3 → hp.get? c = some o → h4.get? c = some o := fun c o c0 c1 c2 c3 e =>
      hs4.extBut _ _ c3 (hs3.extBut _ _ c2 (hs2.extBut _ _ c1 (hs1.extBut _ _ c0 e)))
    have hz4 : Zat h4 z ti to a (.bool f1) := hs4.extBut _ _ D.z3.symm (hs3.extBut _ _ D.z2.symm (hs2.extBut _ _ D.z1.symm hz1))
    have hO4 : IsTupOf3 h4 to a1 a2 a3 := kk _ _ D.toz D.to1 D.to2 D.to3 hO
    have up : ∀ c o, h4.get? c = some o → (h4.push { cls := .type "tuple", data := .seq #[x1, x2, x3] }).get? c = some o := fun c o e => Heap.get?_push_of_some _ e
    have nw : IsTupOf3 (h4.push { cls := .type "tuple", data := .seq #[x1, x2, x3] }) h4.objs.size x1 x2 x3 := Heap.get?_push_size _ rfl
    have zw : (h4.push { cls := .type "tuple", data := .seq #[x1, x2, x3] }).objs.size = h4.objs.size + 1 := Heap.size_push ..
    show Q (.ref h4.objs.size) _
    rw [sz] at nw zw ⊢
    exact hQ _ a f1 a1 a2 a3 ho (up _ _ hz4) (up _ _ hO4)
      ⟨⟨sa4.1.at fun o e => up _ o e, sa4.2.push _⟩, ⟨sb4.1.at fun o e => up _ o e, sb4.2.push _⟩, ⟨sc4.1.at fun o e => up _ o e, sc4.2.push _⟩⟩ nw zw
      fun c o c0 _ c1 c2 c3 e => up c o (kk c o c0 c1 c2 c3 e)
  | true =>
    simp only [if_true]
    refine wpAny_bind (wpAny_rule ?_)
    refine wpAny_bind (wpAny_field (s := ⟨h1, gg, dd, tk, os⟩) hz1 rfl (x := .ref to) rfl ?_)
    refine wpAny_bind (wpAny_setField_rec (s := ⟨h1, gg, dd, tk, os⟩) hz1 (by simp) fun g0 z0 s0 => ?_)
    replace z0 : Zat g0 z ti to .ellipsis (.bool f1) := z0
    replace s0 : Heap.SameBut z h1 g0 := s0
    have ta0 := keepIt sa1 s0 D.z1 D.l1n.1
    have tb0 := keepIt sb1 s0 D.z2 D.l2n.1
    have tc0 := keepIt sc1 s0 D.z3 D.l3n.1
    have o0 : IsTupOf3 g0 to a1 a2 a3 := s0.extBut _ _ D.toz hO1
    refine wpAny_bind ?_
    simp only [List.zipIdx_cons, List.zipIdx_nil, List.forIn_cons, List.forIn_nil]
    refine wpAny_bind (wpAny_bind (wpAny_onRaise ?_))
    show wpAny _ _ (Builtin.SmallTypes.nextOf (.ref i1) >>= _) _ _ ⟨g0, gg, dd, tk, os⟩
    refine wpAny_bind (drawT (s := ⟨g0, gg, dd, tk, os⟩) ta0 D.l1n.2.2.1 hx fun p1 ta1 s1 => wpAny_pure ?_)
    replace s1 : Heap.SameBut i1 g0 p1 := s1
    have o1 : IsTupOf3 p1 to a1 a2 a3 := s1.extBut _ _ D.to1 o0
    refine wpAny_bind (wpAny_seqItems (s := ⟨p1, gg, dd, tk, os⟩) o1 rfl ?_)
    refine wpAny_bind (updateSeq_IsTupOf3 (s := ⟨p1, gg, dd, tk, os⟩) o1 fun q1 u1 r1 => wpAny_bind (wpAny_letGo (wpAny_pure ?_)))
    replace u1 : IsTupOf3 q1 to x1 a2 a3 := u1
    replace r1 : Heap.SameBut to p1 q1 := r1
    have ta2 := keepIt ta1 r1 D.to1.symm D.l1n.2.1
    have tb2 := keepIt (keepIt tb0 s1 D.n12.symm D.l2n.2.2.1) r1 D.to2.symm D.l2n.2.1
    have tc2 := keepIt (keepIt tc0 s1 D.n13.symm D.l3n.2.2.1) r1 D.to3.symm D.l3n.2.1
    refine wpAny_bind (wpAny_bind (wpAny_onRaise ?_))
    show wpAny _ _ (Builtin.SmallTypes.nextOf (.ref i2) >>= _) _ _ ⟨q1, gg, dd, tk, os⟩
    refine wpAny_bind (drawT (s := ⟨q1, gg, dd, tk, os⟩) tb2 D.l2n.2.2.2.1 hy fun p2 tb3 s2 => wpAny_pure ?_)
    replace s2 : Heap.SameBut i2 q1 p2 := s2
    have o2 : IsTupOf3 p2 to x1 a2 a3 := s2.extBut _ _ D.to2 u1
    refine wpAny_bind (wpAny_seqItems (s := ⟨p2, gg, dd, tk, os⟩) o2 rfl ?_)
    refine wpAny_bind (updateSeq_IsTupOf3 (s := ⟨p2, gg, dd, tk, os⟩) o2 fun q2 u2 r2 => wpAny_bind (wpAny_letGo (wpAny_pure ?_)))
    replace u2 : IsTupOf3 q2 to x1 x2 a3 := u2
    replace r2 : Heap.SameBut to p2 q2 := r2
    have ta4 := keepIt (keepIt ta2 s2 D.n12 D.l1n.2.2.2.1) r2 D.to1.symm D.l1n.2.1
    have tb4 := keepIt tb3 r2 D.to2.symm D.l2n.2.1
    have tc4 := keepIt (keepIt tc2 s2 D.n23.symm D.l3n.2.2.2.1) r2 D.to3.symm D.l3n.2.1
    refine wpAny_bind (wpAny_bind (wpAny_onRaise ?_))
    show wpAny _ _ (Builtin.SmallTypes.nextOf (.ref i3) >>= _) _ _ ⟨q2, gg, dd, tk, os⟩
    refine wpAny_bind (drawT (s := ⟨q2, gg, dd, tk, os⟩) tc4 D.l3n.2.2.2.2 hw fun p3 tc5 s3 => wpAny_pure ?_)
    replace s3 : Heap.SameBut i3 q2 p3 := s3
    have o3 : IsTupOf3 p3 to x1 x2 a3 := s3.extBut _ _ D.to3 u2
    refine wpAny_bind (wpAny_seqItems (s := ⟨p3, gg, dd, tk, os⟩) o3 rfl ?_)
    refine wpAny_bind (updateSeq_IsTupOf3 (s := ⟨p3, gg, dd, tk, os⟩) o3 fun q3 u3 r3 => wpAny_bind (wpAny_letGo (wpAny_pure (wpAny_pure ?_))))
    replace u3 : IsTupOf3 q3 to x1 x2 x3 := u3
    replace r3 : Heap.SameBut to p3 q3 := r3
    have ta6 := keepIt (keepIt ta4 s3 D.n13 D.l1n.2.2.2.2) r3 D.to1.symm D.l1n.2.1
    have tb6 := keepIt (keepIt tb4 s3 D.n23 D.l2n.2.2.2.2) r3 D.to2.symm D.l2n.2.1
    have tc6 := keepIt tc5 r3 D.to3.symm D.l3n.2.1
    refine wpAny_bind (wpAny_seqItems (s := ⟨q3, gg, dd, tk, os⟩) u3 rfl (wpAny_bind (wpAny_newTuple ?_)))
    have sz : q3.objs.size = hp.objs.size := by rw [r3.1, s3.1, r2.1, s2.1, r1.1, s1.1, s0.1, hs1.1]
    have hz3 : Zat q3 z ti to .ellipsis (.bool f1) := r3.extBut _ _ D.toz.symm (s3.extBut _ _ D.z3.symm (r2.extBut _ _ D.toz.symm (s2.extBut _ _ D.z2.symm (r1.extBut _ _ D.toz.symm (s1.extBut _ _ D.z1.symm z0)))))
    have kk : ∀ c o, c ≠ z → c ≠ to → c ≠ i1 → c ≠ i2 → c ≠ i3 → hp.get? c = some o → q3.get? c = some o := fun c o c0 ct c1 c2 c3 e =>
      r3.extBut _ _ ct (s3.extBut _ _ c3 (r2.extBut _ _ ct (s2.extBut _ _ c2 (r1.extBut _ _ ct (s1.extBut _ _ c1 (s0.extBut _ _ c0 (hs1.extBut _ _ c0 e)))))))
    have zlt : z < q3.objs.size := Heap.lt_size hz3
    show wpAny _ _ (Builtin.SmallTypes.ownedTupleHandOut (.ref z) (.ref q3.objs.size) >>= _) _ _ ⟨q3.push { cls := .type "tuple", data := .seq #[x1, x2, x3] }, gg, dd, tk, os⟩
    refine wpAny_bind ?_
    unfold Builtin.SmallTypes.ownedTupleHandOut
    have z5 : Zat (q3.push { cls := .type "tuple", data := .seq #[x1, x2, x3] }) z ti to .ellipsis (.bool f1) := Heap.get?_push_of_some _ hz3
    refine wpAny_bind (wpAny_setField_rec z5 (by simp) fun h7 z7 s7 => ?_)
    replace z7 : Zat h7 z ti to (rawInt q3.objs.size) (.bool f1) := z7
    replace s7 : Heap.SameBut z (q3.push { cls := .type "tuple", data := .seq #[x1, x2, x3] }) h7 := s7
    refine wpAny_setField_rec z7 (by simp) fun h8 z8 s8 => ?_
    replace z8 : Zat h8 z ti to (rawInt q3.objs.size) (.bool false) := z8
    replace s8 : Heap.SameBut z h7 h8 := s8
    have up : ∀ c o, c ≠ z → q3.get? c = some o → h8.get? c = some o := fun c o c1 e => s8.extBut _ _ c1 (s7.extBut _ _ c1 (Heap.get?_push_of_some _ e))
    have nw : IsTupOf3 h8 q3.objs.size x1 x2 x3 := s8.extBut _ _ (Nat.ne_of_gt zlt) (s7.extBut _ _ (Nat.ne_of_gt zlt) (Heap.get?_push_size _ rfl))
    have zw : h8.objs.size = q3.objs.size + 1 := by rw [s8.1, s7.1, Heap.size_push]
    have fin : ∀ {it l : Addr} {k : Nat} {vs : Array Value}, (q3.IsTupleIter it l k ∧ q3.IsTuple l vs) → it ≠ z → l ≠ z → h8.IsTupleIter it l k ∧ h8.IsTuple l vs := fun {it l k vs} st n1 n2 =>
      keepIt (keepIt ⟨st.1.at fun o e => Heap.get?_push_of_some _ e, st.2.push _⟩ s7 n1 n2) s8 n1 n2
    refine wpAny_pure ⟨_, rfl, ?_⟩
    show Q (.ref q3.objs.size) _
    rw [sz] at nw zw z8 ⊢
    exact hQ h8 _ false x1 x2 x3 (.inr ⟨_, rfl⟩) z8 (up _ _ D.toz u3) ⟨fin ta6 D.z1 D.l1n.1, fin tb6 D.z2 D.l2n.1, fin tc6 D.z3 D.l3n.1⟩ nw zw
      fun c o c0 ct c1 c2 c3 e => up c o c0 (kk c o c0 ct c1 c2 c3 e)

theorem end3 {Q : Fin → Shared → Prop} (hh : A.handled = none) (D : Far3 z ti to i1 i2 i3 l1 l2 l3) (ho : Out a) (hz : Zat s.heap z ti to a (.bool f))
    (hI : IsTupOf3 s.heap ti (.ref i1) (.ref i2) (.ref i3)) (st : s.heap.IsTupleIter i1 l1 i ∧ s.heap.IsTuple l1 xs) (hx : xs[i]? = none)
    (hE : ∀ h' e, (∀ c o, c ≠ z → c ≠ to → c ≠ i1 → c ≠ i2 → c ≠ i3 → s.heap.get? c = some o → h'.get? c = some o) → (∃ o, h'.get? e = some o ∧ o.cls = .type "StopIteration") → E (.ref e) { s with heap := h' }) :
    wpAny (model prog w) A (Builtin.«zip.__next__» ⟨[.ref z], []⟩) Q E s := by
  obtain ⟨hp, gg, dd, tk, os⟩ := s
  show wpAny _ _ (field (.ref z) 2 >>= _) _ _ _
  refine wpAny_bind (wpAny_field hz rfl (x := .bool false) rfl ?_)
  show wpAny _ _ (field (.ref z) 3 >>= _) _ _ _
  refine wpAny_bind (wpAny_field hz rfl (x := .ref ti) rfl ?_)
  refine wpAny_bind (wpAny_seqItems hI rfl ?_)
  show wpAny _ _ (Builtin.SmallTypes.ownedTupleIsFree (.ref z) >>= _) _ _ _
  refine wpAny_bind (freeOr ho hz fun b h1 f1 hz1 hs1 => ?_)
  replace hs1 : Heap.SameBut z hp h1 := hs1
  have sa1 := keepIt st hs1 D.z1 D.l1n.1
  cases b with
  | false =>
    simp only [Bool.false_eq_true, if_false]
    refine wpAny_bind ?_
    rw [← Array.forIn_toList]
    simp only [List.forIn_cons, List.forIn_nil]
    refine wpAny_bind (wpAny_bind (wpAny_holding ?_))
    show wpAny _ _ (Builtin.SmallTypes.nextOf (.ref i1) >>= _) _ _ ⟨h1, gg, dd, tk, os⟩
    refine wpAny_bind (RZ.nextOf_tuple_end (s := ⟨h1, gg, dd, tk, os⟩) hh sa1.1 sa1.2 hx fun h2 e hs2 he => ?_)
    exact hE h2 e (fun c o c0 _ c1 _ _ q => hs2 _ _ c1 (hs1.extBut _ _ c0 q)) he
  | true =>
    simp only [if_true]
    refine wpAny_bind (wpAny_rule ?_)
    refine wpAny_bind (wpAny_field (s := ⟨h1, gg, dd, tk, os⟩) hz1 rfl (x := .ref to) rfl ?_)
    refine wpAny_bind (wpAny_setField_rec (s := ⟨h1, gg, dd, tk, os⟩) hz1 (by simp) fun g0 z0 s0 => ?_)
    replace z0 : Zat g0 z ti to .ellipsis (.bool f1) := z0
    replace s0 : Heap.SameBut z h1 g0 := s0
    have ta0 := keepIt sa1 s0 D.z1 D.l1n.1
    refine wpAny_bind ?_
    simp only [List.zipIdx_cons, List.zipIdx_nil, List.forIn_cons, List.forIn_nil]
    refine wpAny_bind (wpAny_bind (wpAny_onRaise ?_))
    show wpAny _ _ (Builtin.SmallTypes.nextOf (.ref i1) >>= _) _ _ ⟨g0, gg, dd, tk, os⟩
    refine wpAny_bind (RZ.nextOf_tuple_end (s := ⟨g0, gg, dd, tk, os⟩) hh ta0.1 ta0.2 hx fun h2 e hs2 he => ?_)
    obtain ⟨oe, hoe, hce⟩ := he
    replace hs2 : Heap.ExtBut i1 g0 h2 := hs2
    replace hoe : h2.get? e = some oe := hoe
    have z2 : Zat h2 z ti to .ellipsis (.bool f1) := hs2 _ _ D.z1.symm z0
    have ne : e ≠ z := fun q => by subst q; rw [z2] at hoe; cases hoe; simp at hce
    refine wpAny_setField_rec (s := ⟨h2, gg, dd, tk, os⟩) z2 (by simp) fun h3 _ s3 => ?_
    replace s3 : Heap.SameBut z h2 h3 := s3
    exact hE h3 e (fun c o c0 _ c1 _ _ q => s3.extBut _ _ c0 (hs2 _ _ c1 (s0.extBut _ _ c0 (hs1.extBut _ _ c0 q)))) ⟨oe, s3.extBut _ _ ne hoe, hce⟩
end
end NB

set_option Elab.async false
set_option linter.all false
set_option maxRecDepth 100000
set_option maxHeartbeats 1000000
namespace NB
open PySem PySem.Spec PyProof.Rows L2

section
variable {prog : Program} {w : World} {A : Around} {E : Value → Shared → Prop} {s : Shared} {z ti to i1 i2 i3 l1 l2 l3 : Addr} {a a1 a2 a3 : Value} {f : Bool} {xs ys zs : Array Value} {i : Nat}

theorem pyNext3 {x1 x2 x3 : Value} {Q : Option Value → Shared → Prop} (D : Far3 z ti to i1 i2 i3 l1 l2 l3) (ho : Out a) (hz : Zat s.heap z ti to a (.bool f))
    (hI : IsTupOf3 s.heap ti (.ref i1) (.ref i2) (.ref i3)) (hO : IsTupOf3 s.heap to a1 a2 a3) (st : St3 s.heap i1 i2 i3 l1 l2 l3 xs ys zs i)
    (hx : xs[i]? = some x1) (hy : ys[i]? = some x2) (hw : zs[i]? = some x3)
    (hQ : ∀ (h' : Heap) (a' : Value) (g : Bool) (b1 b2 b3 : Value), Out a' → Zat h' z ti to a' (.bool g) → IsTupOf3 h' to b1 b2 b3 → St3 h' i1 i2 i3 l1 l2 l3 xs ys zs (i + 1) → IsTupOf3 h' s.heap.objs.size x1 x2 x3 → h'.objs.size = s.heap.objs.size + 1 →
      (∀ c o, c ≠ z → c ≠ to → c ≠ i1 → c ≠ i2 → c ≠ i3 → s.heap.get? c = some o → h'.get? c = some o) → Q (some (.ref s.heap.objs.size)) { s with heap := h' }) :
    wpAny (model prog w) A (pyNext (.ref z)) Q E s := by
  have ty : s.TypeIs (.ref z) "zip" := ⟨_, hz, rfl⟩
  unfold pyNext
  refine wpAny_bind (wpAny_attempt (wpAny_callSpecial?_slot (name := Str.ofString "__next__") ty F.slot_zip_next ?_))
  refine wpAny_call_entry F.slot_zip_next ty F.entry_zip_next ?_ (F.args_zip_next_1 _)
  exact next3 D ho hz hI hO st hx hy hw fun h' a' g b1 b2 b3 c1 c2 c3 c4 c5 c6 c7 => wpAny_pure (hQ h' a' g b1 b2 b3 c1 c2 c3 c4 c5 c6 c7)

theorem pyEnd3 {Q : Option Value → Shared → Prop} (hh : A.handled = none) (D : Far3 z ti to i1 i2 i3 l1 l2 l3) (ho : Out a) (hz : Zat s.heap z ti to a (.bool f))
    (hI : IsTupOf3 s.heap ti (.ref i1) (.ref i2) (.ref i3)) (st : s.heap.IsTupleIter i1 l1 i ∧ s.heap.IsTuple l1 xs) (hx : xs[i]? = none)
    (hQ : ∀ h', (∀ c o, c ≠ z → c ≠ to → c ≠ i1 → c ≠ i2 → c ≠ i3 → s.heap.get? c = some o → h'.get? c = some o) → Q none { s with heap := h' }) :
    wpAny (model prog w) A (pyNext (.ref z)) Q E s := by
  have ty : s.TypeIs (.ref z) "zip" := ⟨_, hz, rfl⟩
  unfold pyNext
  refine wpAny_bind (wpAny_attempt (wpAny_callSpecial?_slot (name := Str.ofString "__next__") ty F.slot_zip_next ?_))
  refine wpAny_call_entry F.slot_zip_next ty F.entry_zip_next (end3 hh D ho hz hI st hx fun h' e hk he => ?_) (F.args_zip_next_1 _)
  obtain ⟨o, h1, h2⟩ := he
  exact wpAny_bind (wpAny_isInstance (T := "StopIteration") (b := true) ⟨o, h1, h2⟩ isSubtype_stop (wpAny_pure (hQ _ hk)))

/-- ahead of the target's store: a target of several names lets the tuple go -/
theorem letGo3 {tg : Expr} {T : Addr} {Q : Unit → Shared → Prop} (ho : Out a) (hz : Zat s.heap z ti to a (.bool f))
    (h : ∀ (h' : Heap) (a' : Value), Out a' → Zat h' z ti to a' (.bool f) → Heap.SameBut z s.heap h' → Q () { s with heap := h' }) :
    wpAny (model prog w) A (letOwnedTupleGo tg (.ref z) (.ref T)) Q E s := by
  have same : Q () s := h s.heap a ho hz (Heap.SameBut.refl _ _)
  have main : wpAny (model prog w) A (do
      let o ← load z
      match o.cls, o.data with
      | .type n, .fields vs =>
        if ["enumerate", "zip", "dict_itemiterator", "dict_reverseitemiterator", "odict_iterator", "itertools.zip_longest", "itertools.pairwise"].contains n && vs[0]? == some (rawInt T) then
          rule "for.unpacks-the-owned-tuple"
          updateField z 0 .none
      | _, _ => pure ()) Q E s := by
    refine wpAny_bind (wpAny_load hz ?_)
    dsimp only
    split
    · refine wpAny_bind (wpAny_rule ?_)
      show wpAny _ _ (setField (.ref z) 0 .none) Q E s
      exact wpAny_setField_rec hz (by simp) fun h' z' s' => h h' .none (.inl rfl) z' s'
    · exact wpAny_pure same
  unfold letOwnedTupleGo
  cases tg <;> first
    | exact wpAny_pure same
    | exact main

theorem iter3 {Q : Value → Shared → Prop} (hz : Zat s.heap z ti to a (.bool f)) (h : Q (.ref z) s) : wpAny (model prog w) A (pyIter (.ref z)) Q E s := by
  have ty : s.TypeIs (.ref z) "zip" := ⟨_, hz, rfl⟩
  refine wpAny_pyIter_slot ty F.slot_zip_iter (wpAny_call_entry F.slot_zip_iter ty F.entry_zip_iter ?_ (F.args_zip_iter_1 _))
  show wpAny _ _ (ret (.ref z)) _ _ s
  exact wpAny_pure ⟨_, rfl, "zip", _, ty, F.slot_zip_next.lookup, h⟩
end

/-- three tuples of one length, turn by turn: a new tuple of the three items -/
def It3 (K : PySem.W.Frag) (a b c : Addr) : It :=
  ⟨fun i H => ∃ (xs ys zs : List V) (x y z : V), SqT K H a xs ∧ SqT K H b ys ∧ SqT K H c zs ∧ xs[i]? = some x ∧ ys[i]? = some y ∧ zs[i]? = some z,
    fun i H v H' => ∃ T x y z, v = .ref T ∧ H T = none ∧ H' = upd H T (.tup [x, y, z]) ∧ (∀ xs, SqT K H a xs → xs[i]? = some x) ∧ (∀ ys, SqT K H b ys → ys[i]? = some y) ∧ ∀ zs, SqT K H c zs → zs[i]? = some z,
    fun i H => ∃ xs : List V, SqT K H a xs ∧ xs.length ≤ i⟩

theorem turn3 {P : Program} {w : World} {K : PySem.W.Frag} {tg : Expr} {a b c z ti to i1 i2 i3 : Addr} (D : Far3 z ti to i1 i2 i3 a b c) :
    Turn P w K tg (It3 K a b c) [z, ti, to, i1, i2, i3] z (fun i h => (∃ v f, Out v ∧ Zat h z ti to v (.bool f)) ∧ IsTupOf3 h ti (.ref i1) (.ref i2) (.ref i3) ∧ (∃ b1 b2 b3, IsTupOf3 h to b1 b2 b3) ∧
      h.IsTupleIter i1 a i ∧ h.IsTupleIter i2 b i ∧ h.IsTupleIter i3 c i) where
  mem := by simp
  obj := fun i h st q hq => by
    obtain ⟨⟨v, f, _, hz⟩, hI, ⟨b1, b2, b3, hO⟩, ⟨o1, e1, _, d1⟩, ⟨o2, e2, _, d2⟩, ⟨o3, e3, _, d3⟩⟩ := st
    have e' : q = z ∨ q = ti ∨ q = to ∨ q = i1 ∨ q = i2 ∨ q = i3 := by simpa using hq
    rcases e' with r | r | r | r | r | r
    · rw [r]; exact ⟨_, hz, fun v q => nomatch q⟩
    · rw [r]; exact ⟨_, hI, fun v q => nomatch q⟩
    · rw [r]; exact ⟨_, hO, fun v q => nomatch q⟩
    · rw [r]; exact ⟨o1, e1, fun v q => by rw [d1] at q; cases q⟩
    · rw [r]; exact ⟨o2, e2, fun v q => by rw [d2] at q; cases q⟩
    · rw [r]; exact ⟨o3, e3, fun v q => by rw [d3] at q; cases q⟩
  keep := fun i h h' st k => by
    obtain ⟨⟨v, f, ho, hz⟩, hI, ⟨b1, b2, b3, hO⟩, h1, h2, h3⟩ := st
    exact ⟨⟨v, f, ho, k z (by simp) _ hz⟩, k ti (by simp) _ hI, ⟨b1, b2, b3, k to (by simp) _ hO⟩, h1.at fun o q => k i1 (by simp) o q, h2.at fun o q => k i2 (by simp) o q, h3.at fun o q => k i3 (by simp) o q⟩
  item := by
    intro X hP hw hK hc i pins s σ H E I hf st hg
    subst hP hw hK
    obtain ⟨⟨v, f, ho, hz⟩, hI, ⟨b1, b2, b3, hO⟩, h1, h2, h3⟩ := st
    obtain ⟨xs, ys, zs, x, y, u, qx, qy, qu, hx, hy, hu⟩ := hg
    obtain ⟨t1, r1, p1, _⟩ := I.tuple qx
    obtain ⟨t2, r2, p2, _⟩ := I.tuple qy
    obtain ⟨t3, r3, p3, _⟩ := I.tuple qu
    obtain ⟨v1, g1, rv1⟩ := r1.get hx
    obtain ⟨v2, g2, rv2⟩ := r2.get hy
    obtain ⟨v3, g3, rv3⟩ := r3.get hu
    have zl : z < s.heap.objs.size := Heap.lt_size hz
    refine pyNext3 D ho hz hI hO ⟨⟨h1, p1⟩, ⟨h2, p2⟩, ⟨h3, p3⟩⟩ (x1 := v1) (x2 := v2) (x3 := v3) (by simpa using g1) (by simpa using g2) (by simpa using g3) fun h' v' f' c1 c2 c3 ho' hz' hO' st' hT hsz hk => ?_
    refine ⟨_, rfl, letGo3 (s := { s with heap := h' }) ho' hz' fun h'' v'' ho'' hz'' sb => ?_⟩
    have hT2 : h''.get? s.heap.objs.size = some { cls := .type "tuple", data := .seq #[v1, v2, v3] } := (sb.2 _ (Nat.ne_of_gt zl)).trans hT
    have new : ObjOk X.prog X.w (upd H s.heap.objs.size (.tup [x, y, u])) h'' s.heap.objs.size (.tup [x, y, u]) :=
      ⟨by show 3 ≤ sizeLine; decide, [v1, v2, v3], .cons rv1 (.cons rv2 (.cons rv3 .nil)), ⟨_, hT2, rfl, _, rfl⟩⟩
    have I1 : Inv X pins σ (upd H s.heap.objs.size (.tup [x, y, u])) { s with heap := h'' } :=
      I.turnedNew (t' := s.toks) (ch := [z, ti, to, i1, i2, i3]) (fun q o hb e => (sb.2 q (fun q' => hb (by simp [q']))).trans
        (hk q o (fun q' => hb (by simp [q'])) (fun q' => hb (by simp [q'])) (fun q' => hb (by simp [q'])) (fun q' => hb (by simp [q'])) (fun q' => hb (by simp [q'])) e)) hf (Nat.le_refl _) new
    refine ⟨.ref s.heap.objs.size, _, I1, rfl, ⟨_, x, y, u, rfl, I.hok.fresh (Nat.le_refl _), rfl, fun l hl => by rw [I.tuple_inj hl qx]; exact hx, fun l hl => by rw [I.tuple_inj hl qy]; exact hy, fun l hl => by rw [I.tuple_inj hl qu]; exact hu⟩,
      ⟨⟨v'', f', ho'', hz''⟩, ?_, ⟨c1, c2, c3, (sb.2 _ D.toz).trans hO'⟩, st'.1.1.at fun o q => (sb.2 _ D.z1).trans q, st'.2.1.1.at fun o q => (sb.2 _ D.z2).trans q, st'.2.2.1.at fun o q => (sb.2 _ D.z3).trans q⟩, fun q hq => ?_⟩
    · exact (sb.2 _ D.tiz).trans (hk _ _ D.tiz D.tito D.ti1 D.ti2 D.ti3 hI)
    · have lt : q < s.heap.objs.size := by
        have e' : q = z ∨ q = ti ∨ q = to ∨ q = i1 ∨ q = i2 ∨ q = i3 := by simpa using hq
        rcases e' with r | r | r | r | r | r
        · rw [r]; exact zl
        · rw [r]; exact Heap.lt_size hI
        · rw [r]; exact Heap.lt_size hO
        · rw [r]; obtain ⟨_, e1, _⟩ := h1; exact Heap.lt_size e1
        · rw [r]; obtain ⟨_, e1, _⟩ := h2; exact Heap.lt_size e1
        · rw [r]; obtain ⟨_, e1, _⟩ := h3; exact Heap.lt_size e1
      rw [upd_ne (Nat.ne_of_lt lt)]
      exact (hf q hq).1
  done := by
    intro X hP hw hK hc i pins s σ H E I hf st hg
    subst hP hw hK
    obtain ⟨⟨v, f, ho, hz⟩, hI, ⟨b1, b2, b3, hO⟩, h1, h2, h3⟩ := st
    obtain ⟨xs, qx, hlen⟩ := hg
    obtain ⟨t1, r1, p1, _⟩ := I.tuple qx
    have le := r1.length
    refine pyEnd3 (I.ok.hd hc) D ho hz hI ⟨h1, p1⟩ (by simp; omega) fun h' hk => ⟨rfl, I.turnedL (t' := s.toks) (ch := [z, ti, to, i1, i2, i3]) (fun q o hb e => ?_) hf⟩
    exact hk q o (fun q' => hb (by simp [q'])) (fun q' => hb (by simp [q'])) (fun q' => hb (by simp [q'])) (fun q' => hb (by simp [q'])) (fun q' => hb (by simp [q'])) e
  self := fun A i s Q E st h => by
    obtain ⟨⟨v, f, _, hz⟩, _⟩ := st
    exact iter3 hz h

theorem far_at (n a b c : Nat) (ha : a < n) (hb : b < n) (hc : c < n) : Far3 (n + 5) (n + 3) (n + 4) n (n + 1) (n + 2) a b c := by
  constructor <;> first | (show (_ : Nat) ≠ _; omega) | (refine ⟨?_, ?_, ?_, ?_, ?_⟩ <;> (show (_ : Nat) ≠ _; omega))

def iZip3 (K : PySem.W.Frag) (ta : TA) : TI := fun σ H R => ta σ H fun vs H1 => ∃ a b c xs ys zs, vs = [.ref a, .ref b, .ref c] ∧ SqT K H1 a xs ∧ SqT K H1 b ys ∧ SqT K H1 c zs ∧ R (It3 K a b c) H1
/-- zip(e, e2, e3), tuples of one length; any target -/
theorem pi_zip3 {X : Cx} {tg e e2 e3 : Expr} {ta : TA} {p pos : Pos} (hg : Gl X "zip") (hm : X.mg "zip" = none) (ha : PA X [e, e2, e3] ta)
    (hs : starEach [e, e2, e3] X.env = (false, eval e X.env) :: starEach [e2, e3] X.env := by rfl) (hpl : (backTo pos (starEach [e2, e3] X.env)).any (·.1) = false := by rfl) :
    PI X tg (.Call (.Name "zip" p) [e, e2, e3] [] pos) (iZip3 X.K ta) := by
  refine ⟨fun pins s σ H R I h => ?_⟩
  refine Call_ (ld_blt I hg hm PyProof.Rows.boot_zip (PyProof.Rows.callWith_type1 (thn (ha.run pos pins s σ H _ I h) fun us s1 q => ?_) hs hpl))
  obtain ⟨vs, H1, I1, r1, a, b, c, xs, ys, zs, ex, q1, q2, q3, q⟩ := q
  subst ex
  cases r1 with
  | cons ra rr =>
    cases rr with
    | cons rb rr =>
      cases rr with
      | cons rc rr =>
        cases rr
        cases ra
        cases rb
        cases rc
        obtain ⟨t1, r1, p1, _⟩ := I1.tuple q1
        obtain ⟨t2, r2, p2, _⟩ := I1.tuple q2
        obtain ⟨t3, r3, p3, _⟩ := I1.tuple q3
        obtain ⟨o1, g1, _⟩ := id p1
        obtain ⟨o2, g2, _⟩ := id p2
        obtain ⟨o3, g3, _⟩ := id p3
        refine zip_begins3 (begins_tuple a t1.toArray) (begins_tuple b t2.toArray) (begins_tuple c t3.toArray) p1 p2 p3 fun h' hz hI hO e1 e2 e3 hsz hk => iter3 hz ?_
        have I2 : Inv X pins σ H1 { s1 with heap := h' } := I1.kept (t' := s1.toks) hk
        refine ⟨s1.heap.objs.size + 5, [s1.heap.objs.size + 5, s1.heap.objs.size + 3, s1.heap.objs.size + 4, s1.heap.objs.size, s1.heap.objs.size + 1, s1.heap.objs.size + 2], _, _, H1, rfl, I2, turn3 (far_at s1.heap.objs.size a b c (Heap.lt_size g1) (Heap.lt_size g2) (Heap.lt_size g3)),
          ⟨⟨.none, false, .inl rfl, hz⟩, hI, ⟨_, _, _, hO⟩, ⟨_, e1, rfl, rfl⟩, ⟨_, e2, rfl, rfl⟩, ⟨_, e3, rfl, rfl⟩⟩, fun q hq => ?_, q⟩
        have le : s1.heap.objs.size ≤ q := by
          have e' : q = s1.heap.objs.size + 5 ∨ q = s1.heap.objs.size + 3 ∨ q = s1.heap.objs.size + 4 ∨ q = s1.heap.objs.size ∨ q = s1.heap.objs.size + 1 ∨ q = s1.heap.objs.size + 2 := by simpa using hq
          rcases e' with r | r | r | r | r | r <;> rw [r] <;> first | exact Nat.le_add_right _ _ | exact Nat.le_refl _
        exact I1.fpOk le (I1.hok.fresh le)

/-- a new triple of the i-th ones -/
def Y3 (xs ys zs : List V) : Nat → Hp → V → Hp → Prop := fun i H v H' => ∃ T x y z, v = .ref T ∧ H T = none ∧ H' = upd H T (.tup [x, y, z]) ∧ xs[i]? = some x ∧ ys[i]? = some y ∧ zs[i]? = some z
theorem walk_zip3 {K : PySem.W.Frag} {a b c : Addr} {xs ys zs : List V} (h2 : ys.length = xs.length) (h3 : zs.length = xs.length) :
    Walk (It3 K a b c) xs.length (fun H => SqT K H a xs ∧ SqT K H b ys ∧ SqT K H c zs) (Y3 xs ys zs) := by
  refine ⟨fun i _ hi q => ?_, fun _ q => ⟨xs, q.1, Nat.le_refl _⟩, fun i H v H' _ q y => ?_⟩
  · exact ⟨xs, ys, zs, xs[i], ys[i]'(by omega), zs[i]'(by omega), q.1, q.2.1, q.2.2, by simp [hi], by simp [show i < ys.length by omega], by simp [show i < zs.length by omega]⟩
  · obtain ⟨T, x, y, z, e1, e2, e3, f1, f2, f3⟩ := y
    exact ⟨T, x, y, z, e1, e2, e3, f1 xs q.1, f2 ys q.2.1, f3 zs q.2.2⟩
theorem walk_zipT {K : PySem.W.Frag} {a b : Addr} {xs ys : List V} (h2 : ys.length = xs.length) :
    Walk (RZ.ItzT K a b) xs.length (fun H => SqT K H a xs ∧ SqT K H b ys) (YPair (fun i => xs[i]?) (fun i => ys[i]?)) := by
  refine ⟨fun i _ hi q => ?_, fun _ q => ⟨xs, ys, q.1, q.2, by omega⟩, fun i H v H' _ q y => ?_⟩
  · exact ⟨xs, ys, xs[i], ys[i]'(by omega), q.1, q.2, by simp [hi], by simp [show i < ys.length by omega]⟩
  · obtain ⟨T, x, u, e1, e2, e3, f1, f2⟩ := y
    exact ⟨T, x, u, e1, e2, e3, f1 xs q.1, f2 ys q.2⟩
end NB

set_option Elab.async false
set_option linter.all false
set_option maxRecDepth 100000
set_option maxHeartbeats 1000000
namespace NB
open PySem PySem.Spec PyProof.Rows L2

/-- the law's own call, its def kept to its promise where nothing is being shown -/
theorem law_end {P : Program} {w : World} {K : PySem.W.Frag} {mg mb : Str → Option Value} {k : Nat} {fa a : Addr} {fd : FuncData} {x : Str} {sp : Sp} {s : Shared} {vs : List Value} {ns : List Int}
    (hK : K.In s.heap) (hN : s.heap.Ns mainGlobals mg) (hB : s.heap.Ns builtinsNs mb) (hbb : ∀ x : Str, x ≠ "__name__" → mb x = bootBuiltins x) (lim : s.heap.NoLimit) (hg : s.gens = #[])
    (ha : s.heap.get? a = some { cls := .type "list", data := .seq vs.toArray }) (hi : IntsAre vs ns) (hl : ns.length ≤ sizeLine) (hr : Room k callerA)
    (F : ∀ base : Heap, K.In base → base.Ns mainGlobals mg → FnG P w K mg base k fa fd [x] sp) (hb : ∀ (s : Shared) (u : Value), BindsTo s fd ⟨[u], []⟩ [(x, u)])
    (hsp : ∀ H : Hp, SqL K H a (ns.map V.int) → sp [.ref a] H (fun v _ => v = .bl true) E0) :
    codeAny (model P w) callerA (.call (.ref fa) ⟨[.ref a], []⟩) (fun r s' => r = .ok (.ret (.bool true)) ∧ OldK s.heap s'.heap ∧ s'.os = s.os ∧ AllBare s'.gens) s := by
  have rv := vals_ints hi
  have lv := hi.length
  -- H: the script alone is tracked, or nothing
  suffices go : ∀ H : Hp, (∀ b, H b ≠ none → b = a ∧ K.lookup a = none ∧ ∃ o xs, H b = some (.frz o (.lst xs))) → SqL K H a (ns.map V.int) → HOk P w H s.heap →
      codeAny (model P w) callerA (.call (.ref fa) ⟨[.ref a], []⟩) (fun r s' => r = .ok (.ret (.bool true)) ∧ OldK s.heap s'.heap ∧ s'.os = s.os ∧ AllBare s'.gens) s by
    cases hk : K.lookup a with
    | some o =>
      have e := hK a o hk
      rw [ha] at e
      cases e
      refine go (fun _ => none) (fun b q => absurd rfl q) (.inr ⟨_, vs.toArray, _, hk, rfl, rfl, rfl, ?_, by simpa using rv⟩) (fun b u q => by cases (show (none : Option HO) = some u from q))
      rw [List.size_toArray, lv]
      exact hl
    | none =>
      refine go (fun b => if b = a then some (.frz { cls := .type "list", data := .seq vs.toArray } (.lst (ns.map V.int))) else none) (fun b q => ?_) (.inl (.inr ⟨_, if_pos rfl⟩)) (fun b u q => ?_)
      · by_cases h : b = a
        · exact ⟨h, hk, _, _, if_pos h⟩
        · exact absurd (if_neg h) q
      · by_cases h : b = a
        · have q' := (if_pos h).symm.trans q
          cases q'
          subst h
          exact ⟨ha, by rw [List.length_map]; exact hl, vs, _, rv, ha⟩
        · have q' := (if_neg h).symm.trans q
          cases q'
  intro H hO hS ok
  have dictFree : ∀ {b : Addr} {o : Obj} {es : Array DictEntry} {ep : Nat}, s.heap.get? b = some o → o.data = .dict es ep → H b = none := by
    intro b o es ep e d
    cases q : H b with
    | none => rfl
    | some u =>
      obtain ⟨e', _⟩ := hO b (by rw [q]; simp)
      subst e'
      rw [ha] at e
      cases e
      cases (show Data.seq vs.toArray _ = Data.dict es ep from d)
  have ns' : ∀ {b : Addr} {m : Str → Option Value}, s.heap.Ns b m → (hidT s.heap H).Ns b m := by
    rintro b m ⟨o, es, ep, e, d, r⟩
    exact ⟨o, es, ep, hidT_get e (dictFree e d), d, r⟩
  have kB : K.In (hidT s.heap H) := by
    intro b o e
    refine hidT_get (hK b o e) ?_
    cases q : H b with
    | none => rfl
    | some u =>
      obtain ⟨e', n, _⟩ := hO b (by rw [q]; simp)
      subst e'
      rw [n] at e
      cases e
  have md : Mod K mg (hidT s.heap H) := by
    obtain ⟨mc, h1, h2⟩ := lim
    exact ⟨kB, ns' hN, ⟨mb, ns' hB, hbb⟩, ⟨mc, ns' h1, h2⟩⟩
  have e0 : Env0 P w K mg (hidT s.heap H) callerA [] s H :=
    ⟨rfl, md, fun b o e => of_hidT e, Nat.le_of_eq (hidT_size _ _), trivial, fun b q => absurd (show b ∈ ([] : List Addr) from q) (by simp), ok, .of_eq hg⟩
  refine codeAny_mono ((F _ kB (ns' hN)).go callerA [] s H ⟨[.ref a], []⟩ [.ref a] [.ref a] _ _ rfl hr e0 (hb s (.ref a)) (.cons rfl .nil) (hsp H hS)) ?_
  intro r s' q
  cases r with
  | error e => exact False.elim q
  | ok fl =>
    cases fl with
    | next => exact False.elim q
    | brk => exact False.elim q
    | cont => exact False.elim q
    | ret u =>
      obtain ⟨v, H', os, bare, un, ok', r', q'⟩ := q
      have q2 : v = .bl true := q'
      subst q2
      obtain rfl : u = Value.bool true := r'
      refine ⟨rfl, OldK.of_keep fun b o e => ?_, os, bare⟩
      cases q : H b with
      | none => exact un.keep b o e q (fun z => absurd (show b ∈ ([] : List Addr) from z) (by simp)) (by simp)
      | some u =>
        obtain ⟨_, _, ob, xs, z⟩ := hO b (by rw [q]; simp)
        obtain ⟨e1, _⟩ := ok b _ z
        obtain ⟨e2, _⟩ := ok' b _ (un.frzs b ob _ z)
        rw [e] at e1
        cases e1
        exact e2

/-- what k_head leaves, from the promise of the law's def -/
theorem walkG {l : PySem.W.OpenLaw} {n k : Nat} {q : Program} {loose : List Str} {XP : (Str → Option Value) → Heap → Prop} {YP : World → Heap → Prop} {d : DefRec} {K : Params → PySem.W.Frag} {sp : World → Sp} {x : Str}
    (hn : l.most = some n) (hn2 : n ≤ sizeLine) (hdf : d.params.defaults = []) (hr : Room k callerA) (hY : ∀ (w : World) (h : Heap), YP w h → (K w.params).In h)
    (F : ∀ (w : World) (mg : Str → Option Value) (fa : Addr) (h : Heap), (K w.params).In h → h.Ns mainGlobals mg → mg d.name = some (.ref fa) →
      ∃ fd : FuncData, (∀ (s : Shared) (u : Value), BindsTo s fd ⟨[u], []⟩ [(x, u)]) ∧
        ∀ base : Heap, (K w.params).In base → base.Ns mainGlobals mg → FnG l.prog w (K w.params) mg base k fa fd [x] (sp w))
    (hsp : ∀ (w : World) (H : Hp) (a : Addr) (ns : List Int), ns.length ≤ n → SqL (K w.params) H a (ns.map V.int) → sp w [.ref a] H (fun v _ => v = .bl true) E0) :
    PySem.W.WalkO q loose XP YP l.row.toRowW d [] (fun f vs => PySem.call f vs) := by
  refine Att.attach_call hn hdf ?_
  intro w s₀ s₁ mg mb fa o pm cd doc a vs ns G Y ho hd hcd hmg hobj hints hlen hg
  have kX := hY w _ Y
  obtain ⟨fd, hb, hF⟩ := F w mg fa _ kX G.T.g hmg
  exact law_end kX G.T.g G.T.b G.T.builtins G.T.nolimit hg hobj hints (Nat.le_trans hlen hn2) hr hF hb fun H hS => hsp w H a ns hlen hS
end NB

set_option Elab.async false
set_option linter.all false
set_option maxRecDepth 100000
set_option maxHeartbeats 1000000
namespace NB
open PySem PySem.Spec PyProof.Rows L2
section
variable {prog : Program} {w : World} {A : Around} {E : Value → Shared → Prop} {s : Shared}
theorem sortedTuple {t : Addr} {vs : List Value} {ns : List Int} {Q : Value → Shared → Prop} (hl : s.heap.IsTuple t vs.toArray) (hI : IntsAre vs ns) (h64 : vs.length < 64)
    (h : ∀ (h1 h' : Heap) (p : Addr) (out : Array Value) (ep : Nat) (ns' : List Int), IntsAre out.toList ns' → ns'.Perm ns → ns'.Pairwise (· ≤ ·) → (∀ b o, s.heap.get? b = some o → h1.get? b = some o) → (∀ b o, h1.get? b = some o → h'.get? b = some o) → h1.objs.size ≤ p →
      h'.get? p = some (seqObj "list" out ep) → Q (.ref p) { s with heap := h' }) :
    wpAny (model prog w) A (call (.builtin "sorted") [.ref t]) Q E s := by
  obtain ⟨o, ho, hc, n, hd⟩ := hl
  refine Calls.call_function_entry kind_sorted plain_sorted entry_sorted (args_sorted1 _) ?_
  unfold Builtin.«sorted»
  refine wpAny_bind (m := checkCount "sorted" 1 1 _) (wpAny_pure ?_)
  refine wpAny_bind (wpAny_collect_seq t (.inr rfl) ho hc hd (fun h1 hk => ?_) (by rw [List.size_toArray, sizeLine_eq]; omega))
  refine wpAny_bind (wpAny_newList ?_)
  have e0 : (vs.toArray.toList) = vs := rfl
  have hoL : (h1.push (seqObj "list" vs.toArray 0)).get? h1.objs.size = some (seqObj "list" vs.toArray 0) := Heap.get?_push_size _ rfl
  show wpAny _ _ _ _ _ { s with heap := h1.push (seqObj "list" vs.toArray 0) }
  refine wpAny_bind (wpAny_holding (wpAny_call_entry slot_list_sort ⟨_, hoL, rfl⟩ entry_list_sort (list_sort_tree hoL hI h64 fun out ns' q1 q2 q3 => ⟨_, rfl, ?_⟩) (args_list_sort _)))
  refine wpAny_pure ⟨_, rfl, ?_⟩
  obtain ⟨ep, hat⟩ := sortedHeap_at (vs := vs) (out := out) hoL
  refine h h1 _ h1.objs.size out ep ns' q1 q2 q3 hk (fun b o q => ?_) (Nat.le_refl _) hat
  have lt := Heap.lt_size q
  rw [sortedHeap_old (Nat.ne_of_lt lt) (by rw [size_push']; exact Nat.lt_succ_of_lt lt)]
  exact Heap.get?_push_of_some _ q
end
section
variable {X : Cx}
/-- sorted(t), t a tuple of few ints -/
def rSortT (K : PySem.W.Frag) : List V → Hp → VK → Prop := fun vs H Q => ∃ (a : Addr) (ns : List Int), vs = [V.ref a] ∧ SqT K H a (ns.map V.int) ∧ ns.length < 64 ∧
  ∀ (ns' : List Int) (p : Addr), ns'.Perm ns → ns'.Pairwise (· ≤ ·) → H p = none → Q (.ref p) (upd H p (.lst (ns'.map V.int)))
theorem cr_sortT : CallR X (.builtin "sorted") (rSortT X.K) := by
  intro pins s σ H vs us Q I r h
  obtain ⟨a, ns, rfl, hs, h64, q⟩ := h
  obtain ⟨its, rv, hl, _⟩ := I.tuple hs
  rw [Vals.ref1 r]
  have hi := rv.ints
  refine sortedTuple hl hi (by rw [hi.length]; exact h64) fun h1 h' p out ep ns' q1 q2 q3 k1 k2 hp hat => ?_
  have I1 : Inv X pins σ H { s with heap := h1 } := I.kept (t' := s.toks) k1
  have hlen : (ns'.map V.int).length ≤ sizeLine := by rw [List.length_map, q2.length_eq]; exact small64 h64
  exact ⟨.ref p, upd H p (.lst (ns'.map V.int)), I1.laid (t' := s.toks) k2 hp ⟨hlen, out.toList, ep, vals_of_ints q1, hat⟩, rfl, q ns' p q2 q3 (I1.hok.fresh hp)⟩

theorem perm_sum {l l' : List Int} (h : l.Perm l') : l.sum = l'.sum := by
  induction h with
  | nil => rfl
  | cons x _ ih => simp only [List.sum_cons, ih]
  | swap x y l => simp only [List.sum_cons]; omega
  | trans _ _ i1 i2 => exact i1.trans i2
/-- the middle one of three -/
def mid3 (a b c : Int) : Int := if a ≤ b then (if b ≤ c then b else if a ≤ c then c else a) else (if a ≤ c then a else if b ≤ c then c else b)
theorem mid_of_sorted {a b c x y z : Int} (p : [x, y, z].Perm [a, b, c]) (s : [x, y, z].Pairwise (· ≤ ·)) : y = mid3 a b c := by
  have h1 : x ≤ y ∧ y ≤ z := by
    rw [List.pairwise_cons, List.pairwise_cons] at s
    exact ⟨s.1 y (by simp), s.2.1 z (by simp)⟩
  have ha : a ∈ [x, y, z] := p.symm.subset (by simp)
  have hb : b ∈ [x, y, z] := p.symm.subset (by simp)
  have hc : c ∈ [x, y, z] := p.symm.subset (by simp)
  have hs : x + y + z = a + b + c := by
    have e := perm_sum p
    simp only [List.sum_cons, List.sum_nil] at e
    omega
  simp only [List.mem_cons, List.not_mem_nil, or_false] at ha hb hc
  unfold mid3
  rcases ha with e | e | e <;> rcases hb with f | f | f <;> rcases hc with g | g | g <;> split <;> split <;> (try split) <;> omega
theorem max3 (hc : X.calm = true) : CallR X (.builtin "max") (fun xs H Q => ∃ i j k : Int, xs = [.int i, .int j, .int k] ∧ Q (.int (max (max i j) k)) H) := by
  intro pins s σ H xs us Q I r h
  obtain ⟨i, j, k, rfl, q⟩ := h
  refine call_max3Nu hc pins s σ H _ us Q I r ⟨_, _, _, _, rfl, ?_, q⟩
  have two : ∀ a b : Int, nuMax2 (.int a) (.int b) = some (.int (max a b)) := fun a b => by
    show some (if decide (a < b) = true then V.int b else V.int a) = _
    by_cases h : a < b
    · rw [if_pos (decide_eq_true h), Int.max_eq_right (Int.le_of_lt h)]
    · rw [if_neg (by simpa using h), Int.max_eq_left (by omega)]
  show (nuMax2 (.int i) (.int j)).bind (fun m => nuMax2 m (.int k)) = _
  rw [two]
  exact two _ _
theorem min3 (hc : X.calm = true) : CallR X (.builtin "min") (fun xs H Q => ∃ i j k : Int, xs = [.int i, .int j, .int k] ∧ Q (.int (min (min i j) k)) H) := by
  intro pins s σ H xs us Q I r h
  obtain ⟨i, j, k, rfl, q⟩ := h
  refine call_min3Nu hc pins s σ H _ us Q I r ⟨_, _, _, _, rfl, ?_, q⟩
  have two : ∀ a b : Int, nuMin2 (.int a) (.int b) = some (.int (min a b)) := fun a b => by
    show some (if decide (b < a) = true then V.int b else V.int a) = _
    by_cases h : b < a
    · rw [if_pos (decide_eq_true h), Int.min_eq_right (Int.le_of_lt h)]
    · rw [if_neg (by simpa using h), Int.min_eq_left (by omega)]
  show (nuMin2 (.int i) (.int j)).bind (fun m => nuMin2 m (.int k)) = _
  rw [two]
  exact two _ _
/-- a ** b: the result within 2 ^ 27 bits -/
def CPowW (i j : Int) : Prop := 0 ≤ j ∧ (Builtin.Int.intBits i : Int) * j ≤ 2 ^ 27
theorem op_powW : OpR X (binaryOp .Pow) (rI CPowW fun i j => .int (i ^ j.toNat)) := opI fun _ _ _ _ _ _ _ hc q => pow_int hc.1 hc.2 q
end
end NB

set_option Elab.async false
set_option linter.all false
set_option maxRecDepth 100000
set_option maxHeartbeats 1000000
/-! enumerate of a tuple -/
namespace NB
open PySem PySem.Spec PyProof.Rows L2

theorem enumNewT (l : Addr) (items : Array Value) : Meets (Builtin.«enumerate.__new__» ⟨[.type "enumerate", .ref l], []⟩) (fun _ R s => s.heap.IsTuple l items ∧
      R (.ok (.ret (.ref (s.heap.push { cls := .type "tuple_iterator", data := .fields #[.ref l, .int 0 0] }).objs.size)))
        { s with heap := (s.heap.push { cls := .type "tuple_iterator", data := .fields #[.ref l, .int 0 0] }).push { cls := .type "enumerate", data := .fields #[.none, .bool false, .ref s.heap.objs.size, rawInt 0, .none, .none] } }) :=
  .of_wp fun prog w A R s h => by
    obtain ⟨hp, g, d, tk, os⟩ := s
    obtain ⟨hl, h⟩ := h
    have hsub := sub_enumerate
    have hL : Heap.IsTuple (Shared.heap ⟨hp, g, d, tk, os⟩) l items := hl
    wp_walk
    refine wpAny_stack_any fun st => wpAny_pure ?_
    split
    · rename_i c _ _ _ _ _
      cases (c == Value.type "enumerate")
      · wp_walk using wpAny_pyIter_tuple hL
        exact ⟨_, rfl, h⟩
      · wp_walk using wpAny_pyIter_tuple hL
        exact ⟨_, rfl, h⟩
    · wp_walk using wpAny_pyIter_tuple hL
      exact ⟨_, rfl, h⟩
section
variable {prog : Program} {w : World} {A : Around} {E : Value → Shared → Prop} {s : Shared}
theorem enumT {l : Addr} {items : Array Value} {Q : Value → Shared → Prop} (hL : s.heap.IsTuple l items)
    (h : ∀ h', IsEnum h' (s.heap.objs.size + 1) s.heap.objs.size 0 .none → h'.IsTupleIter s.heap.objs.size l 0 → (∀ b o, s.heap.get? b = some o → h'.get? b = some o) → Q (.ref (s.heap.objs.size + 1)) { s with heap := h' }) :
    wpAny (model prog w) A (call (.type "enumerate") [.ref l]) Q E s := by
  refine callType_new F.called_enumerate (by decide) (F.typeCall_enumerate_1 _) (F.newCall_enumerate_1 _) (fun obj => F.args_object_init_2 obj _) F.entry_enumerate_new (enumNewT l items) ⟨hL, ?_⟩
  have z : (s.heap.push { cls := .type "tuple_iterator", data := .fields #[.ref l, .int 0 0] }).objs.size = s.heap.objs.size + 1 := Heap.size_push ..
  have he := Heap.get?_push_size (s.heap.push { cls := .type "tuple_iterator", data := .fields #[.ref l, .int 0 0] }) (o := { cls := .type "enumerate", data := .fields #[.none, .bool false, .ref s.heap.objs.size, rawInt 0, .none, .none] }) rfl
  show _ ∧ _
  rw [z] at he ⊢
  exact ⟨⟨_, he, rfl⟩, h _ he ⟨_, Heap.get?_push_of_some _ (Heap.get?_push_size _ rfl), rfl, rfl⟩ fun b o x => Heap.get?_push_of_some _ (Heap.get?_push_of_some _ x)⟩
end
/-- a tuple's items with their numbers, in new pairs -/
def ItE (K : PySem.W.Frag) (a : Addr) : It :=
  ⟨fun i H => ∃ (xs : List V) (x : V), SqT K H a xs ∧ xs[i]? = some x,
    fun i H v H' => ∃ T x, v = .ref T ∧ H T = none ∧ H' = upd H T (.tup [.int (i : Nat), x]) ∧ ∀ xs, SqT K H a xs → xs[i]? = some x,
    fun i H => ∃ xs : List V, SqT K H a xs ∧ xs.length = i⟩
theorem turnE {P : Program} {w : World} {K : PySem.W.Frag} {elts : List Expr} {kk : Nat} {tpos : Pos} (a e it : Addr) (n1 : e ≠ it) (n2 : a ≠ it) (n3 : e ≠ a) :
    Turn P w K (.Tuple elts kk tpos) (ItE K a) [e, it] e (fun i h => (∃ old, IsEnum h e it ((i : Nat) : Int) old) ∧ h.IsTupleIter it a i) where
  mem := by simp
  obj := fun i h st b hb => by
    obtain ⟨⟨old, he⟩, ⟨o, ho, hc, hd⟩⟩ := st
    have e' : b = e ∨ b = it := by simpa using hb
    rcases e' with z | z
    · rw [z]; exact ⟨_, he, fun v q => nomatch q⟩
    · rw [z]; exact ⟨o, ho, fun v q => by rw [hd] at q; cases q⟩
  keep := fun i h h' st k => by
    obtain ⟨⟨old, he⟩, hi⟩ := st
    exact ⟨⟨old, k e (by simp) _ he⟩, hi.at fun o q => k it (by simp) o q⟩
  item := by
    intro X hP hw hK hc i pins s σ H E I hf st hg
    subst hP hw hK
    obtain ⟨⟨old, he⟩, hit⟩ := st
    obtain ⟨xs, x, hq, hx⟩ := hg
    obtain ⟨its, rv, p, hz⟩ := I.tuple hq
    obtain ⟨u, hu, ru⟩ := rv.get hx
    have hel : e < s.heap.objs.size := Heap.lt_size he
    have hil : it < s.heap.objs.size := by obtain ⟨_, q, _⟩ := hit; exact Heap.lt_size q
    have lt : i < its.toArray.size := by
      have : i < its.length := by
        rcases Nat.lt_or_ge i its.length with q | q
        · exact q
        · rw [List.getElem?_eq_none q] at hu
          cases hu
      simpa using this
    have hD := I.ok.hd hc
    refine wpAny_pyNext_enum_itemD (Draws.tuple (A := X.A.in1) hD it a n2 its.toArray) he ⟨hit, p⟩ lt n1 (by simp; exact ⟨n1, n3⟩) fun y h' tk hy ho st' hT hsz hk => ?_
    have ey : y = u := by
      have q : its.toArray[i]? = some u := by simpa using hu
      exact Option.some.inj (hy.symm.trans q)
    subst ey
    refine ⟨_, rfl, wpAny_letOwnedTupleGo_enum (s := { s with heap := h', toks := tk + 1 }) ho fun h'' he' sb => ?_⟩
    have hT2 : h''.get? s.heap.objs.size = some { cls := .type "tuple", data := .seq #[.int i tk, y] } := (sb.2 _ (Nat.ne_of_gt hel)).trans hT
    have new : ObjOk X.prog X.w (upd H s.heap.objs.size (.tup [.int (i : Nat), x])) h'' s.heap.objs.size (.tup [.int (i : Nat), x]) :=
      ⟨by show 2 ≤ sizeLine; decide, [.int i tk, y], .cons ⟨_, rfl⟩ (.cons ru .nil), ⟨_, hT2, rfl, _, rfl⟩⟩
    have I1 : Inv X pins σ (upd H s.heap.objs.size (.tup [.int (i : Nat), x])) { s with heap := h'', toks := tk + 1 } :=
      I.turnedNew (ch := [e, it]) (fun b ob hb q => (sb.2 b (fun z => hb (by simp [z]))).trans (hk b ob (fun z => hb (by simp [z])) (fun z => hb (by simp [z])) q)) hf (Nat.le_refl _) new
    refine ⟨.ref s.heap.objs.size, _, I1, rfl, ⟨_, x, rfl, I.hok.fresh (Nat.le_refl _), rfl, fun ys hy => by rw [I.tuple_inj hy hq]; exact hx⟩, ⟨⟨y, ?_⟩, st'.1.at fun o q => (sb.2 it n1.symm).trans q⟩, fun b hb => ?_⟩
    · rw [show ((i + 1 : Nat) : Int) = (i : Int) + 1 by omega]
      exact he'
    · have hb' : b < s.heap.objs.size := by
        have e' : b = e ∨ b = it := by simpa using hb
        rcases e' with z | z
        · rw [z]; exact hel
        · rw [z]; exact hil
      rw [upd_ne (Nat.ne_of_lt hb')]
      exact (hf b hb).1
  done := by
    intro X hP hw hK hc i pins s σ H E I hf st hg
    subst hP hw hK
    obtain ⟨⟨old, he⟩, hit⟩ := st
    obtain ⟨xs, hq, hx⟩ := hg
    obtain ⟨its, rv, p, hz⟩ := I.tuple hq
    obtain ⟨f0, f1, f2, f3, f4, f5⟩ := hf it (by simp)
    have le : i = its.toArray.size := by
      have := rv.length
      simp
      omega
    subst le
    exact wpAny_pyNext_enum_endD (Draws.tuple (A := X.A.in1) (I.ok.hd hc) it a n2 its.toArray) he ⟨hit, p⟩ fun h' eb => ⟨rfl, I.turned (t' := s.toks) (fun b o hb q => eb b o hb q) f0 f1 f3 f4 f5⟩
  self := fun A i s Q E st h => by
    obtain ⟨⟨_, he⟩, _⟩ := st
    exact wpAny_pyIter_enum he h
def iEnumT (K : PySem.W.Frag) (ta : TA) : TI := fun σ H R => ta σ H fun vs H1 => ∃ a xs, vs = [.ref a] ∧ SqT K H1 a xs ∧ R (ItE K a) H1
theorem pi_enumT {X : Cx} {e : Expr} {ta : TA} {p pos tpos : Pos} {elts : List Expr} {kk : Nat} (hg : Gl X "enumerate") (hm : X.mg "enumerate" = none) (ha : PA X [e] ta) (hs : starEach [e] X.env = [(false, eval e X.env)] := by rfl) :
    PI X (.Tuple elts kk tpos) (.Call (.Name "enumerate" p) [e] [] pos) (iEnumT X.K ta) := by
  refine ⟨fun pins s σ H R I h => ?_⟩
  refine Call_ (ld_blt I hg hm boot_enumerate (PyProof.Rows.callWith_type1 (thn (ha.run pos pins s σ H _ I h) ?_) hs rfl))
  rintro us s1 ⟨vs, H1, I1, r1, a, xs, ex, hq, q⟩
  subst ex
  cases r1 with
  | cons r rr =>
    cases rr
    cases r
    obtain ⟨its, rv, p', hz⟩ := I1.tuple hq
    obtain ⟨o, g, _⟩ := id p'
    have la : a < s1.heap.objs.size := Heap.lt_size g
    refine enumT (items := its.toArray) p' fun h' he hit hk => wpAny_pyIter_enum he ?_
    have I2 : Inv X pins σ H1 { s1 with heap := h' } := I1.kept (t' := s1.toks) hk
    refine ⟨s1.heap.objs.size + 1, [s1.heap.objs.size + 1, s1.heap.objs.size], _, _, H1, rfl, I2, turnE a (s1.heap.objs.size + 1) s1.heap.objs.size (Nat.succ_ne_self _) (Nat.ne_of_lt la) (Nat.ne_of_gt (Nat.lt_succ_of_lt la)), ⟨⟨.none, he⟩, hit⟩, fun b hb => ?_, q⟩
    have e' : b = s1.heap.objs.size + 1 ∨ b = s1.heap.objs.size := by simpa using hb
    have hle : s1.heap.objs.size ≤ b := by
      rcases e' with z | z
      · rw [z]; exact Nat.le_add_right _ _
      · rw [z]; exact Nat.le_refl _
    exact I1.fpOk hle (I1.hok.fresh hle)
theorem walk_enumT {K : PySem.W.Frag} {a : Addr} {xs : List V} : Walk (ItE K a) xs.length (fun H => SqT K H a xs) (YPair (fun i => some (.int (i : Nat))) (fun i => xs[i]?)) := by
  refine ⟨fun i _ hi q => ⟨xs, xs[i], q, by simp [hi]⟩, fun _ q => ⟨xs, q, rfl⟩, fun i H v H' _ q y => ?_⟩
  obtain ⟨T, x, h1, h2, h3, h4⟩ := y
  exact ⟨T, .int (i : Nat), x, h1, h2, h3, rfl, h4 xs q⟩
end NB

set_option Elab.async false
set_option linter.all false
set_option maxRecDepth 100000
/-! t[::-1] of a tuple; repr of a truth. -/
namespace NB
open PySem PySem.Spec PyProof.Rows L2 HT

section
variable {prog : Program} {w : World} {A : Around} {E : Value → Shared → Prop} {s : Shared}
theorem adjust_back (n : Nat) : Builtin.Slice.sliceAdjust none none (-1) (n : Int) = ((n : Int) - 1, -1) := by
  unfold Builtin.Slice.sliceAdjust
  first
  | rfl
  | simp
theorem places_back (n : Nat) : Builtin.Slice.slicePlaces ((n : Int) - 1) (-1) (-1) = n := by
  unfold Builtin.Slice.slicePlaces
  have h1 : ¬ ((-1 : Int) > 0) := by decide
  simp only [h1, if_false]
  split <;> simp <;> omega
theorem sliceBack {sl : Addr} {vl vu vk : Value} {n : Nat} {Q : Int × Int × Nat → Shared → Prop} (hs : s.heap.IsSliceOf sl vl vu vk) (pl : IsPart vl none) (pu : IsPart vu none) (pk : IsPart vk (some (-1)))
    (h : Q ((n : Int) - 1, -1, n) s) : wpAny (model prog w) A (Builtin.Slice.sliceApplied (.ref sl) (pure (n : Int))) Q E s := by
  obtain ⟨os, hos, hcs, hds⟩ := id hs
  unfold Builtin.Slice.sliceApplied Builtin.Slice.sliceFields
  refine wpAny_bind (wpAny_bind (wpAny_field hos hds (x := vl) rfl (wpAny_bind (wpAny_field hos hds (x := vu) rfl (wpAny_bind (wpAny_field hos hds (x := vk) rfl (wpAny_pure ?_)))))))
  refine wpAny_bind (slicePart_ pk ?_)
  show wpAny _ _ (if ((-1 : Int) == 0) = true then _ else _) _ _ s
  rw [if_neg (by decide)]
  refine wpAny_bind (slicePart_ pl (wpAny_bind (slicePart_ pu (wpAny_bind (wpAny_pure ?_)))))
  show wpAny _ _ (match Builtin.Slice.sliceAdjust none none (-1) (n : Int) with | (lo, hi) => pure (lo, (-1 : Int), Builtin.Slice.slicePlaces lo hi (-1))) _ _ s
  rw [adjust_back n]
  show wpAny _ _ (pure ((n : Int) - 1, (-1 : Int), Builtin.Slice.slicePlaces ((n : Int) - 1) (-1) (-1))) _ _ s
  rw [places_back]
  exact wpAny_pure h
theorem pick_back (xs : Array Value) : ((List.range xs.size).filterMap fun (m : Nat) => xs[(((xs.size : Int) - 1) + (m : Int) * -1).toNat]?).toArray = xs.toList.reverse.toArray := by
  have e : ((List.range xs.size).filterMap fun (m : Nat) => xs[(((xs.size : Int) - 1) + (m : Int) * -1).toNat]?) = ((List.range xs.size).map fun k => xs.size - 1 - k).filterMap (xs[·]?) := by
    rw [List.filterMap_map]
    congr 1
    funext m
    have : (((xs.size : Int) - 1) + (m : Int) * -1).toNat = xs.size - 1 - m := by omega
    rw [this]
    rfl
  rw [e, PySem.W.krv_range, List.filterMap_reverse, PySem.W.krv_all]
theorem getItem_tuple_back {t sl : Addr} {items : Array Value} {vl vu vk : Value} {Q : Value → Shared → Prop} (ht : IsTup s.heap t items) (hs : s.heap.IsSliceOf sl vl vu vk) (pl : IsPart vl none) (pu : IsPart vu none) (pk : IsPart vk (some (-1)))
    (h : Q (.ref s.heap.objs.size) { s with heap := s.heap.push { cls := .type "tuple", data := .seq items.toList.reverse.toArray } })
    (hsz : items.size ≤ sizeLine) : wpAny (model prog w) A (getItem (.ref t) (.ref sl)) Q E s := by
  have htake : sizeOk (.seq items.toList.reverse.toArray) := by
    show items.toList.reverse.toArray.size ≤ sizeLine
    rw [List.size_toArray, List.length_reverse, Array.length_toList]
    exact hsz
  obtain ⟨os, hos, hcs, hds⟩ := id hs
  have hTs : s.TypeIs (.ref sl) "slice" := ⟨os, hos, hcs⟩
  unfold getItem
  try with_reducible refine wpAny_holding ?_
  first | refine wpAny_bind (wpAny_pure ?_) | skip
  refine wpAny_bind (wpAny_sequenceKey ht.typeIs (by decide) ?_)
  refine wpAny_bind (wpAny_callSpecial?_slot (name := Str.ofString "__getitem__") ht.typeIs PyProof.Rows.slot_tuple_getitem
    (wpAny_call_entry PyProof.Rows.slot_tuple_getitem ht.typeIs entry_tuple_getitem ?_ (args_tuple_getitem _ _)))
  show wpAny _ _ (Builtin.Tuple.tupleItemsOf (.ref t) >>= _) _ _ s
  refine wpAny_bind (tupleItemsOf_ ht ?_)
  refine wpAny_bind (wpAny_typeOf hTs ?_)
  rw [if_pos (by decide)]
  refine wpAny_bind (sliceBack hs pl pu pk ?_)
  have hno : ¬ ((((items.size : Int) - 1) == 0 && (-1 : Int) == 1 && items.size == items.size) = true) := by
    intro q
    rw [Bool.and_eq_true, Bool.and_eq_true] at q
    exact absurd q.1.2 (by decide)
  show wpAny _ _ (if (((items.size : Int) - 1) == 0 && (-1 : Int) == 1 && items.size == items.size) = true then _ else _) _ _ s
  rw [if_neg hno, pick_back]
  first
    | exact wpAny_bind (m := Builtin.Tuple.tupleExact _) (wpAny_newObj_type (wpAny_pure ⟨_, rfl, wpAny_pure h⟩) htake)
    | exact wpAny_bind (m := Builtin.Tuple.tupleExact _) (wpAny_newObj_type (wpAny_bind (wpAny_pure (wpAny_pure ⟨_, rfl, wpAny_pure h⟩))) htake)
    | exact wpAny_bind (wpAny_bind (m := Builtin.Tuple.tupleExact _) (wpAny_newObj_type (wpAny_pure (wpAny_pure ⟨_, rfl, wpAny_pure h⟩)) htake))
    | exact wpAny_bind (wpAny_bind (m := Builtin.Tuple.tupleExact _) (wpAny_newObj_type (wpAny_pure ⟨_, rfl, wpAny_pure h⟩) htake))
end

section
variable {X : Cx}
def tRevT (K : PySem.W.Frag) (te : TE) : TE := fun σ H Q => te σ H fun x H1 => ∃ a xs, x = .ref a ∧ SqT K H1 a xs ∧ ∀ p, H1 p = none → Q (.ref p) (upd H1 p (.tup xs.reverse))
theorem pe_revT {e : Expr} {te : TE} {k : Nat} {p1 p2 p3 pos : Pos} (he : PE X e te) : PE X (.Subscript e (.Slice none none (some (.UnaryOp .USub (.Constant (.int 1) k p1) p2)) p3) pos) (tRevT X.K te) := by
  refine ⟨fun pins s σ H Q I h => ?_⟩
  refine Subscript_ (thn (he.run pins s σ H _ I h) fun v s1 ⟨x, H1, I1, r1, q1⟩ => ?_)
  obtain ⟨a, xs, ex, hx, q⟩ := q1
  subst ex
  cases r1
  have hst : PO X (some (.UnaryOp .USub (.Constant (.int 1) k p1) p2)) (tPart (tUn (rU fun i => .int (-i)) (tC (.int 1)))) := po_some (pe_un un_neg pe_int)
  refine wpAny_Slice (thn (po_none.run pins s1 σ H1 (fun o H2 => o = none ∧ H2 = H1) I1 ⟨rfl, rfl⟩) fun vl s2 ⟨l, H2, I2, pl, el, e2⟩ => ?_)
  subst el e2
  refine thn (po_none.run pins s2 σ H2 (fun o H3 => o = none ∧ H3 = H2) I2 ⟨rfl, rfl⟩) fun vu s3 ⟨u, H3, I3, pu, eu, e3⟩ => ?_
  subst eu e3
  refine thn (hst.run pins s3 σ H3 (fun o H4 => o = some (-1) ∧ H4 = H3) I3 ⟨1, rfl, -1, rfl, rfl, rfl⟩) fun vs s4 ⟨o, H4, I4, ps, eo, e4⟩ => ?_
  subst eo e4
  have I5 : Inv X pins σ H4 { s4 with heap := s4.heap.push { cls := .type "slice", data := .fields #[vl, vu, vs] } } := I4.kept (t' := s4.toks) fun b ob q => Heap.get?_push_of_some _ q
  obtain ⟨its, r, ht, hz⟩ := I5.tuple hx
  have hlen := r.length
  show wpAny (model X.prog X.w) X.A (subscriptTail e (.Slice none none (some (.UnaryOp .USub (.Constant (.int 1) k p1) p2)) p3) (.ref a) (.ref s4.heap.objs.size)) (EP X pins σ Q) X.xe { s4 with heap := s4.heap.push { cls := .type "slice", data := .fields #[vl, vu, vs] } }
  refine tail_any (ops := [.ref a, .ref s4.heap.objs.size]) ht.typeIs (PyProof.Rows.slot_tuple_getitem.lookup) ?_ (by with_unfolding_all rfl)
  refine getItem_tuple_back ht (Heap.IsSliceOf.new _ vl vu vs) pl pu ps ?_ (by rw [List.size_toArray]; omega)
  refine ⟨.ref _, _, I5.laid (t' := s4.toks) (o := .tup xs.reverse) (fun b ob q => Heap.get?_push_of_some _ q) (Nat.le_refl _) ?_, rfl, q _ (I5.hok.fresh (Nat.le_refl _))⟩
  exact ⟨by rw [List.length_reverse]; exact hz, _, r.reverse, IsTup.new _ _⟩

/-- how a truth is written -/
def shB (b : Bool) : Str := if b then "True" else "False"
/-- repr(b), b a truth -/
theorem call_reprB : CallR X (.builtin "repr") (fun xs H Q => ∃ b, xs = [.bl b] ∧ Q (.str (shB b)) H) := by
  intro pins s σ H xs us Q I r h
  obtain ⟨b, rfl, q⟩ := h
  obtain ⟨u, rfl, r1⟩ := vals1 r
  cases r1
  exact P.repr_of_bool ⟨.str (shB b), H, I.tok _, ⟨_, rfl⟩, q⟩
end
end NB

set_option Elab.async false
set_option linter.all false
set_option maxRecDepth 100000
namespace NB
open PySem PySem.Spec PyProof.Rows L2
/-- data that repr writes: at most w by weight, nested at most n deep -/
structure Small (d : PyData) (w n : Nat) : Prop where
  sh : d.showable = true
  nd : d.hasDict = false
  dp : d.depth ≤ n
  lv : d.leavesShort 100 = true
  wt : d.weight ≤ w
structure SmallAll (ds : List PyData) (w n : Nat) : Prop where
  sh : PyData.showableAll ds = true
  nd : PyData.hasDictAll ds = false
  dp : PyData.depthAll ds ≤ n
  lv : PyData.leavesShortAll 100 ds = true
  wt : PyData.weightAll ds ≤ w
theorem Small.int {i : Int} (h : i.natAbs < 10 ^ 90) : Small (.int i) 310 0 := by
  have lg : i.natAbs.log2 < 300 := by
    have h2 : i.natAbs < 2 ^ 300 := Nat.lt_of_lt_of_le h (by decide)
    by_cases e : i.natAbs = 0
    · rw [e]; decide
    · exact (Nat.log2_lt e).mpr h2
  refine ⟨?_, rfl, Nat.le_refl _, ?_, ?_⟩
  · simp only [PyData.showable, decide_eq_true_eq]
    omega
  · simp only [PyData.leavesShort, decide_eq_true_eq]
    have e := int_text_length_le10 (k := 90) (by decide) h
    show (Str.ofString (toString i)).length ≤ 100
    rw [PySem.ofString_length]
    omega
  · show (if i == 0 then 0 else i.natAbs.log2 + 1) ≤ 310
    split <;> omega
theorem Small.bool (b : Bool) : Small (.bool b) 0 0 := ⟨rfl, rfl, Nat.le_refl _, rfl, Nat.le_refl _⟩
theorem Small.none : Small .none 0 0 := ⟨rfl, rfl, Nat.le_refl _, rfl, Nat.le_refl _⟩
theorem SmallAll.nil : SmallAll [] 0 0 := ⟨rfl, rfl, Nat.le_refl _, rfl, Nat.le_refl _⟩
theorem SmallAll.cons {d : PyData} {ds : List PyData} {w v n m : Nat} (h : Small d w n) (h' : SmallAll ds v m) : SmallAll (d :: ds) (w + 1 + v) (max n m) := by
  obtain ⟨a1, a2, a3, a4, a5⟩ := h
  obtain ⟨b1, b2, b3, b4, b5⟩ := h'
  refine ⟨?_, ?_, ?_, ?_, ?_⟩
  · simp only [PyData.showableAll, a1, b1, Bool.and_self]
  · simp only [PyData.hasDictAll, a2, b2, Bool.or_self]
  · simp only [PyData.depthAll]
    omega
  · simp only [PyData.leavesShortAll, a4, b4, Bool.and_self]
  · simp only [PyData.weightAll]
    omega
theorem Small.list {ds : List PyData} {w n : Nat} (h : SmallAll ds w n) : Small (.list ds) w (n + 1) := by
  obtain ⟨a1, a2, a3, a4, a5⟩ := h
  refine ⟨?_, ?_, ?_, ?_, ?_⟩
  · simpa only [PyData.showable] using a1
  · simpa only [PyData.hasDict] using a2
  · simp only [PyData.depth]
    omega
  · simpa only [PyData.leavesShort] using a4
  · simpa only [PyData.weight] using a5
theorem Small.tuple {ds : List PyData} {w n : Nat} (h : SmallAll ds w n) : Small (.tuple ds) w (n + 1) := by
  obtain ⟨a1, a2, a3, a4, a5⟩ := h
  refine ⟨?_, ?_, ?_, ?_, ?_⟩
  · simpa only [PyData.showable] using a1
  · simpa only [PyData.hasDict] using a2
  · simp only [PyData.depth]
    omega
  · simpa only [PyData.leavesShort] using a4
  · simpa only [PyData.weight] using a5
theorem SmallAll.ints : ∀ {xs : List Int}, (∀ x ∈ xs, x.natAbs < 10 ^ 90) → SmallAll (xs.map PyData.int) (311 * xs.length) 0
  | [], _ => .nil
  | x :: xs, h => by
    have c := SmallAll.cons (Small.int (h x List.mem_cons_self)) (SmallAll.ints fun y hy => h y (List.mem_cons_of_mem _ hy))
    refine ⟨c.sh, c.nd, c.dp, c.lv, Nat.le_trans c.wt ?_⟩
    rw [List.length_cons]
    omega
theorem Small.ok {d : PyData} {w n : Nat} (h : Small d w n) (hw : w ≤ 150000) (hn : n ≤ 60) : Showable d := by
  refine ⟨h.sh, h.nd, Nat.le_trans h.dp hn, ?_⟩
  have e := PyData.shown_le 100 (by decide) d h.lv
  have := h.wt
  rw [sizeLine_eq]
  have : (100 + 2) * d.weight ≤ (100 + 2) * 150000 := Nat.mul_le_mul_left _ (Nat.le_trans h.wt hw)
  omega
/-- what Dp reads of a tuple of ints -/
theorem dp_ints {K : PySem.W.Frag} {H : Hp} : ∀ xs : List Int, DpAll K H (xs.map V.int) (xs.map PyData.int)
  | [] => .nil
  | x :: xs => .cons (.int x) (dp_ints xs)
theorem dp_tup {K : PySem.W.Frag} {H : Hp} {p : Addr} {xs : List Int} (h : SqT K H p (xs.map V.int)) : Dp K H (.ref p) (.tuple (xs.map PyData.int)) := .tup h (dp_ints xs)
end NB

set_option Elab.async false
set_option linter.all false
set_option maxRecDepth 100000
set_option maxHeartbeats 1000000
/-! Data of any kind: None, truths, whole numbers, texts, lists, tuples, dicts. -/
namespace NB
open PySem PySem.Spec PyProof.Rows L2

def kD : Key → PyData
  | .inl i => .int i
  | .inr x => .str x
mutual
/-- the value v is the data d; its lists stand apart from n -/
inductive Da (n : Addr) (H : Hp) : V → PyData → Prop
  | non : Da n H .non .none
  | bl (b : Bool) : Da n H (.bl b) (.bool b)
  | int (i : Int) : Da n H (.int i) (.int i)
  | str (x : Str) : Da n H (.str x) (.str x)
  | lst {a : Addr} {xs : List V} {ds : List PyData} : H a = some (.lst xs) → a ≠ sysModules → a ≠ n → DaAll n H xs ds → Da n H (.ref a) (.list ds)
  | tup {a : Addr} {xs : List V} {ds : List PyData} : H a = some (.tup xs) → DaAll n H xs ds → Da n H (.ref a) (.tuple ds)
  | dct {a : Addr} {kvs : List (Key × V)} {ds : List (PyData × PyData)} : H a = some (.dK kvs) → DaKv n H kvs ds → Da n H (.ref a) (.dict ds)
inductive DaAll (n : Addr) (H : Hp) : List V → List PyData → Prop
  | nil : DaAll n H [] []
  | cons {v : V} {vs : List V} {d : PyData} {ds : List PyData} : Da n H v d → DaAll n H vs ds → DaAll n H (v :: vs) (d :: ds)
inductive DaKv (n : Addr) (H : Hp) : List (Key × V) → List (PyData × PyData) → Prop
  | nil : DaKv n H [] []
  | cons {k : Key} {v : V} {kvs : List (Key × V)} {d : PyData} {ds : List (PyData × PyData)} : Da n H v d → DaKv n H kvs ds → DaKv n H ((k, v) :: kvs) ((kD k, d) :: ds)
end
mutual
theorem Da.keep {n : Addr} {H H' : Hp} (hn : ∃ zs, H n = some (.lst zs)) (k : ∀ b o, b ≠ n → H b = some o → H' b = some o) : ∀ (d : PyData) (v : V), Da n H v d → Da n H' v d
  | .none, _, h => by cases h; exact .non
  | .bool b, _, h => by cases h; exact .bl b
  | .int i, _, h => by cases h; exact .int i
  | .str x, _, h => by cases h; exact .str x
  | .list ds, _, h => by
    cases h with
    | lst e n1 n2 ha => exact .lst (k _ _ n2 e) n1 n2 (DaAll.keep hn k ds _ ha)
  | .tuple ds, _, h => by
    cases h with
    | tup e ha =>
      refine .tup (k _ _ (fun z => ?_) e) (DaAll.keep hn k ds _ ha)
      obtain ⟨zs, q⟩ := hn
      rw [z, q] at e
      cases e
  | .dict ds, _, h => by
    cases h with
    | dct e ha =>
      refine .dct (k _ _ (fun z => ?_) e) (DaKv.keep hn k ds _ ha)
      obtain ⟨zs, q⟩ := hn
      rw [z, q] at e
      cases e
theorem DaAll.keep {n : Addr} {H H' : Hp} (hn : ∃ zs, H n = some (.lst zs)) (k : ∀ b o, b ≠ n → H b = some o → H' b = some o) : ∀ (ds : List PyData) (vs : List V), DaAll n H vs ds → DaAll n H' vs ds
  | [], _, h => by cases h; exact .nil
  | d :: ds, _, h => by
    cases h with
    | cons h1 h2 => exact .cons (Da.keep hn k d _ h1) (DaAll.keep hn k ds _ h2)
theorem DaKv.keep {n : Addr} {H H' : Hp} (hn : ∃ zs, H n = some (.lst zs)) (k : ∀ b o, b ≠ n → H b = some o → H' b = some o) : ∀ (ds : List (PyData × PyData)) (kvs : List (Key × V)), DaKv n H kvs ds → DaKv n H' kvs ds
  | [], _, h => by cases h; exact .nil
  | (_, d) :: ds, _, h => by
    cases h with
    | cons h1 h2 => exact .cons (Da.keep hn k d _ h1) (DaKv.keep hn k ds _ h2)
end
mutual
theorem Da.sameD {n : Addr} {H H' : Hp} (k : Same H H') : ∀ (d : PyData) (v : V), Da n H v d → Da n H' v d
  | .none, _, h => by cases h; exact .non
  | .bool b, _, h => by cases h; exact .bl b
  | .int i, _, h => by cases h; exact .int i
  | .str x, _, h => by cases h; exact .str x
  | .list ds, _, h => by
    cases h with
    | lst e n1 n2 ha => exact .lst (k _ _ e) n1 n2 (DaAll.sameD k ds _ ha)
  | .tuple ds, _, h => by
    cases h with
    | tup e ha => exact .tup (k _ _ e) (DaAll.sameD k ds _ ha)
  | .dict ds, _, h => by
    cases h with
    | dct e ha => exact .dct (k _ _ e) (DaKv.sameD k ds _ ha)
theorem DaAll.sameD {n : Addr} {H H' : Hp} (k : Same H H') : ∀ (ds : List PyData) (vs : List V), DaAll n H vs ds → DaAll n H' vs ds
  | [], _, h => by cases h; exact .nil
  | d :: ds, _, h => by
    cases h with
    | cons h1 h2 => exact .cons (Da.sameD k d _ h1) (DaAll.sameD k ds _ h2)
theorem DaKv.sameD {n : Addr} {H H' : Hp} (k : Same H H') : ∀ (ds : List (PyData × PyData)) (kvs : List (Key × V)), DaKv n H kvs ds → DaKv n H' kvs ds
  | [], _, h => by cases h; exact .nil
  | (_, d) :: ds, _, h => by
    cases h with
    | cons h1 h2 => exact .cons (Da.sameD k d _ h1) (DaKv.sameD k ds _ h2)
end
theorem Da.same {n : Addr} {H H' : Hp} {v : V} {d : PyData} (h : Da n H v d) (k : Same H H') : Da n H' v d := Da.sameD k d v h
theorem DaAll.same {n : Addr} {H H' : Hp} {vs : List V} {ds : List PyData} (h : DaAll n H vs ds) (k : Same H H') : DaAll n H' vs ds := DaAll.sameD k ds vs h
theorem DaAll.len {n : Addr} {H : Hp} {vs : List V} {ds : List PyData} (h : DaAll n H vs ds) : vs.length = ds.length := by
  induction ds generalizing vs with
  | nil => cases h; rfl
  | cons d ds ih =>
    cases h with
    | cons h1 h2 => rw [List.length_cons, List.length_cons, ih h2]
theorem DaAll.get {n : Addr} {H : Hp} {vs : List V} {ds : List PyData} (h : DaAll n H vs ds) (i : Nat) (v : V) (e : vs[i]? = some v) : ∃ d, ds[i]? = some d ∧ Da n H v d := by
  induction ds generalizing vs i with
  | nil => cases h; simp at e
  | cons d ds ih =>
    cases h with
    | cons h1 h2 =>
      cases i with
      | zero => exact ⟨d, rfl, by cases e; exact h1⟩
      | succ i => exact ih h2 i e
theorem DaAll.mem {n : Addr} {H : Hp} {vs : List V} {ds : List PyData} (h : DaAll n H vs ds) {v : V} (hv : v ∈ vs) : ∃ d ∈ ds, Da n H v d := by
  obtain ⟨i, hi, e⟩ := List.getElem_of_mem hv
  obtain ⟨d, e1, e2⟩ := h.get i v (by rw [List.getElem?_eq_getElem hi, e])
  exact ⟨d, List.mem_of_getElem? e1, e2⟩
theorem DaAll.app {n : Addr} {H : Hp} {vs us : List V} {ds es : List PyData} (h : DaAll n H vs ds) (h' : DaAll n H us es) : DaAll n H (vs ++ us) (ds ++ es) := by
  induction ds generalizing vs with
  | nil => cases h; exact h'
  | cons d ds ih =>
    cases h with
    | cons h1 h2 => exact .cons h1 (ih h2)
theorem DaAll.take {n : Addr} {H : Hp} {vs : List V} {ds : List PyData} (h : DaAll n H vs ds) (i : Nat) : DaAll n H (vs.take i) (ds.take i) := by
  induction ds generalizing vs i with
  | nil => cases h; simp only [List.take_nil]; exact .nil
  | cons d ds ih =>
    cases h with
    | cons h1 h2 =>
      cases i with
      | zero => simp only [List.take_zero]; exact .nil
      | succ i => simp only [List.take_succ_cons]; exact .cons h1 (ih h2 i)
theorem DaAll.drop {n : Addr} {H : Hp} {vs : List V} {ds : List PyData} (h : DaAll n H vs ds) (i : Nat) : DaAll n H (vs.drop i) (ds.drop i) := by
  induction ds generalizing vs i with
  | nil => cases h; simp only [List.drop_nil]; exact .nil
  | cons d ds ih =>
    cases h with
    | cons h1 h2 =>
      cases i with
      | zero => simp only [List.drop_zero]; exact .cons h1 h2
      | succ i => simp only [List.drop_succ_cons]; exact ih h2 i
theorem DaAll.ints {n : Addr} {H : Hp} : ∀ xs : List Int, DaAll n H (xs.map V.int) (xs.map PyData.int)
  | [] => .nil
  | x :: xs => .cons (.int x) (DaAll.ints xs)
/-- of which kind it is -/
def tyD : PyData → String
  | .none => "NoneType"
  | .bool _ => "bool"
  | .int _ => "int"
  | .str _ => "str"
  | .list _ => "list"
  | .tuple _ => "tuple"
  | .dict _ => "dict"
theorem Da.ty {K : PySem.W.Frag} {n : Addr} {H : Hp} {v : V} {d : PyData} (h : Da n H v d) : TyX K H v (.type (tyD d)) := by
  cases h with
  | non => exact .base .non
  | bl b => exact .base (.bl b)
  | int i => exact .base (.int i)
  | str x => exact .base (.str x)
  | lst e _ _ _ => exact .base (.lst e)
  | tup e _ => exact .base (.tup e)
  | dct e _ => exact .base (.dK e)
def isTupD : PyData → Bool
  | .tuple _ => true
  | _ => false
def isIntD : PyData → Bool
  | .int _ => true
  | .bool _ => true
  | _ => false
def isBoolD : PyData → Bool
  | .bool _ => true
  | _ => false
def isStrD : PyData → Bool
  | .str _ => true
  | _ => false
theorem kit_tup (d : PyData) : kitB (tyD d) "tuple" = some (isTupD d) := by cases d <;> (simp only [tyD, isTupD, isIntD, isBoolD, isStrD]; decide +kernel)
theorem kit_int (d : PyData) : kitB (tyD d) "int" = some (isIntD d) := by cases d <;> (simp only [tyD, isTupD, isIntD, isBoolD, isStrD]; decide +kernel)
theorem kit_bool (d : PyData) : kitB (tyD d) "bool" = some (isBoolD d) := by cases d <;> (simp only [tyD, isTupD, isIntD, isBoolD, isStrD]; decide +kernel)
theorem kit_str (d : PyData) : kitB (tyD d) "str" = some (isStrD d) := by cases d <;> (simp only [tyD, isTupD, isIntD, isBoolD, isStrD]; decide +kernel)
section
variable {X : Cx} {pins : List (Addr × Obj)} {σ : L2.St} {H : Hp} {s : Shared}
theorem key_reads {h : Heap} {k : Key} {u : Value} (e : keyIs k u = true) : Reads h u (kD k) [] := by
  rcases keyIs_shape e with ⟨i, t, rfl, rfl⟩ | ⟨x, t, rfl, rfl⟩
  · exact .int i t
  · exact .str x t
mutual
theorem Da.reads {n : Addr} (I : Inv X pins σ H s) : ∀ (d : PyData) (v : V) (u : Value), Da n H v d → RelV v u → ∃ as, Reads s.heap u d as ∧ sysModules ∉ as
  | .none, _, _, h, r => by
    cases h
    cases r
    exact ⟨_, Reads.none, List.not_mem_nil⟩
  | .bool b, _, _, h, r => by
    cases h
    cases r
    exact ⟨_, Reads.bool b, List.not_mem_nil⟩
  | .int i, _, _, h, r => by
    cases h
    obtain ⟨t, rfl⟩ := r
    exact ⟨_, Reads.int i t, List.not_mem_nil⟩
  | .str x, _, _, h, r => by
    cases h
    obtain ⟨t, rfl⟩ := r
    exact ⟨_, Reads.str x t, List.not_mem_nil⟩
  | .list ds, _, _, h, r => by
    cases h with
    | lst e n1 n2 ha =>
      cases r
      obtain ⟨its, rv, ⟨o, m, ho, hc, _, hd⟩, _⟩ := I.list (.inl (.inl e))
      obtain ⟨as, hr, hm⟩ := Da.readsAll I ds _ its ha rv
      refine ⟨_, Reads.list ho hc hd hr, fun z => ?_⟩
      rcases List.mem_cons.mp z with q | q
      · exact n1 q.symm
      · exact hm q
  | .tuple ds, _, _, h, r => by
    cases h with
    | tup e ha =>
      cases r
      obtain ⟨its, rv, ⟨o, ho, hc, m, hd⟩, _⟩ := I.tuple (.inl (.inl e))
      obtain ⟨as, hr, hm⟩ := Da.readsAll I ds _ its ha rv
      exact ⟨_, Reads.tuple ho hc hd hr, hm⟩
  | .dict ds, _, _, h, r => by
    cases h with
    | dct e ha =>
      rename_i a kvs
      cases r
      obtain ⟨_, hsys, vs, rel, o, es, ep, h1, h2, h3, _, pr, _⟩ := (show ObjOk X.prog X.w H s.heap a (.dK kvs) from I.hok a _ e)
      obtain ⟨as, bs, q1, m1, q2, m2⟩ := Da.readsKv I ds kvs vs es.toList ha rel pr
      refine ⟨_, Reads.dict h1 h2.1 h3 q1 q2, fun z => ?_⟩
      rw [List.cons_append] at z
      rcases List.mem_cons.mp z with q | q
      · exact beq_eq_false_iff_ne.mp hsys q.symm
      · rcases List.mem_append.mp q with q | q
        · exact m1 q
        · exact m2 q
theorem Da.readsAll {n : Addr} (I : Inv X pins σ H s) : ∀ (ds : List PyData) (vs : List V) (us : List Value), DaAll n H vs ds → Vals vs us → ∃ as, ReadsAll s.heap us ds as ∧ sysModules ∉ as
  | [], _, _, h, r => by
    cases h
    cases r
    exact ⟨_, ReadsAll.nil, List.not_mem_nil⟩
  | d :: ds, _, _, h, r => by
    cases h with
    | cons h1 h2 =>
      cases r with
      | cons r1 r2 =>
        obtain ⟨as, q1, m1⟩ := Da.reads I d _ _ h1 r1
        obtain ⟨bs, q2, m2⟩ := Da.readsAll I ds _ _ h2 r2
        refine ⟨_, ReadsAll.cons q1 q2, fun z => ?_⟩
        rcases List.mem_append.mp z with q | q
        · exact m1 q
        · exact m2 q
theorem Da.readsKv {n : Addr} (I : Inv X pins σ H s) : ∀ (ds : List (PyData × PyData)) (kvs : List (Key × V)) (vs : List (Key × Value)) (es : List DictEntry), DaKv n H kvs ds → KV kvs vs → Pairs (mixKind X.prog X.w) es vs →
    ∃ as bs, ReadsAll s.heap (es.map (·.key)) (ds.map (·.1)) as ∧ sysModules ∉ as ∧ ReadsAll s.heap (es.map (·.val)) (ds.map (·.2)) bs ∧ sysModules ∉ bs
  | [], _, _, _, h, r, p => by
    cases h
    cases r
    cases p
    exact ⟨_, _, ReadsAll.nil, List.not_mem_nil, ReadsAll.nil, List.not_mem_nil⟩
  | (_, d) :: ds, _, _, _, h, r, p => by
    cases h with
    | cons h1 h2 =>
      cases r with
      | cons r1 r2 =>
        cases p with
        | cons p1 p2 p3 =>
          obtain ⟨as, bs, q1, m1, q2, m2⟩ := Da.readsKv I ds _ _ _ h2 r2 p3
          obtain ⟨cs, q3, m3⟩ := Da.reads I d _ _ h1 r1.2
          refine ⟨_, _, ReadsAll.cons (key_reads (by have e := r1.1; simp only at e; show keyIs _ _ = true; rw [e]; exact p1)) q1, ?_, ReadsAll.cons (by show Reads s.heap (DictEntry.val _) d _; rw [p2]; exact q3) q2, fun z => ?_⟩
          · rw [List.nil_append]
            exact m1
          · rcases List.mem_append.mp z with q | q
            · exact m3 q
            · exact m2 q
end
end
/-- data that repr writes: at most w by weight, nested at most k deep -/
structure Sm (d : PyData) (w k : Nat) : Prop where
  sh : d.showable = true
  dp : d.depth ≤ k
  lv : d.leavesShort 100 = true
  wt : d.weight ≤ w
theorem Sm.mono {d : PyData} {w v k m : Nat} (h : Sm d w k) (hw : w ≤ v) (hk : k ≤ m) : Sm d v m := ⟨h.sh, Nat.le_trans h.dp hk, h.lv, Nat.le_trans h.wt hw⟩
/-- each of them -/
def SmE (ds : List PyData) (k : Nat) : Prop := ∀ d ∈ ds, d.showable = true ∧ d.depth ≤ k ∧ d.leavesShort 100 = true
theorem smE_iff : ∀ (ds : List PyData) (k : Nat), SmE ds k ↔ PyData.showableAll ds = true ∧ PyData.depthAll ds ≤ k ∧ PyData.leavesShortAll 100 ds = true
  | [], k => by
    refine ⟨fun _ => ⟨rfl, Nat.zero_le _, rfl⟩, fun _ d h => absurd h List.not_mem_nil⟩
  | d :: ds, k => by
    have ih := smE_iff ds k
    constructor
    · intro h
      have h1 := h d List.mem_cons_self
      have h2 := ih.mp fun e he => h e (List.mem_cons_of_mem _ he)
      refine ⟨?_, ?_, ?_⟩
      · simp only [PyData.showableAll, h1.1, h2.1, Bool.and_self]
      · simp only [PyData.depthAll]
        omega
      · simp only [PyData.leavesShortAll, h1.2.2, h2.2.2, Bool.and_self]
    · rintro ⟨h1, h2, h3⟩ e he
      simp only [PyData.showableAll, Bool.and_eq_true] at h1
      simp only [PyData.depthAll] at h2
      simp only [PyData.leavesShortAll, Bool.and_eq_true] at h3
      rcases List.mem_cons.mp he with rfl | he
      · exact ⟨h1.1, by omega, h3.1⟩
      · exact ih.mpr ⟨h1.2, by omega, h3.2⟩ e he
theorem smE_iff_depth : ∀ (ds : List PyData) (k : Nat), PyData.depthAll ds ≤ k ↔ ∀ d ∈ ds, d.depth ≤ k
  | [], k => ⟨fun _ d h => absurd h List.not_mem_nil, fun _ => Nat.zero_le _⟩
  | d :: ds, k => by
    have ih := smE_iff_depth ds k
    simp only [PyData.depthAll]
    constructor
    · intro h e he
      rcases List.mem_cons.mp he with rfl | he
      · omega
      · exact ih.mp (by omega) e he
    · intro h
      have h1 := h d List.mem_cons_self
      have h2 := ih.mpr fun e he => h e (List.mem_cons_of_mem _ he)
      omega
theorem wt_app : ∀ xs ys : List PyData, PyData.weightAll (xs ++ ys) = PyData.weightAll xs + PyData.weightAll ys
  | [], ys => by simp [PyData.weightAll]
  | x :: xs, ys => by
    rw [List.cons_append]
    simp only [PyData.weightAll, wt_app xs ys]
    omega
theorem wt_len : ∀ xs : List PyData, xs.length ≤ PyData.weightAll xs
  | [] => by simp [PyData.weightAll]
  | x :: xs => by
    have := wt_len xs
    simp only [PyData.weightAll, List.length_cons]
    omega
theorem wt_mem : ∀ {xs : List PyData} {d : PyData}, d ∈ xs → d.weight + 1 ≤ PyData.weightAll xs
  | [], d, h => absurd h List.not_mem_nil
  | x :: xs, d, h => by
    simp only [PyData.weightAll]
    rcases List.mem_cons.mp h with rfl | h
    · omega
    · have := wt_mem h
      omega
theorem Sm.tup {ds : List PyData} {w k : Nat} (h : SmE ds k) (hw : PyData.weightAll ds ≤ w) : Sm (.tuple ds) w (k + 1) := by
  obtain ⟨a, b, c⟩ := (smE_iff ds k).mp h
  refine ⟨?_, ?_, ?_, ?_⟩
  · simpa only [PyData.showable] using a
  · simp only [PyData.depth]
    omega
  · simpa only [PyData.leavesShort] using c
  · simpa only [PyData.weight] using hw
theorem Sm.lst {ds : List PyData} {w k : Nat} (h : SmE ds k) (hw : PyData.weightAll ds ≤ w) : Sm (.list ds) w (k + 1) := by
  obtain ⟨a, b, c⟩ := (smE_iff ds k).mp h
  refine ⟨?_, ?_, ?_, ?_⟩
  · simpa only [PyData.showable] using a
  · simp only [PyData.depth]
    omega
  · simpa only [PyData.leavesShort] using c
  · simpa only [PyData.weight] using hw
theorem Sm.of_tup {ds : List PyData} {w k : Nat} (h : Sm (.tuple ds) w k) : ∃ j, k = j + 1 ∧ SmE ds j ∧ PyData.weightAll ds ≤ w := by
  obtain ⟨a, b, c, e⟩ := h
  simp only [PyData.showable] at a
  simp only [PyData.depth] at b
  simp only [PyData.leavesShort] at c
  simp only [PyData.weight] at e
  refine ⟨k - 1, by omega, (smE_iff ds _).mpr ⟨a, by omega, c⟩, e⟩
theorem Sm.int {i : Int} (h : i.natAbs < 10 ^ 90) : Sm (.int i) 310 0 := by
  have s := Small.int h
  exact ⟨s.sh, s.dp, s.lv, s.wt⟩
theorem Sm.bool (b : Bool) : Sm (.bool b) 0 0 := ⟨rfl, Nat.le_refl _, rfl, Nat.le_refl _⟩
theorem Sm.none : Sm .none 0 0 := ⟨rfl, Nat.le_refl _, rfl, Nat.le_refl _⟩
theorem Sm.e {d : PyData} {w k : Nat} (h : Sm d w k) : d.showable = true ∧ d.depth ≤ k ∧ d.leavesShort 100 = true := ⟨h.sh, h.dp, h.lv⟩
theorem Sm.dict0 : Sm (.dict []) 0 1 := ⟨rfl, by decide, rfl, Nat.le_refl _⟩
theorem Sm.dict1 {x : Str} {d : PyData} {w v k : Nat} (hx : Sm (.str x) v k) (h : Sm d w k) : Sm (.dict [(.str x, d)]) (v + w + 2) (k + 1) := by
  have a := hx.wt
  have b := h.wt
  have c := hx.dp
  have e := h.dp
  refine ⟨?_, ?_, ?_, ?_⟩
  · simp only [PyData.showable, PyData.showableKv, h.sh, Bool.and_self]
  · simp only [PyData.depth, PyData.depthKv]
    omega
  · have e1 := hx.lv
    simp only [PyData.leavesShort, PyData.leavesShortKv] at e1 ⊢
    rw [e1, h.lv]
    rfl
  · simp only [PyData.weight, PyData.weightKv] at a ⊢
    omega
theorem Sm.long {d : PyData} {w k : Nat} (h : Sm d w k) (hw : w ≤ 150000) : d.shown.length ≤ sizeLine := by
  have e := PyData.shown_le 100 (by decide) d h.lv
  have := h.wt
  rw [sizeLine_eq]
  have : (100 + 2) * d.weight ≤ (100 + 2) * 150000 := Nat.mul_le_mul_left _ (Nat.le_trans h.wt hw)
  omega
section
variable {X : Cx}
/-- isinstance(x, T), x data -/
theorem call_isiD : CallR X (.builtin "isinstance") (fun xs H Q => ∃ n v d T b, xs = [v, .ty T] ∧ Da n H v d ∧ kitB (tyD d) T = some b ∧ Q (.bl b) H) := by
  intro pins s σ H xs us Q I r h
  obtain ⟨n, v, d, T, b, rfl, hd, hk, q⟩ := h
  exact call_isi pins s σ H _ us Q I r ⟨v, .ty T, _, _, b, rfl, .ty T, hd.ty, kit_ty hk, q⟩
/-- repr(x), x data -/
theorem call_reprA (hG : X.A.guards = some []) (hu : X.A.units + 64 < cLine) : CallR X (.builtin "repr") (fun xs H Q => ∃ n v d w k, xs = [v] ∧ Da n H v d ∧ Sm d w k ∧ w ≤ 150000 ∧ k ≤ 60 ∧ Q (.str d.shown) H) := by
  intro pins s σ H xs us Q I r h
  obtain ⟨n, v, d, w, k, rfl, hd, S, hw, hk, q⟩ := h
  obtain ⟨u, rfl, ru⟩ := vals1 r
  have hz := S.long hw
  have hsh := S.sh
  cases v with
  | ref a =>
    obtain ⟨as, rd, nm⟩ := Da.reads I d _ u hd ru
    cases ru
    have hn := S.dp
    exact repr_of_reads' rd S.sh (fun _ => nm) hG (by omega) (fun _ _ z => z) (fun h' u tk hk => ⟨.str _, H, I.kept hk, ⟨_, rfl⟩, q⟩) hz
  | non =>
    cases hd
    cases ru
    exact P.repr_of_none ⟨.str "None", H, I.tok _, ⟨_, rfl⟩, q⟩
  | bl b =>
    cases hd
    cases ru
    exact P.repr_of_bool ⟨.str (if b then "True" else "False"), H, I.tok _, ⟨_, rfl⟩, q⟩
  | int i =>
    cases hd
    obtain ⟨t, rfl⟩ := ru
    simp only [PyData.showable, decide_eq_true_eq] at hsh
    exact P.repr_of_int hsh ⟨.str (toString i), H, I.tok _, ⟨_, rfl⟩, q⟩
  | str x =>
    cases hd
    obtain ⟨t, rfl⟩ := ru
    exact P.repr_of_str ⟨.str (reprText x), H, I.tok _, ⟨_, rfl⟩, q⟩ hz
  | _ => cases hd
/-- t == (), t any tuple -/
theorem op_eq0 (hu : X.A.units < cLine) : OpR X (compareOp .Eq) (fun x y H Q => ∃ a b xs, x = .ref a ∧ y = .ref b ∧ SqT X.K H a xs ∧ SqT X.K H b [] ∧ Q (.bl xs.isEmpty) H) := by
  intro pins s σ H x y v u Q I rx ry h
  obtain ⟨a, b, xs, rfl, rfl, ha, hb, q⟩ := h
  cases rx
  cases ry
  obtain ⟨i1, r1, p1, _⟩ := I.tuple ha
  obtain ⟨i2, r2, p2, _⟩ := I.tuple hb
  cases r2
  refine SeqAt.eq_tupleAt (e := fun _ => true) p1 p2 hu (fun j h1 h2 => absurd h2 (by simp)) ?_
  refine ⟨.bl xs.isEmpty, H, I, ?_, q⟩
  have e := r1.length
  cases xs with
  | nil =>
    cases r1
    rfl
  | cons z zs =>
    cases r1
    simp [L2.RelV]
/-- x is y, x is not y, of truths -/
theorem op_isB : OpR X (compareOp .Is) (fun x y H Q => ∃ a b, x = .bl a ∧ y = .bl b ∧ Q (.bl (a == b)) H) := by
  intro pins s σ H x y v u Q I rx ry h
  obtain ⟨a, b, rfl, rfl, q⟩ := h
  cases rx
  cases ry
  exact wpAny_pure ⟨.bl (a == b), H, I, by cases a <;> cases b <;> rfl, q⟩
theorem op_isnotB : OpR X (compareOp .IsNot) (fun x y H Q => ∃ a b, x = .bl a ∧ y = .bl b ∧ Q (.bl (!(a == b))) H) := by
  intro pins s σ H x y v u Q I rx ry h
  obtain ⟨a, b, rfl, rfl, q⟩ := h
  cases rx
  cases ry
  exact wpAny_pure ⟨.bl (!(a == b)), H, I, by cases a <;> cases b <;> rfl, q⟩
/-- t != (), t any tuple -/
theorem op_ne0 (hu : X.A.units < cLine) : OpR X (compareOp .NotEq) (fun x y H Q => ∃ a b xs, x = .ref a ∧ y = .ref b ∧ SqT X.K H a xs ∧ SqT X.K H b [] ∧ Q (.bl (!xs.isEmpty)) H) := by
  intro pins s σ H x y v u Q I rx ry h
  obtain ⟨a, b, xs, rfl, rfl, ha, hb, q⟩ := h
  cases rx
  cases ry
  obtain ⟨i1, r1, p1, _⟩ := I.tuple ha
  obtain ⟨i2, r2, p2, _⟩ := I.tuple hb
  cases r2
  refine SeqAt.RcNeAt.tuples (e := fun _ => true) p1 p2 hu (fun j h1 h2 => absurd h2 (by simp)) X.prog X.w X.xe _ ?_
  refine ⟨.bl (!xs.isEmpty), H, I, ?_, q⟩
  cases xs with
  | nil =>
    cases r1
    rfl
  | cons z zs =>
    cases r1
    simp [L2.RelV]
/-- a written list stands apart from what the machine keeps by itself -/
def tLstN (t : TA) : TE := fun σ H Q => t σ H fun xs H1 => xs.length ≤ sizeLine ∧ ∀ p, H1 p = none → p ≠ sysModules → Q (.ref p) (upd H1 p (.lst xs))
theorem pe_lstN {es : List Expr} {pos : Pos} {t : TA} (h : PA X es t) : PE X (.List es pos) (tLstN t) := by
  refine ⟨fun pins s σ H Q I hq => ?_⟩
  refine wpAny_List_spliced (thn (h.run pos pins s σ H _ I hq) fun us s1 ⟨xs, H1, I1, r, z, q⟩ => ⟨by rw [← r.length]; exact z, ?_⟩)
  have hf : H1 s1.heap.objs.size = none := I1.hok.fresh (Nat.le_refl _)
  refine ⟨.ref s1.heap.objs.size, upd H1 s1.heap.objs.size (.lst xs), I1.laid (t' := s1.toks) (fun b u e => Heap.get?_push_of_some _ e) (Nat.le_refl _) ?_, rfl, q _ hf (Nat.ne_of_gt I1.big)⟩
  exact ⟨z, us, 0, r, Heap.get?_push_size _ rfl⟩
/-- list(t), t a tuple -/
theorem call_list_ofN : CallR X (.type "list") (fun xs H Q => ∃ p ys, xs = [.ref p] ∧ SqT X.K H p ys ∧ ∀ l, H l = none → l ≠ sysModules → Q (.ref l) (upd H l (.lst ys))) := by
  intro pins s σ H xs us Q I r h
  obtain ⟨p, ys, rfl, hq, q⟩ := h
  obtain ⟨u, rfl, rx⟩ := vals1 r
  cases rx
  have fin : ∀ (its : List Value), Vals ys its → ys.length ≤ sizeLine → ∀ (h' : Heap) (c' : Nat), (∀ b o', s.heap.get? b = some o' → h'.get? b = some o') →
      h'.get? s.heap.objs.size = some { cls := .type "list", dict := none, data := .seq its.toArray c', slots := #[] } → EP X pins σ Q (.ref s.heap.objs.size) { s with heap := h' } := fun its r' hz h' c' kp e =>
    ⟨.ref s.heap.objs.size, _, I.laid (t' := s.toks) kp (Nat.le_refl _) (show ObjOk X.prog X.w _ h' _ (.lst ys) from ⟨hz, its, c', r', e⟩), rfl, q _ (I.hok.fresh (Nat.le_refl _)) (Nat.ne_of_gt I.big)⟩
  obtain ⟨its, r', pl, hz⟩ := I.tuple hq
  have hlen := r'.length
  obtain ⟨o, ho, hc, n, hd⟩ := pl
  exact call_list_seq p (.inr rfl) ho hc hd (fun h' c' kp e => fin its r' hz h' c' kp e) (by simp only [List.size_toArray] <;> omega)
end
/-- two ways that come to the same -/
theorem join2 {c : Bool} {A B : VK → Prop} {Q : VK} (R : V → Hp → Prop) (hA : ∀ Q' : VK, (∀ v H, R v H → Q' v H) → A Q') (hB : ∀ Q' : VK, (∀ v H, R v H → Q' v H) → B Q') (hQ : ∀ v H, R v H → Q v H) : if c = true then A Q else B Q := by
  cases c
  · exact iteF (hB Q hQ)
  · exact iteT (hA Q hQ)
theorem inV_int2 (i j k : Int) : inV (V.int i) [V.int j, V.int k] = (decide (i = j) || decide (i = k)) := by
  rw [Bool.eq_iff_iff]
  simp only [inV, eqV, List.any_cons, List.any_nil, Bool.or_false, Bool.or_eq_true, beq_iff_eq, decide_eq_true_eq]
  constructor
  · rintro (h | h)
    · exact .inl h.symm
    · exact .inr h.symm
  · rintro (h | h)
    · exact .inl h.symm
    · exact .inr h.symm
theorem inV_str2 (z x y : Str) : inV (V.str z) [V.str x, V.str y] = (decide (z = x) || decide (z = y)) := by
  rw [Bool.eq_iff_iff]
  simp only [inV, eqV, List.any_cons, List.any_nil, Bool.or_false, Bool.or_eq_true, beq_iff_eq, decide_eq_true_eq]
  constructor
  · rintro (h | h)
    · exact .inl h.symm
    · exact .inr h.symm
  · rintro (h | h)
    · exact .inl h.symm
    · exact .inr h.symm
theorem wipe1 {σ : L2.St} {k : Nat} {v : Option V} {n : Str} : wipe ((wipe σ ([(n, k)].map (·.2))).set k v) ([(n, k)].map (·.2)) = wipe σ ([(n, k)].map (·.2)) := by
  show ((σ.set k none).set k v).set k none = σ.set k none
  rw [List.set_set, List.set_set]
end NB

set_option Elab.async false
set_option linter.all false
set_option maxRecDepth 100000
namespace K21
open PySem PySem.Spec PyProof.Rows L2 NB
def topS (i : Nat) : Stmt := PySem.Challenge.pw_notbothout_k21_ways_walked_or_not.main.body.getD i (.Pass ⟨0, 0, 0, 0⟩)

/-- all that was tracked stands, but for what is at a -/
def But (a : Addr) (H H' : Hp) : Prop := ∀ b o, b ≠ a → H b = some o → H' b = some o
theorem But.of {a : Addr} {H H' : Hp} (h : Same H H') : But a H H' := fun b o _ e => h b o e
theorem But.trans {a : Addr} {H H1 H2 : Hp} (h : But a H H1) (h' : But a H1 H2) : But a H H2 := fun b o n e => h' b o n (h b o n e)
theorem But.seq {K : PySem.W.Frag} {a l : Addr} {H H' : Hp} {xs : List V} (h : But a H H') (n : l ≠ a) (q : SqL K H l xs) : SqL K H' l xs := by
  rcases q with (q | ⟨o, q⟩) | q
  · exact .inl (.inl (h _ _ n q))
  · exact .inl (.inr ⟨o, h _ _ n q⟩)
  · exact .inr q
theorem But.tup {K : PySem.W.Frag} {a l : Addr} {H H' : Hp} {xs : List V} (h : But a H H') (n : l ≠ a) (q : SqT K H l xs) : SqT K H' l xs := by
  rcases q with (q | ⟨o, q⟩) | q
  · exact .inl (.inl (h _ _ n q))
  · exact .inl (.inr ⟨o, h _ _ n q⟩)
  · exact .inr q
theorem sameT {K : PySem.W.Frag} {l : Addr} {H H' : Hp} {xs : List V} (h : Same H H') (q : SqT K H l xs) : SqT K H' l xs := by
  rcases q with (q | ⟨o, q⟩) | q
  · exact .inl (.inl (h _ _ q))
  · exact .inl (.inr ⟨o, h _ _ q⟩)
  · exact .inr q
theorem same_new {H : Hp} {p : Addr} {o : HO} (h : H p = none) : Same H (upd H p o) := fun b x e => by
  rw [upd_ne (ne_of_none e h)]
  exact e
/-- a cell that was free and is written stands apart from what was -/
theorem same_over {H H' : Hp} {p : Addr} {o : HO} (h : Same H H') (n : H p = none) : Same H (upd H' p o) := fun b x e => by
  rw [upd_ne (ne_of_none e n)]
  exact h b x e

theorem mapGet {α β : Type} {f : α → β} {xs : List α} {i : Nat} {y : β} (h : (xs.map f)[i]? = some y) : ∃ x, xs[i]? = some x ∧ y = f x := by
  rw [List.getElem?_map] at h
  cases e : xs[i]? with
  | none => rw [e] at h; cases h
  | some x => rw [e] at h; exact ⟨x, rfl, (Option.some.inj h).symm⟩

theorem take_map {α β : Type} (f : α → β) (xs : List α) (i : Nat) (y : α) (h : xs[i]? = some y) : (xs.take (i + 1)).map f = (xs.take i).map f ++ [f y] := by
  rw [List.take_add_one, h, List.map_append]
  rfl
theorem take_small {α : Type} {xs : List α} {i : Nat} (h : xs.length ≤ 1000) {β : Type} (f : α → β) : ((xs.take i).map f).length < sizeLine := by
  rw [List.length_map, List.length_take]
  exact Nat.lt_of_le_of_lt (Nat.min_le_right _ _) (small1000 h)

abbrev sPot : Stmt := topS 35
abbrev sTake : Stmt := topS 36
abbrev sOf : Stmt := topS 37
abbrev sStand : Stmt := topS 38
theorem scPot : FnScope ["_law_script", "_law_k", "_law_cell", "_law_great_here"] ["_law_script", "_law_k"] (defScope sPot) := ⟨rfl, rfl, rfl, by decide +kernel, rfl, by decide +kernel, by decide +kernel⟩
theorem scTake : FnScope ["_law_pot_here", "_law_many", "_law_digit", "_law_prime", "_law_mixed"] ["_law_pot_here", "_law_many"] (defScope sTake) := ⟨rfl, rfl, rfl, by decide +kernel, rfl, by decide +kernel, by decide +kernel⟩
theorem scOf : FnScope ["_law_pot_here", "_law_some"] ["_law_pot_here", "_law_some"] (defScope sOf) := ⟨rfl, rfl, rfl, by decide +kernel, rfl, by decide +kernel, by decide +kernel⟩
theorem scStand : FnScope ["_law_pot_here", "_law_tops_here", "_law_top"] ["_law_pot_here", "_law_tops_here"] (defScope sStand) := ⟨rfl, rfl, rfl, by decide +kernel, rfl, by decide +kernel, by decide +kernel⟩

/-- a pot out of which at most c numbers were taken by reckoning -/
def PotAt (H : Hp) (a : Addr) (c : Nat) : Prop := ∃ p q r : Int, H a = some (.lst [.int p, .int q, .int r]) ∧ 0 ≤ p ∧ 0 ≤ r ∧ r ≤ c
theorem PotAt.mono {H : Hp} {a : Addr} {c d : Nat} (h : PotAt H a c) (le : c ≤ d) : PotAt H a d := by
  obtain ⟨p, q, r, e, h1, h2, h3⟩ := h
  exact ⟨p, q, r, e, h1, h2, by omega⟩
theorem PotAt.keep {H H' : Hp} {a : Addr} {c : Nat} (h : PotAt H a c) (s : Same H H') : PotAt H' a c := by
  obtain ⟨p, q, r, e, h1, h2, h3⟩ := h
  exact ⟨p, q, r, s _ _ e, h1, h2, h3⟩
theorem PotAt.ne {H : Hp} {a b : Addr} {c : Nat} (h : PotAt H a c) (n : H b = none) : b ≠ a := by
  obtain ⟨p, q, r, e, _⟩ := h
  exact (ne_of_none e n).symm
theorem But.free {a b : Addr} {H H' : Hp} (h : But a H H') (ne : b ≠ a) (n : H' b = none) : H b = none := by
  cases e : H b with
  | none => rfl
  | some o =>
    rw [h b o ne e] at n
    cases n
theorem but_new {a p : Addr} {H H' : Hp} {o : HO} (h : But a H H') (n : H p = none) : But a H (upd H' p o) := fun b x ne e => by
  rw [upd_ne (ne_of_none e n)]
  exact h b x ne e
theorem but_at {a : Addr} {H H' : Hp} {o : HO} (h : But a H H') : But a H (upd H' a o) := fun b x ne e => by
  rw [upd_ne ne]
  exact h b x ne e

theorem prime_at (j : Int) (h0 : 0 ≤ j) (h4 : j < 4) : ∃ pr : Int, atI [V.int 2305843009213693951, V.int 999999999989, V.int 1000000000039, V.int 67280421310721] j = some (.int pr) ∧ 0 < pr ∧ pr < 2 ^ 62 := by
  have : j = 0 ∨ j = 1 ∨ j = 2 ∨ j = 3 := by omega
  rcases this with rfl | rfl | rfl | rfl
  · exact ⟨_, atI_nat (j := 0) rfl, by decide, by decide⟩
  · exact ⟨_, atI_nat (j := 1) rfl, by decide, by decide⟩
  · exact ⟨_, atI_nat (j := 2) rfl, by decide, by decide⟩
  · exact ⟨_, atI_nat (j := 3) rfl, by decide, by decide⟩

section
variable {P : Program} {w : World} {K : PySem.W.Frag} {mg : Str → Option Value} {base : Heap}

def spPot (K : PySem.W.Frag) : Sp := fun vs H Q _ => ∃ (a : Addr) (ns : List Int) (k : Nat), vs = [.ref a, .int k] ∧ SqL K H a (ns.map V.int) ∧ k ≤ 1000 ∧
  ∀ H' p, Same H H' → H p = none → PotAt H' p 0 → Q (.ref p) H'
theorem ok_pot {f : Addr} {fd : FuncData} {k : Nat} (F : Fun K "_law_pot" "_law_pot" sPot f fd) (ml : mg "len" = none) (ma : mg "abs" = none) (mi : mg "int" = none) : FnOk P w K mg base CX0 (k + 1) f fd ["_law_script", "_law_k"] (spPot K) := by
  refine F.ok scPot (fun vs H Q E h => ?_) (fun cdv A outer s H vs Q E hr h => ?_)
  · obtain ⟨a, ns, k, rfl, _⟩ := h
    rfl
  · obtain ⟨a, ns, k, rfl, hS, hk, q⟩ := h
    refine ⟨_, pss_cons (ps_set (i := 2) scPot.nd rfl (.inl rfl) (pe_ifExp (pt_cmpR op_lt (pv 1) (pe_callB call_len_seq (by rfl) ml PySem.boot_len (pa_cons (pv 0) pa_nil)) (nomark _)) (pe_ix ix_list (pv 0) (pv 1) (fun _ _ => rfl)) (pe_op op_add (pe_op op_mul pe_int (pv 1)) pe_int)))
      (pss_cons (ps_set (i := 3) scPot.nd rfl (.inl rfl) (pe_op op_mul (pe_op op_mod (pe_callB call_abs (by rfl) ma (by decide +kernel) (pa_cons (pv 2) pa_nil)) (pe_op op_powW (pe_op op_pow pe_int pe_int) pe_int))
          (pe_callTy call_int1 (by rfl) mi (by decide +kernel) (pa_cons (pe_cmpR op_ge (pe_callB call_abs (by rfl) ma (by decide +kernel) (pa_cons (pv 2) pa_nil)) (pe_op op_pow pe_int pe_int) (nomark _)) pa_nil))))
      (pss_one (ps_ret (pe_lst (pa_cons (pv 3) (pa_cons (pe_op op_mod (pe_op op_mul (pe_op op_add (pe_op op_add (pe_op op_mod (pv 2) pe_int) (pe_op op_mul (pe_op op_mul pe_int (pv 1)) (pv 1))) pe_int) pe_int) pe_int) (pa_cons pe_int pa_nil))))))), ?_⟩
    have k1 : -(2 ^ 64) < (k : Int) ∧ (k : Int) < 2 ^ 64 := by omega
    have big : (0 : Int) < (10 ^ (60 : Int).toNat) ^ (5 : Int).toNat := by decide +kernel
    have one : ∀ b : Bool, -(2 ^ 64) < (if b = true then (1 : Int) else 0) ∧ (if b = true then (1 : Int) else 0) < 2 ^ 64 := fun b => by cases b <;> decide
    have nn : ∀ (x : Int) (b : Bool), 0 ≤ x % (10 ^ (60 : Int).toNat) ^ (5 : Int).toNat * (if b = true then (1 : Int) else 0) := fun x b => Int.mul_nonneg (Int.emod_nonneg _ (Int.ne_of_gt big)) (by cases b <;> decide)
    refine ⟨.int k, rfl, .ref a, rfl, a, _, rfl, .inl hS, _, _, rfl, rfl, _, rfl, ite2 (fun c => ?_) (fun c => ?_)⟩
    · have c' := of_decide_eq_true c
      rw [List.length_map] at c'
      have lt : k < ns.length := by omega
      refine ⟨.ref a, rfl, .int k, rfl, a, _, k, .int ns[k], rfl, rfl, hS, atI_nat (by rw [List.getElem?_map, List.getElem?_eq_getElem lt]; rfl), ?_⟩
      refine ⟨.int ns[k], rfl, _, rfl, 10, 60, rfl, rfl, ⟨by decide, by decide, by decide⟩, _, 5, rfl, rfl, ⟨by decide, by decide +kernel⟩, _, _, rfl, rfl, big, .int ns[k], rfl, _, rfl, 10, 18, rfl, rfl, ⟨by decide, by decide, by decide⟩, _, _, rfl, rfl, .inr ⟨_, rfl, _, _, rfl, rfl, .inr (one _), ?_⟩⟩
      refine ⟨_, rfl, .int ns[k], rfl, _, 2305843009213693951, rfl, rfl, (show (0 : Int) < 2305843009213693951 by decide), .int k, rfl, 7919, k, rfl, rfl, .inl ⟨by decide, by decide⟩, .int k, rfl, _, k, rfl, rfl, .inr k1, _, _, rfl, rfl, _, 17, rfl, rfl, _, 48271, rfl, rfl, .inr ⟨by decide, by decide⟩, _, 2305843009213693921, rfl, rfl, (show (0 : Int) < 2305843009213693921 by decide), (show 3 ≤ sizeLine by decide), fun p np => ?_⟩
      exact q _ p (same_new np) np ⟨_, _, 0, upd_same, nn _ _, Int.le_refl _, Int.le_refl _⟩
    · refine ⟨.int k, rfl, 7, _, rfl, rfl, .inl ⟨by decide, by decide⟩, _, 3, rfl, rfl, ?_⟩
      refine ⟨_, rfl, _, rfl, 10, 60, rfl, rfl, ⟨by decide, by decide, by decide⟩, _, 5, rfl, rfl, ⟨by decide, by decide +kernel⟩, _, _, rfl, rfl, big, _, rfl, _, rfl, 10, 18, rfl, rfl, ⟨by decide, by decide, by decide⟩, _, _, rfl, rfl, .inr ⟨_, rfl, _, _, rfl, rfl, .inr (one _), ?_⟩⟩
      refine ⟨_, rfl, _, rfl, _, 2305843009213693951, rfl, rfl, (show (0 : Int) < 2305843009213693951 by decide), .int k, rfl, 7919, k, rfl, rfl, .inl ⟨by decide, by decide⟩, .int k, rfl, _, k, rfl, rfl, .inr k1, _, _, rfl, rfl, _, 17, rfl, rfl, _, 48271, rfl, rfl, .inr ⟨by decide, by decide⟩, _, 2305843009213693921, rfl, rfl, (show (0 : Int) < 2305843009213693921 by decide), (show 3 ≤ sizeLine by decide), fun p np => ?_⟩
      exact q _ p (same_new np) np ⟨_, _, 0, upd_same, nn _ _, Int.le_refl _, Int.le_refl _⟩

/-- a drawn number -/
def spTake : Sp := fun vs H Q _ => ∃ (a : Addr) (m : Int) (c : Nat), vs = [.ref a, .int m] ∧ PotAt H a c ∧ 1 ≤ m ∧ m < 2 ^ 200 ∧ c < 1000000 ∧
  ∀ (d : Int) H', But a H H' → PotAt H' a (c + 1) → 0 ≤ d → d < m → Q (.int d) H'
theorem ok_take {f : Addr} {fd : FuncData} {k : Nat} (F : Fun K "_law_take" "_law_take" sTake f fd) : FnOk P w K mg base CX0 (k + 1) f fd ["_law_pot_here", "_law_many"] spTake := by
  refine F.ok scTake (fun vs H Q E h => ?_) (fun cdv A outer s H vs Q E hr h => ?_)
  · obtain ⟨a, m, c, rfl, _⟩ := h
    rfl
  · obtain ⟨a, m, c, rfl, ⟨p0, p1, p2, ea, n0, n2, l2⟩, m1, m2, hc, q⟩ := h
    refine ⟨_, pss_cons (ps_if (pt_cmpR op_gt (pe_ix ix_list (pv 0) pe_int (fun _ _ => rfl)) pe_int (nomark _))
        (pss_cons (ps_set (i := 2) scTake.nd rfl (.inl rfl) (pe_op op_mod (pe_ix ix_list (pv 0) pe_int (fun _ _ => rfl)) (pv 1)))
        (pss_cons (ps_asg (pe_op op_fdivW (pe_ix ix_list (pv 0) pe_int (fun _ _ => rfl)) (pv 1)) (pg_sub (pv 0) pe_int set_list))
        (pss_one (ps_ret (pv 2))))) pss_nil)
      (pss_cons (ps_asg (pe_op op_add (pe_ix ix_list (pv 0) pe_int (fun _ _ => rfl)) pe_int) (pg_sub (pv 0) pe_int set_list))
      (pss_cons (ps_set (i := 3) scTake.nd rfl (.inl rfl) (pe_ix ix_list (pe_lst (pa_cons pe_int (pa_cons pe_int (pa_cons pe_int (pa_cons pe_int pa_nil))))) (pe_op op_mod (pe_ix ix_list (pv 0) pe_int (fun _ _ => rfl)) pe_int) (fun _ _ => rfl)))
      (pss_cons (ps_set (i := 4) scTake.nd rfl (.inl rfl) (pe_op op_mod (pe_op op_add (pe_op op_add (pe_ix ix_list (pv 0) pe_int (fun _ _ => rfl)) (pe_op op_mul (pe_op op_mul pe_int (pe_ix ix_list (pv 0) pe_int (fun _ _ => rfl))) (pe_ix ix_list (pv 0) pe_int (fun _ _ => rfl)))) (pe_op op_mul pe_int (pe_ix ix_list (pv 0) pe_int (fun _ _ => rfl)))) (pv 3)))
      (pss_cons (ps_set (i := 4) scTake.nd rfl (.inl rfl) (pe_op op_mod (pe_op op_pow (pv 4) pe_int) (pv 3)))
      (pss_one (ps_ret (pe_op op_mod (pe_op op_add (pe_op op_fdiv (pv 4) pe_int) (pe_op op_mul (pe_op op_fdiv (pv 4) pe_int) pe_int)) (pv 1)))))))), ?_⟩
    have mpos : (0 : Int) < m := by omega
    refine ⟨.ref a, rfl, a, _, 0, .int p0, rfl, rfl, .inl (.inl ea), atI_nat (j := 0) rfl, _, 0, rfl, rfl, _, rfl, ite2 (fun _ => ?_) (fun _ => ?_)⟩
    · refine ⟨.ref a, rfl, a, _, 0, .int p0, rfl, rfl, .inl (.inl ea), atI_nat (j := 0) rfl, .int m, rfl, p0, m, rfl, rfl, mpos, ?_⟩
      refine ⟨.ref a, rfl, a, _, 0, .int p0, rfl, rfl, .inl (.inl ea), atI_nat (j := 0) rfl, .int m, rfl, p0, m, rfl, rfl, wide_div (b := 200) mpos (by omega) (by decide) (by decide), ?_⟩
      refine ⟨.ref a, rfl, a, _, 0, 0, rfl, rfl, ea, rfl, ?_⟩
      refine ⟨.int (p0 % m), rfl, ?_⟩
      refine q _ _ (but_at (fun _ _ _ e => e)) ⟨p0 / m, p1, p2, upd_same, Int.ediv_nonneg n0 (by omega), n2, by omega⟩ (Int.emod_nonneg _ (by omega)) (Int.emod_lt_of_pos _ mpos)
    · refine ⟨.ref a, rfl, a, _, 2, .int p2, rfl, rfl, .inl (.inl ea), atI_nat (j := 2) rfl, p2, 1, rfl, rfl, ?_⟩
      refine ⟨.ref a, rfl, a, _, 2, 2, rfl, rfl, ea, rfl, ?_⟩
      obtain ⟨pr, epr, pp, pl⟩ := prime_at ((p2 + 1) % 4) (Int.emod_nonneg _ (by decide)) (Int.emod_lt_of_pos _ (by decide))
      have ea2 : (upd H a (.lst [.int p0, .int p1, .int (p2 + 1)])) a = some (.lst [.int p0, .int p1, .int (p2 + 1)]) := upd_same
      refine ⟨(show 4 ≤ sizeLine by decide), fun l nl => ?_⟩
      have nla : a ≠ l := ne_of_none ea2 nl
      have ea3 : (upd (upd H a (.lst [.int p0, .int p1, .int (p2 + 1)])) l (.lst [V.int 2305843009213693951, V.int 999999999989, V.int 1000000000039, V.int 67280421310721])) a = some (.lst [.int p0, .int p1, .int (p2 + 1)]) := (upd_ne nla).trans ea2
      refine ⟨.ref a, rfl, a, _, 2, .int (p2 + 1), rfl, rfl, .inl (.inl ea3), atI_nat (j := 2) rfl, p2 + 1, 4, rfl, rfl, (show (0 : Int) < 4 by decide), l, _, (p2 + 1) % 4, .int pr, rfl, rfl, .inl (.inl upd_same), epr, ?_⟩
      have b2 : -(2 ^ 64) < p2 + 1 ∧ p2 + 1 < 2 ^ 64 := by omega
      refine ⟨.ref a, rfl, a, _, 1, .int p1, rfl, rfl, .inl (.inl ea3), atI_nat (j := 1) rfl, .ref a, rfl, a, _, 2, .int (p2 + 1), rfl, rfl, .inl (.inl ea3), atI_nat (j := 2) rfl, 7919, p2 + 1, rfl, rfl, .inl ⟨by decide, by decide⟩, .ref a, rfl, a, _, 2, .int (p2 + 1), rfl, rfl, .inl (.inl ea3), atI_nat (j := 2) rfl, _, p2 + 1, rfl, rfl, .inr b2, _, _, rfl, rfl,
        .ref a, rfl, a, _, 2, .int (p2 + 1), rfl, rfl, .inl (.inl ea3), atI_nat (j := 2) rfl, 65537, p2 + 1, rfl, rfl, .inl ⟨by decide, by decide⟩, _, _, rfl, rfl, .int pr, rfl, _, pr, rfl, rfl, pp, ?_⟩
      have mx : ∀ e : Int, (e % pr).natAbs < 2 ^ 64 := fun e => by
        have h1 := Int.emod_nonneg e (Int.ne_of_gt pp)
        have h2 := Int.emod_lt_of_pos e pp
        omega
      refine ⟨_, rfl, _, 5, rfl, rfl, ⟨by decide, by decide, mx _⟩, .int pr, rfl, _, pr, rfl, rfl, pp, ?_⟩
      refine ⟨_, rfl, _, 4099, rfl, rfl, ⟨by decide, by decide⟩, _, rfl, _, 1000003, rfl, rfl, ⟨by decide, by decide⟩, _, 7, rfl, rfl, .inr ⟨by decide, by decide⟩, _, _, rfl, rfl, .int m, rfl, _, m, rfl, rfl, mpos, ?_⟩
      refine q _ _ ?_ ⟨p0, p1, p2 + 1, ea3, n0, by omega, by omega⟩ (Int.emod_nonneg _ (by omega)) (Int.emod_lt_of_pos _ mpos)
      exact but_new (but_at (fun _ _ _ e => e)) (by rw [upd_ne nla.symm] at nl; exact nl)
end

/-- a def that is known by its promise -/
structure Kn (P : Program) (w : World) (K : PySem.W.Frag) (mg : Str → Option Value) (base : Heap) (k : Nat) (x : Str) (ps : List Str) (sp : Sp) (f : Addr) (fd : FuncData) : Prop where
  ok : FnOk P w K mg base CX0 k f fd ps sp
  gl : mg x = some (.ref f)
  kp : PySem.W.keepIn K (.ref f) = true
  bi : Binds K fd ps []
theorem pe_kn {X : Cx} {k j : Nat} {x : Str} {ps : List Str} {sp : Sp} {f : Addr} {fd : FuncData} {p pos : Pos} {e : Expr} {es : List Expr} {t : TA} (C : Kn X.prog X.w X.K X.mg X.base k x ps sp f fd) (hr : Room j X.A) (hj : k ≤ j) (ha : PA X (e :: es) t) (hg : Gl X x := by rfl) (hdb : (x == ("__debug__" : Str)) = false := by decide)
    (he : starEach (e :: es) X.env = (false, eval e X.env) :: starEach es X.env := by rfl) (hpl : (backTo pos (starEach es X.env)).any (·.1) = false := by rfl) :
    PE X (.Call (.Name x p) (e :: es) [] pos) (tCall sp [] E0 t) := pe_call C.ok (hr.mono hj) hg C.gl C.kp C.bi .nil pass0 ha hdb he hpl

theorem But.tupP {K : PySem.W.Frag} {a t : Addr} {H H' : Hp} {c : Nat} {xs : List V} (b : But a H H') (p : PotAt H a c) (q : SqT K H t xs) : SqT K H' t xs := by
  obtain ⟨_, _, _, e, _⟩ := p
  rcases q with (q | ⟨o, q⟩) | q
  · exact .inl (.inl (b _ _ (ne_of q e (by intro z; cases z)) q))
  · exact .inl (.inr ⟨o, b _ _ (ne_of q e (by intro z; cases z)) q⟩)
  · exact .inr q
/-- places, or tops -/
def Pl (xs : List Int) : Prop := ∀ x ∈ xs, 0 ≤ x ∧ x < 10 ^ 30
theorem Pl.snoc {xs : List Int} {x : Int} (h : Pl xs) (h0 : 0 ≤ x) (h1 : x < 10 ^ 30) : Pl (xs ++ [x]) := fun y hy => by
  rcases List.mem_append.mp hy with q | q
  · exact h y q
  · rw [List.mem_singleton.mp q]
    exact ⟨h0, h1⟩

section
variable {P : Program} {w : World} {K : PySem.W.Frag} {mg : Str → Option Value} {base : Heap}

/-- one of some -/
def spOf (K : PySem.W.Frag) : Sp := fun vs H Q _ => ∃ (a l : Addr) (xs : List V) (c : Nat), vs = [.ref a, .ref l] ∧ PotAt H a c ∧ l ≠ a ∧ (SqL K H l xs ∨ SqT K H l xs) ∧ 1 ≤ xs.length ∧ xs.length ≤ 1000000 ∧ c < 1000000 ∧
  ∀ x H', x ∈ xs → But a H H' → PotAt H' a (c + 1) → Q x H'
theorem ok_of {f fT : Addr} {fd fdT : FuncData} {k : Nat} (F : Fun K "_law_of" "_law_of" sOf f fd) (T : Kn P w K mg base 1 "_law_take" ["_law_pot_here", "_law_many"] spTake fT fdT) (ml : mg "len" = none) : FnOk P w K mg base CX0 (k + 2) f fd ["_law_pot_here", "_law_some"] (spOf K) := by
  refine F.ok scOf (fun vs H Q E h => ?_) (fun cdv A outer s H vs Q E hr h => ?_)
  · obtain ⟨a, l, xs, c, rfl, _⟩ := h
    rfl
  · obtain ⟨a, l, xs, c, rfl, pa, ne, hl, l1, l2, hc, q⟩ := h
    refine ⟨_, pss_one (ps_ret (pe_ix ix_seq (pv 1) (pe_kn T hr (Nat.le_add_left 1 k) (pa_cons (pv 0) (pa_cons (pe_callB call_len_seq (by rfl) ml PySem.boot_len (pa_cons (pv 1) pa_nil)) pa_nil))) (fun _ _ => rfl))), ?_⟩
    refine ⟨.ref l, rfl, .ref a, rfl, .ref l, rfl, l, xs, rfl, hl, a, _, c, rfl, pa, by omega, ?_, hc, fun d H' b p' d0 dm => ?_⟩
    · have : (xs.length : Int) ≤ 1000000 := by omega
      exact Int.lt_of_le_of_lt this (by decide)
    have lt : d.toNat < xs.length := by omega
    have ei : atI xs d = some xs[d.toNat] := by
      have := atI_nat (xs := xs) (j := d.toNat) (List.getElem?_eq_getElem lt)
      rwa [Int.toNat_of_nonneg d0] at this
    have fin := q xs[d.toNat] H' (List.getElem_mem lt) b p'
    rcases hl with h | h
    · exact .inl ⟨l, xs, d, _, rfl, rfl, b.seq ne h, ei, fin⟩
    · exact .inr (.inl ⟨l, xs, d, _, rfl, rfl, b.tup ne h, ei, fin⟩)

/-- none beyond its top -/
def Le (st tops : List Int) : Prop := ∀ (i : Nat) (x t : Int), st[i]? = some x → tops[i]? = some t → x ≤ t
theorem Le.snoc {st tops : List Int} {x t : Int} (h : Le st tops) (e : tops[st.length]? = some t) (l : x ≤ t) : Le (st ++ [x]) tops := fun i y u h1 h2 => by
  rcases Nat.lt_or_ge i st.length with q | q
  · rw [List.getElem?_append_left q] at h1
    exact h i y u h1 h2
  · rw [List.getElem?_append_right q] at h1
    have e0 : i - st.length = 0 := by
      rcases Nat.eq_zero_or_pos (i - st.length) with z | z
      · exact z
      · rw [List.getElem?_eq_none (by simp only [List.length_cons, List.length_nil]; omega)] at h1
        cases h1
    have ei : i = st.length := by omega
    subst ei
    rw [e0] at h1
    cases h1
    rw [e] at h2
    cases h2
    exact l
/-- a standing -/
def spStand (K : PySem.W.Frag) : Sp := fun vs H Q _ => ∃ (a t : Addr) (tops : List Int) (c : Nat), vs = [.ref a, .ref t] ∧ PotAt H a c ∧ SqT K H t (tops.map V.int) ∧ Pl tops ∧ tops.length ≤ 12 ∧ c < 900000 ∧
  ∀ H' p st, But a H H' → PotAt H' a (c + 12) → H p = none → H' p = some (.tup (st.map V.int)) → st.length = tops.length → Pl st → Le st tops → Q (.ref p) H'
theorem ok_stand {f fT : Addr} {fd fdT : FuncData} {k : Nat} (F : Fun K "_law_standing" "_law_standing" sStand f fd) (T : Kn P w K mg base 1 "_law_take" ["_law_pot_here", "_law_many"] spTake fT fdT) (mt : mg "tuple" = none) : FnOk P w K mg base CX0 (k + 2) f fd ["_law_pot_here", "_law_tops_here"] (spStand K) := by
  refine F.ok scStand (fun vs H Q E h => ?_) (fun cdv A outer s H vs Q E hr h => ?_)
  · obtain ⟨a, t, tops, c, rfl, _⟩ := h
    rfl
  · obtain ⟨a, t, tops, c, rfl, pa, ht, pl, l12, hc, q⟩ := h
    refine ⟨_, pss_one (ps_ret (pe_callTy call_tuple_of (by rfl) mt (by decide +kernel) (pa_cons
      (pe_lc (own := [("_law_top", 2)]) (g := gName 2) (tt := tYes) rfl scStand.nd (pi_tup (pv 1)) (blkOk_by (N := ["_law_pot_here", "_law_tops_here", "_law_top"]) (sc := defScope sStand) (by decide +kernel))
        (fun _ _ _ _ _ => pg_name (i := 2) scStand.nd rfl (.inl rfl) (hf := .inr rfl)) (fun _ _ _ _ _ => pts_nil)
        (fun _ _ _ _ _ => pe_kn T hr (Nat.le_add_left 1 k) (pa_cons (pv 0) (pa_cons (pe_op op_add (pv 2) pe_int) pa_nil)))) pa_nil))), ?_⟩
    refine ⟨.ref t, rfl, t, rfl, ⟨_, ht⟩, fun D nD => lc_it (walk_tup (xs := tops.map V.int)) (fun i H' => But a H H' ∧ PotAt H' a (c + i) ∧ ∃ st : List Int, H' D = some (.lst (st.map V.int)) ∧ st.length = i ∧ Pl st ∧ Le st tops)
      ⟨but_new (fun _ _ _ e => e) nD, pa.keep (same_new nD), [], upd_same, rfl, fun _ h => absurd h List.not_mem_nil, fun i x t h => by simp at h⟩ (fun i H' _ p => p.1.tupP pa ht) (fun i v H1 H2 hi p y => ?_) (fun H' p => ?_)⟩
    · obtain ⟨b, p1, st, eD, sl, sp, sle⟩ := p
      obtain ⟨rfl, gv⟩ := y
      obtain ⟨x, ex, rfl⟩ := mapGet gv
      have hx := pl x (List.mem_of_getElem? ex)
      have hi' : i < tops.length := by simpa using hi
      refine ⟨rfl, .ref a, rfl, .int x, rfl, x, 1, rfl, rfl, a, x + 1, c + i, rfl, p1, by omega, ?_, by omega, fun d H3 b3 p3 d0 dm => ?_⟩
      · have : x + 1 ≤ 10 ^ 30 := by omega
        exact Int.lt_of_le_of_lt this (by decide)
      have nDa : D ≠ a := pa.ne nD
      refine ⟨_, b3 _ _ nDa eD, ?_, but_new (b.trans b3) nD, ?_, st ++ [d], ?_, ?_, sp.snoc d0 (by omega), sle.snoc (by rw [sl]; exact ex) (by omega)⟩
      · rw [List.length_map]
        exact small1000 (by omega)
      · obtain ⟨u, v, r, e, z⟩ := p3
        exact ⟨u, v, r, (upd_ne nDa.symm).trans e, z⟩
      · rw [upd_same, List.map_append]
        rfl
      · rw [List.length_append, sl]
        rfl
    · obtain ⟨b, p1, st, eD, sl, sp, sle⟩ := p
      rw [List.length_map] at p1 sl
      refine ⟨D, _, rfl, .inl ⟨.inl (.inl eD), fun l nl => ?_⟩⟩
      have nla : l ≠ a := p1.ne nl
      have nlH : H l = none := b.free nla nl
      refine q _ l st (but_new b nlH) (((p1.mono (by omega)).keep (same_new nl))) nlH upd_same sl sp sle
end

section
variable {P : Program} {w : World} {K : PySem.W.Frag} {mg : Str → Option Value} {base : Heap}

theorem pot_upd {H : Hp} {a p : Addr} {c : Nat} {o : HO} (h : PotAt H a c) (n : p ≠ a) : PotAt (upd H p o) a c := by
  obtain ⟨x, y, z, e, r⟩ := h
  exact ⟨x, y, z, (upd_ne n.symm).trans e, r⟩
theorem e15 : (10 : Int) ^ (15 : Int).toNat = 1000000000000000 := by decide
theorem e30 : (10 : Int) ^ (30 : Int).toNat = 10 ^ 30 := by decide

end
end K21

set_option Elab.async false
set_option linter.all false
set_option maxRecDepth 100000
set_option maxHeartbeats 1000000
/-! Own exceptions with one field: made, raised, caught, read. -/
namespace NB
open PySem PySem.Spec PyProof.Rows L2

/-- what the written part says of an own exception class, named x, with one field f -/
structure ExT (K : PySem.W.Frag) (mg : Str → Option Value) (x f : Str) (C fI : Addr) (fdI : FuncData) : Prop where
  gC : mg x = some (.ref C)
  oex : OexC K C
  noN : PySem.W.findIn K (.ref C) f = some none
  iC : PySem.W.findIn K (.ref C) "__init__" = some (some (.ref fI))
  tI : PySem.W.typeIn K (.ref fI) = some (.type "function")
  xf : XfC K C
  te : PySem.W.exmOne K (.ref C) (.ref C) = some true
  bI : Binds K fdI ["self", f] []
/-- an error of the class at S is what «except S» names -/
theorem exm_self {K : PySem.W.Frag} {S : Addr} (h1 : PySem.W.subIn K (.ref S) (.type "BaseException") = some true) (h2 : PySem.W.isClsIn K S = true) (h3 : PySem.W.typeIn K (.ref S) = some (.type "type")) (h4 : PySem.W.subIn K (.ref S) (.ref S) = some true) :
    PySem.W.exmOne K (.ref S) (.ref S) = some true := by
  have e1 : (PySem.W.subIn K (.ref S) (.type "BaseException") == some true) = true := by rw [h1] <;> rfl
  have e2 : ((PySem.W.clsIn K S).isSome && PySem.W.typeIn K (.ref S) == some (.type "type")) = true := by
    have h2' : (PySem.W.clsIn K S).isSome = true := h2
    rw [h2', h3] <;> rfl
  show (if (PySem.W.subIn K (.ref S) (.type "BaseException") == some true) = true then (if ((PySem.W.clsIn K S).isSome && PySem.W.typeIn K (.ref S) == some (.type "type")) = true then PySem.W.subIn K (.ref S) (.ref S) else none) else none) = some true
  rw [if_pos e1, if_pos e2]
  exact h4
/-- __init__(self, f): self.f = f -/
def spXI (C : Addr) (f : Str) : Sp := fun vs H Q _ => ∃ (a : Addr) (v : V), vs = [.ref a, v] ∧ H a = some (exo a C none) ∧ ∀ dx, H dx = none → dx ≠ a → Q .non (upd (upd H dx (exd dx [(f, v)])) a (exo a C (some dx)))
section
variable {P : Program} {w : World} {K : PySem.W.Frag} {mg : Str → Option Value} {base : Heap}
theorem heap_x {H : Hp} {a d : Addr} {o1 o2 o3 x : HO} (na : H a = none) (ne : d ≠ a) : upd (del (upd (upd (upd H a o1) d o2) a o3) a) d x = upd H d x := by
  funext b
  by_cases c : b = d
  · subst c
    rw [upd_same, upd_same]
  · rw [upd_ne c, upd_ne c]
    by_cases c2 : b = a
    · subst c2
      rw [del_same, na]
    · rw [del_ne c2, upd_ne c2, upd_ne c, upd_ne c2]
/-- what making one asks, behind its argument -/
theorem mkX {C : Addr} {f : Str} {v : V} {H : Hp} {Q : XK} (h : ∀ d, H d = none → Q (.ref C) (some d) (upd H d (.xd [(f, v)]))) :
    [v].length ≤ 1000 ∧ ∀ a, H a = none → spXI C f (.ref a :: ([v] ++ [])) (upd H a (exo a C none))
      (fun u H2 => u = .non ∧ ∃ (d : Addr) (fs : List (Str × V)), H2 a = some (exo a C (some d)) ∧ H2 d = some (exd d fs) ∧ H d = none ∧ Q (.ref C) (some d) (upd (del H2 a) d (.xd fs))) (fun _ _ _ => False) := by
  refine ⟨(show 1 ≤ 1000 by decide), fun a na => ⟨a, v, rfl, upd_same, fun dx ndx ne => ⟨rfl, dx, [(f, v)], upd_same, (upd_ne ne).trans upd_same, ?_, ?_⟩⟩⟩
  · rw [upd_ne ne] at ndx
    exact ndx
  · rw [heap_x na ne]
    refine h dx ?_
    rw [upd_ne ne] at ndx
    exact ndx
theorem pmk_x {X : Cx} {x f : Str} {C fI : Addr} {fdI : FuncData} {j : Nat} {e : Expr} {es : List Expr} {ta : TA} {p pos : Pos} (T : ExT X.K X.mg x f C fI fdI) (G : FnOk X.prog X.w X.K X.mg X.base CX0 1 fI fdI ["self", f] (spXI C f)) (hr : Room j X.A) (hj : 2 ≤ j) (ha : PA X (e :: es) ta) (hg : Gl X x := by rfl)
    (hdb : (x == ("__debug__" : Str)) = false := by decide) (he : starEach (e :: es) X.env = (false, eval e X.env) :: starEach es X.env := by rfl) (hpl : (backTo pos (starEach es X.env)).any (·.1) = false := by rfl) :
    PMk X (.Call (.Name x p) (e :: es) [] pos) (tMkO C (spXI C f) [] ta) := pmk_oex T.oex T.iC T.tI G (hr.mono hj) T.bI .nil pass0 hg T.gC ha hdb he hpl
/-- a def that raises nothing where its promise is so -/
theorem FnOk.noX {k : Nat} {f : Addr} {fd : FuncData} {ps : List Str} {sp sp' : Sp} (F : FnOk P w K mg base (L2.CX P w) k f fd ps sp) (h : ∀ vs H Q E, sp' vs H Q E → sp vs H Q E0) : FnOk P w K mg base CX0 k f fd ps sp' := by
  refine ⟨fun vs H Q E q => F.len vs H Q E0 (h _ _ _ _ q), fun A outer s H args us vs Q E hr he hb hv hs => codeAny_mono (F.run A outer s H args us vs Q E0 hr he hb hv (h _ _ _ _ hs)) ?_⟩
  intro r s' z
  cases r with
  | error e =>
    obtain ⟨_, _, _, _, _, _, _, _, _, _, _, _, z⟩ := (z : L2.CX P w outer H s E0 e s')
    exact z.elim
  | ok fl => cases fl <;> exact z
end
/-- a def that may raise, known by its promise -/
structure KnX (P : Program) (w : World) (K : PySem.W.Frag) (mg : Str → Option Value) (base : Heap) (k : Nat) (x : Str) (ps : List Str) (sp : Sp) (f : Addr) (fd : FuncData) : Prop where
  ok : FnOk P w K mg base (L2.CX P w) k f fd ps sp
  gl : mg x = some (.ref f)
  kp : PySem.W.keepIn K (.ref f) = true
  bi : Binds K fd ps []
section
variable {X : Cx} {k j : Nat} {x : Str} {ps : List Str} {sp : Sp} {f : Addr} {fd : FuncData} {p pos : Pos} {e : Expr} {es : List Expr} {t : TA} {W : WX} {E : XK}
/-- where it raises nothing -/
theorem pe_knX (C : KnX X.prog X.w X.K X.mg X.base k x ps sp f fd) (hr : Room j X.A) (hj : k ≤ j) (ha : PA X (e :: es) t) (hg : Gl X x := by rfl) (hdb : (x == ("__debug__" : Str)) = false := by decide)
    (he : starEach (e :: es) X.env = (false, eval e X.env) :: starEach es X.env := by rfl) (hpl : (backTo pos (starEach es X.env)).any (·.1) = false := by rfl) :
    PE X (.Call (.Name x p) (e :: es) [] pos) (tCall sp [] E0 t) := pe_call C.ok (hr.mono hj) hg C.gl C.kp C.bi .nil passL ha hdb he hpl
/-- within a try -/
theorem pe_knS (C : KnX X.prog X.w X.K X.mg X.base k x ps sp f fd) (hr : Room j X.A) (hj : k ≤ j) (tk : Takes X W) (ha : PA X (e :: es) t) (hg : Gl X x := by rfl) (hdb : (x == ("__debug__" : Str)) = false := by decide)
    (he : starEach (e :: es) X.env = (false, eval e X.env) :: starEach es X.env := by rfl) (hpl : (backTo pos (starEach es X.env)).any (·.1) = false := by rfl) :
    PE X (.Call (.Name x p) (e :: es) [] pos) (tCallS sp (WE W) t) := pe_callS C.ok (hr.mono hj) hg C.gl C.kp C.bi (fun σ => passAt tk σ) ha hdb he hpl
/-- where what it raises goes on -/
theorem pe_knP (C : KnX X.prog X.w X.K X.mg X.base k x ps sp f fd) (hr : Room j X.A) (hj : k ≤ j) (tk : Takes X (fun cls d _ H => E cls d H)) (ha : PA X (e :: es) t) (hg : Gl X x := by rfl) (hdb : (x == ("__debug__" : Str)) = false := by decide)
    (he : starEach (e :: es) X.env = (false, eval e X.env) :: starEach es X.env := by rfl) (hpl : (backTo pos (starEach es X.env)).any (·.1) = false := by rfl) :
    PE X (.Call (.Name x p) (e :: es) [] pos) (tCall sp [] E t) := pe_call C.ok (hr.mono hj) hg C.gl C.kp C.bi .nil (passes_call tk (fun _ _ _ _ h => h)) ha hdb he hpl
end
end NB

set_option Elab.async false
set_option linter.all false
set_option maxRecDepth 100000
namespace K21
open PySem PySem.Spec PyProof.Rows L2 NB

/-! ### kinds, of anything -/
def wholeD : PyData → Bool
  | .int _ => true
  | _ => false
def noneD : PyData → Bool
  | .none => true
  | _ => false
def strIs (z : Str) : PyData → Bool
  | .str x => decide (x = z)
  | _ => false
def placeD (t : Int) : PyData → Bool
  | .int i => decide (0 ≤ i) && decide (i ≤ t)
  | _ => false
def natD : PyData → Nat
  | .int i => i.toNat
  | _ => 0
def wordD (d : PyData) : Bool := strIs "from" d || strIs "to" d
def sideD (tops : List Int) : PyData → Bool
  | .tuple ds => decide (ds.length = 3) && (placeD ((tops.length : Int) - 1) (ds.getD 0 .none) && (wordD (ds.getD 1 .none) && placeD (tops.getD (natD (ds.getD 0 .none)) 0) (ds.getD 2 .none)))
  | _ => false
theorem tup_or (d : PyData) : (∃ ds, d = .tuple ds) ∨ isTupD d = false := by
  cases d with
  | tuple ds => exact .inl ⟨ds, rfl⟩
  | _ => exact .inr rfl
theorem str_or (d : PyData) : (∃ z, d = .str z) ∨ isStrD d = false := by
  cases d with
  | str z => exact .inl ⟨z, rfl⟩
  | _ => exact .inr rfl
theorem side_no {tops : List Int} {d : PyData} (h : isTupD d = false) : sideD tops d = false := by
  cases d with
  | tuple ds => cases h
  | _ => rfl
theorem word_no {d : PyData} (h : isStrD d = false) : wordD d = false := by
  cases d with
  | str z => cases h
  | _ => rfl
theorem place_int {t : Int} {d : PyData} (h : placeD t d = true) : ∃ i : Nat, d = .int i ∧ (i : Int) ≤ t := by
  cases d with
  | int i =>
    have h' : (decide (0 ≤ i) && decide (i ≤ t)) = true := h
    simp at h'
    exact ⟨i.toNat, by rw [Int.toNat_of_nonneg h'.1], by omega⟩
  | _ => cases h
theorem all_take {α : Type} (g : α → Bool) (xs : List α) (i : Nat) (y : α) (h : xs[i]? = some y) : ((xs.take (i + 1)).map g).map V.bl = ((xs.take i).map g).map V.bl ++ [V.bl (g y)] := by
  rw [List.take_add_one, h, List.map_append, List.map_append]
  rfl
theorem all_id {α : Type} (g : α → Bool) (xs : List α) : (xs.map g).all id = xs.all g := by
  rw [List.all_map]
  rfl
theorem getD_at {xs : List Int} {i : Nat} (h : i < xs.length) : xs.getD i 0 = xs[i] := by
  rw [List.getD_eq_getElem?_getD, List.getElem?_eq_getElem h]
  rfl
section
variable {P : Program} {w : World} {K : PySem.W.Frag} {mg : Str → Option Value} {base : Heap}
/-- a look at data that leaves all as it is -/
def spLook (g : PyData → Bool) : Sp := fun vs H Q _ => ∃ (n : Addr) (v : V) (d : PyData), vs = [v] ∧ Da n H v d ∧ ∀ H', Same H H' → Q (.bl (g d)) H'
def spLookI (g : Int → PyData → Bool) : Sp := fun vs H Q _ => ∃ (n : Addr) (t : Int) (v : V) (d : PyData), vs = [.int t, v] ∧ Da n H v d ∧ ∀ H', Same H H' → Q (.bl (g t d)) H'
def spLookT (g : List Int → PyData → Bool) : Sp := fun vs H Q _ => ∃ (n t : Addr) (tops : List Int) (v : V) (d : PyData), vs = [.ref t, v] ∧ H t = some (.tup (tops.map V.int)) ∧ Da n H v d ∧ ∀ H', Same H H' → Q (.bl (g tops d)) H'
abbrev a_is_whole : Stmt := topS 10
abbrev n_is_whole : List Str := ["thing"]
theorem sc_is_whole : FnScope n_is_whole ["thing"] (defScope a_is_whole) := ⟨rfl, rfl, rfl, by decide +kernel, rfl, by decide +kernel, by decide +kernel⟩
set_option maxHeartbeats 8000000 in
theorem ok_is_whole {f  : Addr} {fd  : FuncData} {k : Nat}  (F : Fun K "is_whole" "is_whole" a_is_whole f fd)   (m_bool : mg "bool" = none) (m_int : mg "int" = none) (m_isinstance : mg "isinstance" = none) : FnOk P w K mg base CX0 (k + 1) f fd ["thing"] (spLook wholeD) := by
  refine F.ok sc_is_whole (fun vs H Q E h => ?_) (fun cdv A outer s H vs Q E hr h => ?_)
  · obtain ⟨n, v, d, rfl, _⟩ := h
    rfl
  · obtain ⟨n, v, d, rfl, hd, q⟩ := h
    refine ⟨_, (pss_one (ps_ret (pe_and (pe_callB call_isiD (by rfl) m_isinstance (by decide +kernel) (pa_cons (pv 0) (pa_cons (pe_bltn (v := .ty "int") (u := .type "int") (by rfl) m_int (by decide +kernel) rfl) pa_nil))) (pe_one (pe_not (pe_callB call_isiD (by rfl) m_isinstance (by decide +kernel) (pa_cons (pv 0) (pa_cons (pe_bltn (v := .ty "bool") (u := .type "bool") (by rfl) m_bool (by decide +kernel) rfl) pa_nil)))))))), ?_⟩
    refine ⟨v, rfl, n, v, d, "int", _, rfl, hd, kit_int d, _, rfl, ?_⟩
    cases hd with
    | int i => exact iteT ⟨_, rfl, n, _, _, "bool", _, rfl, .int i, kit_bool _, _, rfl, q H (Same.refl H)⟩
    | bl b => exact iteT ⟨_, rfl, n, _, _, "bool", _, rfl, .bl b, kit_bool _, _, rfl, q H (Same.refl H)⟩
    | _ => exact iteF (q H (Same.refl H))
abbrev a_is_place : Stmt := topS 11
abbrev n_is_place : List Str := ["top", "thing"]
theorem sc_is_place : FnScope n_is_place ["top", "thing"] (defScope a_is_place) := ⟨rfl, rfl, rfl, by decide +kernel, rfl, by decide +kernel, by decide +kernel⟩
set_option maxHeartbeats 8000000 in
theorem ok_is_place {f fWh : Addr} {fd fdWh : FuncData} {k : Nat}  (F : Fun K "is_place" "is_place" a_is_place f fd) (Wh : Kn P w K mg base 1 "is_whole" ["thing"] (spLook wholeD) fWh fdWh)   : FnOk P w K mg base CX0 (k + 2) f fd ["top", "thing"] (spLookI placeD) := by
  refine F.ok sc_is_place (fun vs H Q E h => ?_) (fun cdv A outer s H vs Q E hr h => ?_)
  · obtain ⟨n, t, v, d, rfl, _⟩ := h
    rfl
  · obtain ⟨n, t, v, d, rfl, hd, q⟩ := h
    refine ⟨_, (pss_one (ps_ret (pe_and (pe_kn Wh hr (by omega) (pa_cons (pv 1) pa_nil)) (pe_one (pe_chain op_le op_le pe_int (pv 1) (pv 0)))))), ?_⟩
    refine ⟨v, rfl, n, v, d, rfl, hd, fun H1 s1 => ⟨_, rfl, ?_⟩⟩
    cases hd with
    | int i =>
      refine iteT ⟨_, rfl, 0, i, rfl, rfl, _, rfl, ite2 (fun c => ?_) (fun c => ?_)⟩
      · have := q H1 s1
        rw [show placeD t (.int i) = decide (i ≤ t) from by show (decide (0 ≤ i) && _) = _; rw [show decide (0 ≤ i) = true from c, Bool.true_and]] at this
        exact ⟨_, rfl, i, t, rfl, rfl, this⟩
      · have := q H1 s1
        rw [show placeD t (.int i) = false from by show (decide (0 ≤ i) && _) = _; rw [Bool.eq_false_iff.mpr c, Bool.false_and]] at this
        exact this
    | _ => exact iteF (q H1 s1)
abbrev a_is_side_of : Stmt := topS 13
abbrev n_is_side_of : List Str := ["tops", "thing", "number", "word", "place"]
theorem sc_is_side_of : FnScope n_is_side_of ["tops", "thing"] (defScope a_is_side_of) := ⟨rfl, rfl, rfl, by decide +kernel, rfl, by decide +kernel, by decide +kernel⟩
set_option maxHeartbeats 8000000 in
theorem ok_is_side_of {f fPc : Addr} {fd fdPc : FuncData} {k : Nat} {wa : Addr} (F : Fun K "is_side_of" "is_side_of" a_is_side_of f fd) (Pc : Kn P w K mg base 2 "is_place" ["top", "thing"] (spLookI placeD) fPc fdPc) (gv4 : mg "WORDS" = some (.ref wa)) (hW : ∀ H, SqT K H wa [.str "from", .str "to"]) (m_isinstance : mg "isinstance" = none) (m_len : mg "len" = none) (m_str : mg "str" = none) (m_tuple : mg "tuple" = none) : FnOk P w K mg base CX0 (k + 3) f fd ["tops", "thing"] (spLookT sideD) := by
  refine F.ok sc_is_side_of (fun vs H Q E h => ?_) (fun cdv A outer s H vs Q E hr h => ?_)
  · obtain ⟨n, t, tops, v, d, rfl, _⟩ := h
    rfl
  · obtain ⟨n, t, tops, v, d, rfl, et, hd, q⟩ := h
    refine ⟨_, (pss_cons (ps_if (PW.pt (pw_or (pt_not (pt_val (pe_callB call_isiD (by rfl) m_isinstance (by decide +kernel) (pa_cons (pv 1) (pa_cons (pe_bltn (v := .ty "tuple") (u := .type "tuple") (by rfl) m_tuple (by decide +kernel) rfl) pa_nil))))) (pw_or1 (pt_cmpR op_ne (pe_callB call_len_seq (by rfl) m_len (by decide +kernel) (pa_cons (pv 1) pa_nil)) pe_int (nomark _))))) (pss_one (ps_ret pe_bl)) pss_nil)
      (pss_cons (ps_asg (pv 1) (pg_tup rfl (pgs_cons (pg_name (i := 2) sc_is_side_of.nd rfl (.inl rfl)) (pgs_cons (pg_name (i := 3) sc_is_side_of.nd rfl (.inl rfl)) (pgs_cons (pg_name (i := 4) sc_is_side_of.nd rfl (.inl rfl)) pgs_nil)))))
      (pss_cons (ps_if (pt_not (pt_val (pe_kn Pc hr (by omega) (pa_cons (pe_op op_sub (pe_callB call_len_seq (by rfl) m_len (by decide +kernel) (pa_cons (pv 0) pa_nil)) pe_int) (pa_cons (pv 2) pa_nil))))) (pss_one (ps_ret pe_bl)) pss_nil)
      (pss_one (ps_ret (pe_and (pe_callB call_isiD (by rfl) m_isinstance (by decide +kernel) (pa_cons (pv 3) (pa_cons (pe_bltn (v := .ty "str") (u := .type "str") (by rfl) m_str (by decide +kernel) rfl) pa_nil))) (pe_and (pe_cmpR op_in_seq (pv 3) (pe_glob (v := .ref wa) rfl gv4 rfl) (by rfl)) (pe_one (pe_kn Pc hr (by omega) (pa_cons (pe_ix ix_tup (pv 0) (pv 2) (fun _ _ => rfl)) (pa_cons (pv 4) pa_nil))))))))))), ?_⟩
    rcases tup_or d with ⟨ds, rfl⟩ | hn
    · cases hd with
      | tup e ha =>
      rename_i a xs
      have ll := ha.len
      refine ⟨_, rfl, n, _, _, "tuple", _, rfl, .tup e ha, kit_tup _, _, rfl, iteF ⟨_, rfl, a, xs, rfl, .inr (.inl (.inl e)), rfl, _, rfl, ite2 (fun c => ?_) (fun c => ?_)⟩⟩
      · have c' : ¬ ds.length = 3 := fun z => by rw [ll, z] at c; exact absurd c (by decide)
        have : sideD tops (.tuple ds) = false := by simp [sideD, c']
        rw [this] at q
        exact q H (Same.refl H)
      · have c' : ds.length = 3 := Classical.byContradiction fun z => c (by
          have : ¬ ((xs.length : Int) = 3) := by omega
          simp [this])
        match ds, c', ha with
        | [d0, d1, d2], _, .cons h0 (.cons h1 (.cons h2 .nil)) =>
        rename_i v0 v1 v2
        have eW : sideD tops (.tuple [d0, d1, d2]) = (placeD ((tops.length : Int) - 1) d0 && (wordD d1 && placeD (tops.getD (natD d0) 0) d2)) := by simp [sideD]
        rw [eW] at q
        refine ⟨_, rfl, a, _, rfl, .inl (.inl e), rfl, _, _, rfl, _, _, rfl, _, _, rfl, rfl, ?_⟩
        refine ⟨_, rfl, t, _, rfl, .inr (.inl (.inl et)), _, 1, rfl, rfl, _, rfl, n, _, _, d0, rfl, h0, fun H1 s1 => ⟨_, rfl, ?_⟩⟩
        rw [List.length_map]
        cases hp : placeD ((tops.length : Int) - 1) d0 with
        | false =>
          rw [hp, Bool.false_and] at q
          exact iteT (q H1 s1)
        | true =>
        rw [hp, Bool.true_and] at q
        refine iteF ?_
        obtain ⟨i, rfl, hi⟩ := place_int hp
        cases h0
        have li : i < tops.length := by omega
        refine ⟨_, rfl, n, _, d1, "str", _, rfl, h1.same s1, kit_str d1, _, rfl, ?_⟩
        rcases str_or d1 with ⟨z, rfl⟩ | hs
        · refine iteT ?_
          cases h1
          have ew : wordD (.str z) = (decide (z = "from") || decide (z = "to")) := rfl
          rw [ew] at q
          refine ⟨_, rfl, wa, _, rfl, .inr (hW H1), rfl, by decide, _, rfl, ?_⟩
          show if inV (V.str z) [V.str "from", V.str "to"] = true then _ else _
          rw [inV_str2]
          cases hz : (decide (z = "from") || decide (z = "to")) with
          | false =>
            rw [hz, Bool.false_and] at q
            exact iteF (q H1 s1)
          | true =>
            rw [hz, Bool.true_and] at q
            refine iteT ⟨_, rfl, .int i, rfl, t, _, i, _, rfl, rfl, .inl (.inl (s1 _ _ et)), atI_nat (by rw [List.getElem?_map, List.getElem?_eq_getElem li]; rfl), _, rfl, n, _, _, d2, rfl, h2.same s1, fun H2 s2 => ?_⟩
            have := q H2 (s1.trans s2)
            rw [show natD (.int (i : Int)) = i from Int.toNat_natCast i, getD_at li] at this
            exact this
        · rw [hs]
          rw [word_no hs, Bool.false_and] at q
          exact iteF (q H1 s1)
    · refine ⟨_, rfl, n, _, d, "tuple", _, rfl, hd, kit_tup d, _, rfl, ?_⟩
      rw [hn]
      rw [side_no hn] at q
      exact iteT (q H (Same.refl H))
end
end K21

set_option Elab.async false
set_option linter.all false
set_option maxRecDepth 100000
namespace K21
open PySem PySem.Spec PyProof.Rows L2 NB

/-! ### what stands though lists change -/
/-- all but lists stands -/
def Keep (H H' : Hp) : Prop := ∀ b o, (∀ xs, o ≠ .lst xs) → H b = some o → H' b = some o
theorem Keep.refl (H : Hp) : Keep H H := fun _ _ _ e => e
theorem Keep.trans {H H1 H2 : Hp} (a : Keep H H1) (b : Keep H1 H2) : Keep H H2 := fun c o n e => b c o n (a c o n e)
theorem Keep.same {H H' : Hp} (h : Same H H') : Keep H H' := fun b o _ e => h b o e
theorem Keep.but {a : Addr} {H H' : Hp} {c : Nat} (h : But a H H') (p : PotAt H a c) : Keep H H' := fun b o n e => by
  obtain ⟨x, y, z, ea, _⟩ := p
  exact h b o (fun q => n _ (by rw [q, ea] at e; exact (Option.some.inj e).symm)) e
theorem Keep.upd {H : Hp} {l : Addr} {o : HO} {xs : List V} (e : H l = some (.lst xs)) : Keep H (upd H l o) := fun b x n q => by
  rw [upd_ne (fun z => n xs (by rw [z, e] at q; exact (Option.some.inj q).symm))]
  exact q
theorem Keep.tup {H H' : Hp} {p : Addr} {xs : List V} (k : Keep H H') (e : H p = some (.tup xs)) : H' p = some (.tup xs) := k _ _ (fun _ q => by cases q) e
theorem Keep.sq {K : PySem.W.Frag} {H H' : Hp} {p : Addr} {xs : List V} (k : Keep H H') (e : SqT K H p xs) : SqT K H' p xs := by
  rcases e with (q | ⟨o, q⟩) | q
  · exact .inl (.inl (k _ _ (fun _ q => by cases q) q))
  · exact .inl (.inr ⟨o, k _ _ (fun _ q => by cases q) q⟩)
  · exact .inr q

/-! ### sides, rules, plans as data and as objects -/
abbrev Sd := Nat × Bool × Int
abbrev Rl := Sd × Sd
def word (b : Bool) : Str := if b then "from" else "to"
def SideAt (H : Hp) (p : Addr) (s : Sd) : Prop := H p = some (.tup [.int s.1, .str (word s.2.1), .int s.2.2])
def RuleAt (H : Hp) (r : Addr) (q : Rl) : Prop := ∃ p1 p2, H r = some (.tup [.ref p1, .ref p2]) ∧ SideAt H p1 q.1 ∧ SideAt H p2 q.2
def RulesAt (H : Hp) (R : Addr) (rs : List Rl) : Prop := ∃ as : List Addr, H R = some (.tup (as.map V.ref)) ∧ as.length = rs.length ∧ ∀ (i : Nat) (r : Addr) (q : Rl), as[i]? = some r → rs[i]? = some q → RuleAt H r q
def PlanAt (C : Addr) (H : Hp) (x : Addr) (tops : List Int) (rs : List Rl) : Prop := ∃ dx t R, H x = some (.ins C dx [("tops", .ref t), ("rules", .ref R)]) ∧ H t = some (.tup (tops.map V.int)) ∧ RulesAt H R rs
theorem SideAt.keep {H H' : Hp} {p : Addr} {s : Sd} (h : SideAt H p s) (k : Keep H H') : SideAt H' p s := k.tup h
theorem RuleAt.keep {H H' : Hp} {p : Addr} {q : Rl} (h : RuleAt H p q) (k : Keep H H') : RuleAt H' p q := by
  obtain ⟨p1, p2, e, h1, h2⟩ := h
  exact ⟨p1, p2, k.tup e, h1.keep k, h2.keep k⟩
theorem RulesAt.keep {H H' : Hp} {R : Addr} {rs : List Rl} (h : RulesAt H R rs) (k : Keep H H') : RulesAt H' R rs := by
  obtain ⟨as, e, l, a⟩ := h
  exact ⟨as, k.tup e, l, fun i r q h1 h2 => (a i r q h1 h2).keep k⟩
theorem PlanAt.keep {C : Addr} {H H' : Hp} {x : Addr} {tops : List Int} {rs : List Rl} (h : PlanAt C H x tops rs) (k : Keep H H') : PlanAt C H' x tops rs := by
  obtain ⟨dx, t, R, e, et, er⟩ := h
  exact ⟨dx, t, R, k _ _ (fun _ q => by cases q) e, k.tup et, er.keep k⟩
/-- a side of the plan -/
def SideOk (tops : List Int) (s : Sd) : Prop := ∃ t, tops[s.1]? = some t ∧ 0 ≤ s.2.2 ∧ s.2.2 ≤ t
def RuleOk (tops : List Int) (q : Rl) : Prop := SideOk tops q.1 ∧ SideOk tops q.2
theorem word_in (b : Bool) : inV (.str (word b)) [.str "from", .str "to"] = true := by cases b <;> decide +kernel
theorem word_from : word true = "from" := rfl

abbrev kWhole : Stmt := topS 10
abbrev kPlace : Stmt := topS 11
abbrev kTops : Stmt := topS 12
abbrev kSide : Stmt := topS 13
abbrev kSides : Stmt := topS 14
abbrev kRule : Stmt := topS 15
abbrev kRules : Stmt := topS 16
abbrev kInit : Stmt := inClass (topS 33) 0
theorem scWhole : FnScope ["thing"] ["thing"] (defScope kWhole) := ⟨rfl, rfl, rfl, by decide +kernel, rfl, by decide +kernel, by decide +kernel⟩
theorem scPlace : FnScope ["top", "thing"] ["top", "thing"] (defScope kPlace) := ⟨rfl, rfl, rfl, by decide +kernel, rfl, by decide +kernel, by decide +kernel⟩
theorem scTops : FnScope ["thing", "top"] ["thing"] (defScope kTops) := ⟨rfl, rfl, rfl, by decide +kernel, rfl, by decide +kernel, by decide +kernel⟩
theorem scSide : FnScope ["tops", "thing", "number", "word", "place"] ["tops", "thing"] (defScope kSide) := ⟨rfl, rfl, rfl, by decide +kernel, rfl, by decide +kernel, by decide +kernel⟩
theorem scSides : FnScope ["tops", "thing", "side"] ["tops", "thing"] (defScope kSides) := ⟨rfl, rfl, rfl, by decide +kernel, rfl, by decide +kernel, by decide +kernel⟩
theorem scRule : FnScope ["tops", "thing"] ["tops", "thing"] (defScope kRule) := ⟨rfl, rfl, rfl, by decide +kernel, rfl, by decide +kernel, by decide +kernel⟩
theorem scRules : FnScope ["tops", "thing", "rule"] ["tops", "thing"] (defScope kRules) := ⟨rfl, rfl, rfl, by decide +kernel, rfl, by decide +kernel, by decide +kernel⟩
theorem scInit : FnScope ["self", "tops", "rules"] ["self", "tops", "rules"] (defScope kInit) := ⟨rfl, rfl, rfl, by decide +kernel, rfl, by decide +kernel, by decide +kernel⟩

section
variable {P : Program} {w : World} {K : PySem.W.Frag} {mg : Str → Option Value} {base : Heap}

def spWhole : Sp := fun vs H Q _ => ∃ i : Int, vs = [.int i] ∧ Q (.bl true) H
theorem ok_whole {f : Addr} {fd : FuncData} {k : Nat} (F : Fun K "is_whole" "is_whole" kWhole f fd) (ms : mg "isinstance" = none) (mi : mg "int" = none) (mb : mg "bool" = none) : FnOk P w K mg base CX0 (k + 1) f fd ["thing"] spWhole := by
  refine F.ok scWhole (fun vs H Q E h => ?_) (fun cdv A outer s H vs Q E hr h => ?_)
  · obtain ⟨i, rfl, _⟩ := h
    rfl
  · obtain ⟨i, rfl, q⟩ := h
    refine ⟨_, pss_one (ps_ret (pe_and (pe_callB call_isi (by rfl) ms (by decide +kernel) (pa_cons (pv 0) (pa_cons (pe_bltn (v := .ty "int") (u := .type "int") (by rfl) mi (by decide +kernel) rfl) pa_nil)))
      (pe_one (pe_not (pe_callB call_isi (by rfl) ms (by decide +kernel) (pa_cons (pv 0) (pa_cons (pe_bltn (v := .ty "bool") (u := .type "bool") (by rfl) mb (by decide +kernel) rfl) pa_nil))))))), ?_⟩
    refine ⟨.int i, rfl, _, _, _, _, true, rfl, .ty "int", .base (.int i), kit_ty (by decide +kernel), true, rfl, iteT ?_⟩
    exact ⟨.int i, rfl, _, _, _, _, false, rfl, .ty "bool", .base (.int i), kit_ty (by decide +kernel), false, rfl, q⟩

def spPlace : Sp := fun vs H Q _ => ∃ t i : Int, vs = [.int t, .int i] ∧ Q (.bl (decide (0 ≤ i) && decide (i ≤ t))) H
theorem ok_place {f fW : Addr} {fd fdW : FuncData} {k : Nat} (F : Fun K "is_place" "is_place" kPlace f fd) (W : Kn P w K mg base 1 "is_whole" ["thing"] spWhole fW fdW) : FnOk P w K mg base CX0 (k + 2) f fd ["top", "thing"] spPlace := by
  refine F.ok scPlace (fun vs H Q E h => ?_) (fun cdv A outer s H vs Q E hr h => ?_)
  · obtain ⟨t, i, rfl, _⟩ := h
    rfl
  · obtain ⟨t, i, rfl, q⟩ := h
    refine ⟨_, pss_one (ps_ret (pe_and (pe_kn W hr (by omega) (pa_cons (pv 1) pa_nil)) (pe_one (pe_chain op_le op_le pe_int (pv 1) (pv 0))))), ?_⟩
    refine ⟨.int i, rfl, i, rfl, true, rfl, iteT ?_⟩
    refine ⟨.int i, rfl, 0, i, rfl, rfl, _, rfl, ite2 (fun c => ?_) (fun c => ?_)⟩
    · rw [show decide (0 ≤ i) = true from c, Bool.true_and] at q
      exact ⟨.int t, rfl, i, t, rfl, rfl, q⟩
    · rw [Bool.eq_false_iff.mpr c, Bool.false_and] at q
      exact q

def spTops (K : PySem.W.Frag) : Sp := fun vs H Q _ => ∃ (a : Addr) (tops : List Int), vs = [.ref a] ∧ H a = some (.tup (tops.map V.int)) ∧ 1 ≤ tops.length ∧ tops.length ≤ 12 ∧ Pl tops ∧ ∀ H', Same H H' → Q (.bl true) H'
theorem ok_tops {f fP : Addr} {fd fdP : FuncData} {k : Nat} {t1 t2 : Tok} (F : Fun K "are_tops" "are_tops" kTops f fd) (Pc : Kn P w K mg base 2 "is_place" ["top", "thing"] spPlace fP fdP) (ms : mg "isinstance" = none) (mt : mg "tuple" = none) (ml : mg "len" = none) (ma : mg "all" = none)
    (g1 : mg "MOST_THINGS" = some (.int 12 t1)) (g2 : mg "BEYOND_THIRTY_FIGURES" = some (.int 1000000000000000000000000000000 t2)) : FnOk P w K mg base CX0 (k + 3) f fd ["thing"] (spTops K) := by
  refine F.ok scTops (fun vs H Q E h => ?_) (fun cdv A outer s H vs Q E hr h => ?_)
  · obtain ⟨a, tops, rfl, _⟩ := h
    rfl
  · obtain ⟨a, tops, rfl, ea, l1, l12, pl, q⟩ := h
    refine ⟨_, pss_cons (ps_if (PW.pt (pw_or (pt_not (pt_val (pe_callB call_isi (by rfl) ms (by decide +kernel) (pa_cons (pv 0) (pa_cons (pe_bltn (v := .ty "tuple") (u := .type "tuple") (by rfl) mt (by decide +kernel) rfl) pa_nil)))))
        (pw_or1 (pt_not (pt_chain op_le op_le pe_int (pe_callB call_len_seq (by rfl) ml PySem.boot_len (pa_cons (pv 0) pa_nil)) (pe_glob (v := .int 12) rfl g1 ⟨_, rfl⟩)))))) (pss_one (ps_ret pe_bl)) pss_nil)
      (pss_one (ps_ret (pe_callB (cr_all rfl) (by rfl) ma (by decide +kernel) (pa_cons
        (pe_lc (own := [("top", 1)]) (g := gName 1) (tt := tYes) (te := tCall spPlace [] E0 (tCons (tOp (rI0 fun i j => .int (i - j)) (tC (.int 1000000000000000000000000000000)) (tC (.int 1))) (tCons (tVar 1) tNil))) rfl scTops.nd (pi_tup (pv 0)) (blkOk_by (N := ["thing", "top"]) (sc := defScope kTops) (by decide +kernel))
          (fun _ _ _ _ _ => pg_name (i := 1) scTops.nd rfl (.inl rfl) (hf := .inr rfl)) (fun _ _ _ _ _ => pts_nil)
          (fun _ _ _ _ _ => pe_kn Pc hr (by omega) (pa_cons (pe_op op_sub (pe_glob (v := .int 1000000000000000000000000000000) rfl g2 ⟨_, rfl⟩) pe_int) (pa_cons (pv 1) pa_nil)))) pa_nil)))), ?_⟩
    refine ⟨.ref a, rfl, _, _, _, _, true, rfl, .ty "tuple", .base (.tup ea), kit_ty (by decide +kernel), true, rfl, iteF ?_⟩
    refine ⟨.ref a, rfl, a, _, rfl, .inr (.inl (.inl ea)), 1, _, rfl, rfl, true, ?_, iteT ⟨_, 12, rfl, rfl, true, ?_, iteF ?_⟩⟩
    · rw [List.length_map]
      exact congrArg V.bl (decide_eq_true (by omega))
    · rw [List.length_map]
      exact congrArg V.bl (decide_eq_true (by omega))
    refine ⟨.ref a, rfl, a, rfl, ⟨_, .inl (.inl ea)⟩, fun D nD => lc_it (walk_tup (xs := tops.map V.int)) (fun i H' => Same H H' ∧ H' D = some (.lst ((List.replicate i true).map V.bl))) ⟨same_new nD, upd_same⟩ (fun i H' _ p => .inl (.inl (p.1 _ _ ea))) (fun i v H1 H2 hi p y => ?_) (fun H' p => ?_)⟩
    · obtain ⟨sm, eD⟩ := p
      obtain ⟨rfl, gv⟩ := y
      obtain ⟨x, ex, rfl⟩ := mapGet gv
      have hx := pl x (List.mem_of_getElem? ex)
      have hi' : i < tops.length := by simpa using hi
      refine ⟨rfl, _, _, rfl, rfl, .int x, rfl, _, x, rfl, _, eD, by rw [List.length_map, List.length_replicate]; exact small1000 (by omega), same_over sm nD, ?_⟩
      rw [upd_same, decide_eq_true hx.1, decide_eq_true (show x ≤ 1000000000000000000000000000000 - 1 by have := hx.2; omega), List.replicate_succ', List.map_append]
      rfl
    · obtain ⟨sm, eD⟩ := p
      refine ⟨D, _, rfl, .inl (.inl eD), ?_⟩
      rw [show (List.replicate (tops.map V.int).length true).all id = true by simp]
      exact q H' sm

def spSide (K : PySem.W.Frag) : Sp := fun vs H Q _ => ∃ (t p : Addr) (tops : List Int) (sd : Sd), vs = [.ref t, .ref p] ∧ H t = some (.tup (tops.map V.int)) ∧ SideAt H p sd ∧ SideOk tops sd ∧ Q (.bl true) H
theorem ok_side {f fP wa : Addr} {fd fdP : FuncData} {k : Nat} (F : Fun K "is_side_of" "is_side_of" kSide f fd) (Pc : Kn P w K mg base 2 "is_place" ["top", "thing"] spPlace fP fdP) (ms : mg "isinstance" = none) (mt : mg "tuple" = none) (ml : mg "len" = none) (mr : mg "str" = none)
    (g1 : mg "WORDS" = some (.ref wa)) (hW : ∀ H, SqT K H wa [.str "from", .str "to"]) : FnOk P w K mg base CX0 (k + 3) f fd ["tops", "thing"] (spSide K) := by
  refine F.ok scSide (fun vs H Q E h => ?_) (fun cdv A outer s H vs Q E hr h => ?_)
  · obtain ⟨t, p, tops, sd, rfl, _⟩ := h
    rfl
  · obtain ⟨t, p, tops, ⟨n, b, pl⟩, rfl, et, ep, ⟨tp, eg, p0, p1⟩, q⟩ := h
    have ep' : H p = some (.tup [.int (n : Int), .str (word b), .int pl]) := ep
    have hn : n < tops.length := (List.getElem?_eq_some_iff.mp eg).1
    refine ⟨_, pss_cons (ps_if (PW.pt (pw_or (pt_not (pt_val (pe_callB call_isi (by rfl) ms (by decide +kernel) (pa_cons (pv 1) (pa_cons (pe_bltn (v := .ty "tuple") (u := .type "tuple") (by rfl) mt (by decide +kernel) rfl) pa_nil)))))
        (pw_or1 (pt_cmpR op_ne (pe_callB call_len_seq (by rfl) ml PySem.boot_len (pa_cons (pv 1) pa_nil)) pe_int (nomark _))))) (pss_one (ps_ret pe_bl)) pss_nil)
      (pss_cons (ps_asg (pv 1) (pg_tup (by rfl) (pgs_cons (pg_name (i := 2) scSide.nd rfl (.inl rfl)) (pgs_cons (pg_name (i := 3) scSide.nd rfl (.inl rfl)) (pgs_cons (pg_name (i := 4) scSide.nd rfl (.inl rfl)) pgs_nil)))))
      (pss_cons (ps_if (pt_not (pt_val (pe_kn Pc hr (by omega) (pa_cons (pe_op op_sub (pe_callB call_len_seq (by rfl) ml PySem.boot_len (pa_cons (pv 0) pa_nil)) pe_int) (pa_cons (pv 2) pa_nil))))) (pss_one (ps_ret pe_bl)) pss_nil)
      (pss_one (ps_ret (pe_and (pe_callB call_isi (by rfl) ms (by decide +kernel) (pa_cons (pv 3) (pa_cons (pe_bltn (v := .ty "str") (u := .type "str") (by rfl) mr (by decide +kernel) rfl) pa_nil)))
        (pe_and (pe_cmpR op_in_seq (pv 3) (pe_glob (v := .ref wa) rfl g1 rfl) (by rfl)) (pe_one (pe_kn Pc hr (by omega) (pa_cons (pe_ix ix_tup (pv 0) (pv 2) (fun _ _ => rfl)) (pa_cons (pv 4) pa_nil)))))))))), ?_⟩
    refine ⟨.ref p, rfl, _, _, _, _, true, rfl, .ty "tuple", .base (.tup ep'), kit_ty (by decide +kernel), true, rfl, iteF ?_⟩
    refine ⟨.ref p, rfl, p, _, rfl, .inr (.inl (.inl ep')), rfl, _, rfl, iteNS rfl ?_⟩
    refine ⟨.ref p, rfl, p, _, rfl, .inl (.inl ep'), rfl, _, _, rfl, _, _, rfl, _, _, rfl, rfl, ?_⟩
    refine ⟨.ref t, rfl, t, _, rfl, .inr (.inl (.inl et)), _, 1, rfl, rfl, .int n, rfl, _, n, rfl, true, ?_, iteF ?_⟩
    · rw [List.length_map, decide_eq_true (show (0 : Int) ≤ n by omega), decide_eq_true (show (n : Int) ≤ tops.length - 1 by omega)]
      rfl
    refine ⟨_, rfl, _, _, _, _, true, rfl, .ty "str", .base (.str _), kit_ty (by decide +kernel), true, rfl, iteT ?_⟩
    refine ⟨_, rfl, wa, _, rfl, .inr (hW H), rfl, by decide +kernel, true, ?_, iteT ?_⟩
    · rw [word_in]
      rfl
    refine ⟨.ref t, rfl, .int n, rfl, t, _, n, .int tp, rfl, rfl, .inl (.inl et), atI_nat (by rw [List.getElem?_map, eg]; rfl), .int pl, rfl, tp, pl, rfl, ?_⟩
    rw [decide_eq_true p0, decide_eq_true p1]
    exact q

/-- a run of truths that a comprehension makes -/
theorem all_true (n : Nat) : (List.replicate n true).all id = true := by simp
theorem more_true (n : Nat) : (List.replicate (n + 1) true).map V.bl = (List.replicate n true).map V.bl ++ [V.bl true] := by
  rw [List.replicate_succ', List.map_append]
  rfl

def spSides (K : PySem.W.Frag) : Sp := fun vs H Q _ => ∃ (t r : Addr) (tops : List Int) (as : List Addr), vs = [.ref t, .ref r] ∧ H t = some (.tup (tops.map V.int)) ∧ H r = some (.tup (as.map V.ref)) ∧ as.length ≤ 100 ∧ (∀ p ∈ as, ∃ sd, SideAt H p sd ∧ SideOk tops sd) ∧ ∀ H', Same H H' → Q (.bl true) H'
theorem ok_sides {f fP : Addr} {fd fdP : FuncData} {k : Nat} (F : Fun K "are_sides_of" "are_sides_of" kSides f fd) (Si : Kn P w K mg base 3 "is_side_of" ["tops", "thing"] (spSide K) fP fdP) (ms : mg "isinstance" = none) (mt : mg "tuple" = none) (ma : mg "all" = none) : FnOk P w K mg base CX0 (k + 4) f fd ["tops", "thing"] (spSides K) := by
  refine F.ok scSides (fun vs H Q E h => ?_) (fun cdv A outer s H vs Q E hr h => ?_)
  · obtain ⟨t, r, tops, as, rfl, _⟩ := h
    rfl
  · obtain ⟨t, r, tops, as, rfl, et, er, l, ok, q⟩ := h
    refine ⟨_, pss_one (ps_ret (pe_and (pe_callB call_isi (by rfl) ms (by decide +kernel) (pa_cons (pv 1) (pa_cons (pe_bltn (v := .ty "tuple") (u := .type "tuple") (by rfl) mt (by decide +kernel) rfl) pa_nil)))
      (pe_one (pe_callB (cr_all rfl) (by rfl) ma (by decide +kernel) (pa_cons
        (pe_lc (own := [("side", 2)]) (g := gName 2) (tt := tYes) (te := tCall (spSide K) [] E0 (tCons (tVar 0) (tCons (tVar 2) tNil))) rfl scSides.nd (pi_tup (pv 1)) (blkOk_by (N := ["tops", "thing", "side"]) (sc := defScope kSides) (by decide +kernel))
          (fun _ _ _ _ _ => pg_name (i := 2) scSides.nd rfl (.inl rfl) (hf := .inr rfl)) (fun _ _ _ _ _ => pts_nil)
          (fun _ _ _ _ _ => pe_kn Si hr (by omega) (pa_cons (pv 0) (pa_cons (pv 2) pa_nil)))) pa_nil))))), ?_⟩
    refine ⟨.ref r, rfl, _, _, _, _, true, rfl, .ty "tuple", .base (.tup er), kit_ty (by decide +kernel), true, rfl, iteT ?_⟩
    refine ⟨.ref r, rfl, r, rfl, ⟨_, .inl (.inl er)⟩, fun D nD => lc_it (walk_tup (xs := as.map V.ref)) (fun i H' => Same H H' ∧ H' D = some (.lst ((List.replicate i true).map V.bl))) ⟨same_new nD, upd_same⟩ (fun i H' _ p => .inl (.inl (p.1 _ _ er))) (fun i v H1 H2 hi p y => ?_) (fun H' p => ?_)⟩
    · obtain ⟨sm, eD⟩ := p
      obtain ⟨rfl, gv⟩ := y
      obtain ⟨x, ex, rfl⟩ := mapGet gv
      have hi' : i < as.length := by simpa using hi
      obtain ⟨sd, a1, a2⟩ := ok x (List.mem_of_getElem? ex)
      refine ⟨rfl, .ref t, rfl, .ref x, rfl, t, x, tops, sd, rfl, sm _ _ et, a1.keep (.same sm), a2, _, eD, by rw [List.length_map, List.length_replicate]; exact small1000 (by omega), same_over sm nD, ?_⟩
      rw [upd_same, more_true]
    · obtain ⟨sm, eD⟩ := p
      refine ⟨D, _, rfl, .inl (.inl eD), ?_⟩
      rw [all_true]
      exact q H' sm

def spRule (K : PySem.W.Frag) : Sp := fun vs H Q _ => ∃ (t r : Addr) (tops : List Int) (rl : Rl), vs = [.ref t, .ref r] ∧ H t = some (.tup (tops.map V.int)) ∧ RuleAt H r rl ∧ RuleOk tops rl ∧ ∀ H', Same H H' → Q (.bl true) H'
theorem ok_rule {f fP : Addr} {fd fdP : FuncData} {k : Nat} (F : Fun K "is_rule_of" "is_rule_of" kRule f fd) (Ss : Kn P w K mg base 4 "are_sides_of" ["tops", "thing"] (spSides K) fP fdP) (ml : mg "len" = none) : FnOk P w K mg base CX0 (k + 5) f fd ["tops", "thing"] (spRule K) := by
  refine F.ok scRule (fun vs H Q E h => ?_) (fun cdv A outer s H vs Q E hr h => ?_)
  · obtain ⟨t, r, tops, rl, rfl, _⟩ := h
    rfl
  · obtain ⟨t, r, tops, rl, rfl, et, ⟨p1, p2, er, h1, h2⟩, ok, q⟩ := h
    refine ⟨_, pss_one (ps_ret (pe_and (pe_kn Ss hr (by omega) (pa_cons (pv 0) (pa_cons (pv 1) pa_nil))) (pe_one (pe_cmpR op_eq (pe_callB call_len_seq (by rfl) ml PySem.boot_len (pa_cons (pv 1) pa_nil)) pe_int (nomark _))))), ?_⟩
    refine ⟨.ref t, rfl, .ref r, rfl, t, r, tops, [p1, p2], rfl, et, er, (show 2 ≤ 100 by decide), fun p hp => ?_, fun H' sm => ⟨true, rfl, iteT ?_⟩⟩
    · simp only [List.mem_cons, List.not_mem_nil, or_false] at hp
      rcases hp with e | e <;> rw [e]
      · exact ⟨_, h1, ok.1⟩
      · exact ⟨_, h2, ok.2⟩
    · exact ⟨.ref r, rfl, r, _, rfl, .inr (.inl (.inl (sm _ _ er))), rfl, q H' sm⟩

def spRules (K : PySem.W.Frag) : Sp := fun vs H Q _ => ∃ (t R : Addr) (tops : List Int) (rs : List Rl), vs = [.ref t, .ref R] ∧ H t = some (.tup (tops.map V.int)) ∧ RulesAt H R rs ∧ rs.length ≤ 40 ∧ (∀ q ∈ rs, RuleOk tops q) ∧ ∀ H', Same H H' → Q (.bl true) H'
theorem ok_rules {f fP : Addr} {fd fdP : FuncData} {k : Nat} {t1 : Tok} (F : Fun K "are_rules_of" "are_rules_of" kRules f fd) (Ru : Kn P w K mg base 5 "is_rule_of" ["tops", "thing"] (spRule K) fP fdP) (ms : mg "isinstance" = none) (mt : mg "tuple" = none) (ml : mg "len" = none) (ma : mg "all" = none)
    (g1 : mg "MOST_RULES" = some (.int 40 t1)) : FnOk P w K mg base CX0 (k + 6) f fd ["tops", "thing"] (spRules K) := by
  refine F.ok scRules (fun vs H Q E h => ?_) (fun cdv A outer s H vs Q E hr h => ?_)
  · obtain ⟨t, R, tops, rs, rfl, _⟩ := h
    rfl
  · obtain ⟨t, R, tops, rs, rfl, et, ⟨as, eR, la, ha⟩, l40, ok, q⟩ := h
    refine ⟨_, pss_cons (ps_if (PW.pt (pw_or (pt_not (pt_val (pe_callB call_isi (by rfl) ms (by decide +kernel) (pa_cons (pv 1) (pa_cons (pe_bltn (v := .ty "tuple") (u := .type "tuple") (by rfl) mt (by decide +kernel) rfl) pa_nil)))))
        (pw_or1 (pt_cmpR op_gt (pe_callB call_len_seq (by rfl) ml PySem.boot_len (pa_cons (pv 1) pa_nil)) (pe_glob (v := .int 40) rfl g1 ⟨_, rfl⟩) (nomark _))))) (pss_one (ps_ret pe_bl)) pss_nil)
      (pss_one (ps_ret (pe_callB (cr_all rfl) (by rfl) ma (by decide +kernel) (pa_cons
        (pe_lc (own := [("rule", 2)]) (g := gName 2) (tt := tYes) (te := tCall (spRule K) [] E0 (tCons (tVar 0) (tCons (tVar 2) tNil))) rfl scRules.nd (pi_tup (pv 1)) (blkOk_by (N := ["tops", "thing", "rule"]) (sc := defScope kRules) (by decide +kernel))
          (fun _ _ _ _ _ => pg_name (i := 2) scRules.nd rfl (.inl rfl) (hf := .inr rfl)) (fun _ _ _ _ _ => pts_nil)
          (fun _ _ _ _ _ => pe_kn Ru hr (by omega) (pa_cons (pv 0) (pa_cons (pv 2) pa_nil)))) pa_nil)))), ?_⟩
    refine ⟨.ref R, rfl, _, _, _, _, true, rfl, .ty "tuple", .base (.tup eR), kit_ty (by decide +kernel), true, rfl, iteF ?_⟩
    refine ⟨.ref R, rfl, R, _, rfl, .inr (.inl (.inl eR)), _, 40, rfl, rfl, false, ?_, iteF ?_⟩
    · rw [List.length_map]
      exact congrArg V.bl (decide_eq_false (by omega))
    refine ⟨.ref R, rfl, R, rfl, ⟨_, .inl (.inl eR)⟩, fun D nD => lc_it (walk_tup (xs := as.map V.ref)) (fun i H' => Same H H' ∧ H' D = some (.lst ((List.replicate i true).map V.bl))) ⟨same_new nD, upd_same⟩ (fun i H' _ p => .inl (.inl (p.1 _ _ eR))) (fun i v H1 H2 hi p y => ?_) (fun H' p => ?_)⟩
    · obtain ⟨sm, eD⟩ := p
      obtain ⟨rfl, gv⟩ := y
      obtain ⟨x, ex, rfl⟩ := mapGet gv
      have hi' : i < as.length := by simpa using hi
      have hr' : i < rs.length := by omega
      have eq : rs[i]? = some rs[i] := List.getElem?_eq_getElem hr'
      refine ⟨rfl, .ref t, rfl, .ref x, rfl, t, x, tops, rs[i], rfl, sm _ _ et, (ha i x _ ex eq).keep (.same sm), ok _ (List.getElem_mem hr'), fun H3 s3 => ?_⟩
      have sm3 := sm.trans s3
      refine ⟨_, s3 _ _ eD, by rw [List.length_map, List.length_replicate]; exact small1000 (by omega), same_over sm3 nD, ?_⟩
      rw [upd_same, more_true]
    · obtain ⟨sm, eD⟩ := p
      refine ⟨D, _, rfl, .inl (.inl eD), ?_⟩
      rw [all_true]
      exact q H' sm

/-- what is asked of the class as the top has made it -/
structure PlanTxt (K : PySem.W.Frag) (mg : Str → Option Value) (C : Addr) : Prop where
  cl : Cls K C
  nT : NoAttr K C "tops"
  nR : NoAttr K C "rules"
  mgC : mg "Plan" = some (.ref C)
theorem put_two (t R : Addr) : putF "rules" (V.ref R) (putF "tops" (V.ref t) []) = ([("tops", V.ref t), ("rules", V.ref R)] : List (Str × V)) := by
  have n : ¬ (("tops" : Str) = "rules") := by decide +kernel
  show (if ("tops" : Str) = "rules" then [(("tops" : Str), V.ref R)] else (("tops" : Str), V.ref t) :: putF "rules" (V.ref R) []) = _
  rw [if_neg n]
  rfl
def spInit (C : Addr) : Sp := fun vs H Q _ => ∃ (x dx t R : Addr) (tops : List Int) (rs : List Rl), vs = [.ref x, .ref t, .ref R] ∧ H x = some (.ins C dx []) ∧ H t = some (.tup (tops.map V.int)) ∧ RulesAt H R rs ∧ 1 ≤ tops.length ∧ tops.length ≤ 12 ∧ Pl tops ∧ rs.length ≤ 40 ∧ (∀ q ∈ rs, RuleOk tops q) ∧
  ∀ H', (∀ b o, b ≠ x → H b = some o → H' b = some o) → H' x = some (.ins C dx [("tops", .ref t), ("rules", .ref R)]) → Q .non H'
theorem ok_init {f C fT fR : Addr} {fd fdT fdR : FuncData} {k : Nat} {dvs : List V} {kws : List (Str × V)} (F : FunD K "__init__" "Plan.__init__" (defArgs kInit) (defBody kInit) (defScope kInit) dvs kws f fd) (T : PlanTxt K mg C) (To : Kn P w K mg base 3 "are_tops" ["thing"] (spTops K) fT fdT) (Ru : Kn P w K mg base 6 "are_rules_of" ["tops", "thing"] (spRules K) fR fdR) :
    FnOk P w K mg base CX0 (k + 7) f fd ["self", "tops", "rules"] (spInit C) := by
  refine F.ok scInit (fun vs H Q E h => ?_) (fun cdv A outer s H vs Q E hr h => ?_)
  · obtain ⟨x, dx, t, R, tops, rs, rfl, _⟩ := h
    rfl
  · obtain ⟨x, dx, t, R, tops, rs, rfl, ex, et, eR, l1, l12, pl, l40, ok, q⟩ := h
    refine ⟨_, pss_cons (ps_if (pt_not (pt_val (pe_kn To hr (by omega) (pa_cons (pv 1) pa_nil)))) (pss_one ps_never) pss_nil)
      (pss_cons (ps_if (pt_not (pt_val (pe_kn Ru hr (by omega) (pa_cons (pv 1) (pa_cons (pv 2) pa_nil))))) (pss_one ps_never) pss_nil)
      (pss_cons (ps_fld (pv 0) (pv 1) rfl) (pss_one (ps_fld (pv 0) (pv 2) rfl)))), ?_⟩
    refine ⟨.ref t, rfl, t, tops, rfl, et, l1, l12, pl, fun H1 s1 => ⟨true, rfl, iteF ?_⟩⟩
    refine ⟨.ref t, rfl, .ref R, rfl, t, R, tops, rs, rfl, s1 _ _ et, eR.keep (.same s1), l40, ok, fun H2 s2 => ⟨true, rfl, iteF ?_⟩⟩
    have s02 := s1.trans s2
    refine ⟨.ref t, rfl, .ref x, rfl, x, C, dx, [], rfl, s02 _ _ ex, T.cl, T.nT, (show 0 < 1000 by decide), ?_⟩
    refine ⟨.ref R, rfl, .ref x, rfl, x, C, dx, _, rfl, upd_same, T.cl, T.nR, (show 1 < 1000 by decide), ?_⟩
    refine q _ (fun b o ne e => ?_) ?_
    · rw [upd_ne ne, upd_ne ne]
      exact s02 _ _ e
    · rw [upd_same]
      exact congrArg (fun z => some (HO.ins C dx z)) (put_two t R)
/-- Plan(tops, rules) -/
theorem plan_made {C x dx : Addr} {H : Hp} {t R : Addr} {tops : List Int} {rs : List Rl} {W : VK} {E : XK} (nx : H x = none) (ndx : H dx = none) (ne : dx ≠ x) (et : H t = some (.tup (tops.map V.int))) (eR : RulesAt H R rs) (l1 : 1 ≤ tops.length) (l12 : tops.length ≤ 12) (pl : Pl tops) (l40 : rs.length ≤ 40) (ok : ∀ q ∈ rs, RuleOk tops q)
    (q : ∀ H', Same H H' → PlanAt C H' x tops rs → W .non H') : spInit C [.ref x, .ref t, .ref R] (upd (upd H dx (.own x)) x (.ins C dx [])) W E := by
  have s1 : Same H (upd (upd H dx (.own x)) x (.ins C dx [])) := (same_new ndx).trans (same_new (by rw [upd_ne ne.symm]; exact nx))
  refine ⟨x, dx, t, R, tops, rs, rfl, upd_same, s1 _ _ et, eR.keep (.same s1), l1, l12, pl, l40, ok, fun H' k ex => ?_⟩
  have s2 : Same H H' := fun b o e => k b o (ne_of_none e nx) (s1 b o e)
  exact q H' s2 ⟨dx, t, R, ex, s2 _ _ et, eR.keep (.same s2)⟩
end
end K21

set_option Elab.async false
set_option linter.all false
set_option maxRecDepth 100000
namespace K21
open PySem PySem.Spec PyProof.Rows L2 NB

/-! ### standings -/
def inB (st : List Int) (s : Sd) : Bool := match st[s.1]? with
  | some v => if s.2.1 then decide (s.2.2 ≤ v) else decide (v ≤ s.2.2)
  | none => false
def kept (st : List Int) (q : Rl) : Bool := inB st q.1 || inB st q.2
/-- the numbers of the rules that are broken -/
def brok (st : List Int) (rs : List Rl) : List Int := rs.zipIdx.filterMap fun p => if kept st p.1 then none else some (p.2 : Int)
theorem brok_take (st : List Int) (rs : List Rl) (i : Nat) (q : Rl) (h : rs[i]? = some q) : brok st (rs.take (i + 1)) = brok st (rs.take i) ++ (if kept st q then [] else [(i : Int)]) := by
  have hi : i < rs.length := (List.getElem?_eq_some_iff.mp h).1
  have hl : (rs.take i).length = i := by rw [List.length_take]; omega
  unfold brok
  rw [List.take_add_one, h, List.zipIdx_append, List.filterMap_append, hl]
  congr 1
  show List.filterMap _ [(q, 0 + i)] = _
  simp only [List.filterMap_cons, List.filterMap_nil, Nat.zero_add]
  split <;> split <;> simp_all
theorem brok_len (st : List Int) (rs : List Rl) : (brok st rs).length ≤ rs.length := by
  unfold brok
  refine Nat.le_trans (List.length_filterMap_le _ _) ?_
  rw [List.length_zipIdx]
  exact Nat.le_refl _
theorem brok_nil (st : List Int) (rs : List Rl) : (brok st rs = []) ↔ rs.all (kept st) = true := by
  unfold brok
  rw [List.filterMap_eq_nil_iff, List.all_eq_true]
  constructor
  · intro h q hq
    obtain ⟨i, hi, e⟩ := List.getElem_of_mem hq
    have := h (q, i) (by rw [List.mem_zipIdx_iff_getElem?]; simp [hi, e])
    cases c : kept st q with
    | true => rfl
    | false => rw [c] at this; simp at this
  · rintro h ⟨q, i⟩ hq
    have hm : q ∈ rs := List.mem_of_getElem? (by rw [List.mem_zipIdx_iff_getElem?] at hq; exact hq)
    simp [h q hm]
theorem eqv_ints : ∀ xs ys : List Int, PyData.eqvAll (xs.map PyData.int) (ys.map PyData.int) = decide (xs = ys)
  | [], [] => by simp [PyData.eqvAll]
  | [], _ :: _ => by simp [PyData.eqvAll]
  | _ :: _, [] => by simp [PyData.eqvAll]
  | x :: xs, y :: ys => by
    simp only [List.map_cons, PyData.eqvAll, PyData.eqv, eqv_ints xs ys, List.cons.injEq, Bool.decide_and]
    congr 1
theorem lay_ints : ∀ xs : List Int, PyData.canLayAll0 (xs.map PyData.int) = true
  | [] => rfl
  | x :: xs => by simp only [List.map_cons, PyData.canLayAll0, PyData.canLay0, lay_ints xs, Bool.and_self]
theorem depth_ints : ∀ xs : List Int, PyData.depthAll (xs.map PyData.int) = 0
  | [] => rfl
  | x :: xs => by simp only [List.map_cons, PyData.depthAll, PyData.depth, depth_ints xs, Nat.max_self]
theorem shaped_ints (xs : List Int) : SeqAt.shaped (.tuple (xs.map PyData.int)) = true := by
  unfold SeqAt.shaped
  simp only [PyData.canLay0, lay_ints, PyData.depth, depth_ints, Bool.true_and]
  decide
theorem dps {K : PySem.W.Frag} {H : Hp} : ∀ xs : List Int, DpAll K H (xs.map V.int) (xs.map PyData.int)
  | [] => .nil
  | x :: xs => .cons (.int x) (dps xs)
theorem dpt {K : PySem.W.Frag} {H : Hp} {p : Addr} {xs : List Int} (h : H p = some (.tup (xs.map V.int))) : Dp K H (.ref p) (.tuple (xs.map PyData.int)) := .tup (.inl (.inl h)) (dps xs)

abbrev kIn : Stmt := topS 18
theorem scIn : FnScope ["side", "standing", "thing", "word", "place"] ["side", "standing"] (defScope kIn) := ⟨rfl, rfl, rfl, by decide +kernel, rfl, by decide +kernel, by decide +kernel⟩
theorem w_from : decide (V.str (word true) = V.str "from") = true := by decide +kernel
theorem w_to : decide (V.str (word false) = V.str "from") = false := by decide +kernel

section
variable {P : Program} {w : World} {K : PySem.W.Frag} {mg : Str → Option Value} {base : Heap}

def spIn : Sp := fun vs H Q _ => ∃ (p t : Addr) (sd : Sd) (xs : List Int), vs = [.ref p, .ref t] ∧ SideAt H p sd ∧ H t = some (.tup (xs.map V.int)) ∧ sd.1 < xs.length ∧ Q (.bl (inB xs sd)) H
theorem ok_in {f : Addr} {fd : FuncData} {k : Nat} (F : Fun K "is_in" "is_in" kIn f fd) : FnOk P w K mg base CX0 (k + 1) f fd ["side", "standing"] spIn := by
  refine F.ok scIn (fun vs H Q E h => ?_) (fun cdv A outer s H vs Q E hr h => ?_)
  · obtain ⟨p, t, sd, xs, rfl, _⟩ := h
    rfl
  · obtain ⟨p, t, ⟨n, b, pl⟩, xs, rfl, ep, et, ln, q⟩ := h
    have ep' : H p = some (.tup [.int (n : Int), .str (word b), .int pl]) := ep
    have ln' : n < xs.length := ln
    have eg : atI (xs.map V.int) (n : Int) = some (.int xs[n]) := atI_nat (by rw [List.getElem?_map, List.getElem?_eq_getElem ln']; rfl)
    have eb : inB xs (n, b, pl) = if b then decide (pl ≤ xs[n]) else decide (xs[n] ≤ pl) := by
      unfold inB
      simp only [List.getElem?_eq_getElem ln']
    rw [eb] at q
    refine ⟨_, pss_cons (ps_asg (pv 0) (pg_tup (by rfl) (pgs_cons (pg_name (i := 2) scIn.nd rfl (.inl rfl)) (pgs_cons (pg_name (i := 3) scIn.nd rfl (.inl rfl)) (pgs_cons (pg_name (i := 4) scIn.nd rfl (.inl rfl)) pgs_nil)))))
      (pss_cons (ps_if (pt_cmpR op_eq (pv 3) pe_str (nomark _)) (pss_one (ps_ret (pe_cmpR op_ge (pe_ix ix_tup (pv 1) (pv 2) (fun _ _ => rfl)) (pv 4) (nomark _)))) pss_nil)
      (pss_one (ps_ret (pe_cmpR op_le (pe_ix ix_tup (pv 1) (pv 2) (fun _ _ => rfl)) (pv 4) (nomark _))))), ?_⟩
    refine ⟨.ref p, rfl, p, _, rfl, .inl (.inl ep'), rfl, _, _, rfl, _, _, rfl, _, _, rfl, rfl, ?_⟩
    cases b with
    | true =>
      refine ⟨_, rfl, rfl, true, congrArg V.bl w_from, iteT ?_⟩
      exact ⟨.ref t, rfl, .int n, rfl, t, _, n, _, rfl, rfl, .inl (.inl et), eg, .int pl, rfl, _, pl, rfl, rfl, q⟩
    | false =>
      refine ⟨_, rfl, rfl, false, congrArg V.bl w_to, iteF ?_⟩
      exact ⟨.ref t, rfl, .int n, rfl, t, _, n, _, rfl, rfl, .inl (.inl et), eg, .int pl, rfl, _, pl, rfl, rfl, q⟩

def Fit (xs : List Int) (q : Rl) : Prop := q.1.1 < xs.length ∧ q.2.1 < xs.length
theorem look_rules (t R : Addr) : ([("tops", V.ref t), ("rules", V.ref R)] : List (Str × V)).lookup ("rules" : Str) = some (V.ref R) := by
  have n : (("rules" : Str) == "tops") = false := by decide +kernel
  simp [List.lookup, n]
theorem look_tops (t R : Addr) : ([("tops", V.ref t), ("rules", V.ref R)] : List (Str × V)).lookup ("tops" : Str) = some (V.ref t) := by
  simp [List.lookup]

end
end K21

set_option Elab.async false
set_option linter.all false
set_option maxRecDepth 100000
namespace K21
open PySem PySem.Spec PyProof.Rows L2 NB

/-! ### the law's own draws -/
abbrev aSideIn : Stmt := topS 41
abbrev aRules : Stmt := topS 42
theorem scSideIn : FnScope ["_law_pot_here", "_law_tops_here", "_law_standing_here", "_law_thing"] ["_law_pot_here", "_law_tops_here", "_law_standing_here"] (defScope aSideIn) := ⟨rfl, rfl, rfl, by decide +kernel, rfl, by decide +kernel, by decide +kernel⟩
theorem scRulesL : FnScope ["_law_pot_here", "_law_tops_here", "_law_one", "_law_two", "_law_many", "_law_found", "_law_turn", "_law_both"] ["_law_pot_here", "_law_tops_here", "_law_one", "_law_two", "_law_many"] (defScope aRules) := ⟨rfl, rfl, rfl, by decide +kernel, rfl, by decide +kernel, by decide +kernel⟩

/-- a standing of the plan's tops -/
structure Std (tops : List Int) (H : Hp) (p : Addr) (st : List Int) : Prop where
  at' : H p = some (.tup (st.map V.int))
  len : st.length = tops.length
  pl : Pl st
  le : Le st tops
theorem Std.keep {tops : List Int} {H H' : Hp} {p : Addr} {st : List Int} (h : Std tops H p st) (k : Keep H H') : Std tops H' p st := ⟨k.tup h.at', h.len, h.pl, h.le⟩
abbrev refs (ps : List (Addr × List Int)) : List V := ps.map fun q => V.ref q.1
theorem words_mem {x : V} (h : x ∈ [V.str "from", V.str "to"]) : ∃ b, x = .str (word b) := by
  simp only [List.mem_cons, List.not_mem_nil, or_false] at h
  rcases h with e | e
  · exact ⟨true, e⟩
  · exact ⟨false, e⟩
theorem len_bd {tops : List Int} (l12 : tops.length ≤ 12) : (tops.length : Int) < 2 ^ 200 := Int.lt_of_le_of_lt (show (tops.length : Int) ≤ 12 by omega) (by decide)
theorem top_bd {t : Int} (h : t < 10 ^ 30) : t + 1 < 2 ^ 200 := Int.lt_of_le_of_lt (show t + 1 ≤ 10 ^ 30 by omega) (by decide)
theorem inB_from {st : List Int} {n : Nat} {pl : Int} (h : n < st.length) (l : pl ≤ st[n]) : inB st (n, true, pl) = true := by
  unfold inB
  simp [List.getElem?_eq_getElem h, l]
theorem inB_to {st : List Int} {n : Nat} {pl : Int} (h : n < st.length) (l : st[n] ≤ pl) : inB st (n, false, pl) = true := by
  unfold inB
  simp [List.getElem?_eq_getElem h, l]
theorem fit_of {tops : List Int} {q : Rl} (h : RuleOk tops q) {xs : List Int} (l : xs.length = tops.length) : Fit xs q := by
  obtain ⟨⟨t1, e1, _⟩, ⟨t2, e2, _⟩⟩ := h
  exact ⟨by rw [l]; exact (List.getElem?_eq_some_iff.mp e1).1, by rw [l]; exact (List.getElem?_eq_some_iff.mp e2).1⟩
/-- rules one by one -/
theorem rules_snoc {H H' : Hp} {as : List Addr} {rs : List Rl} {r : Addr} {q : Rl} (la : as.length = rs.length) (h : ∀ (i : Nat) (r : Addr) (q : Rl), as[i]? = some r → rs[i]? = some q → RuleAt H r q) (k : Keep H H') (e : RuleAt H' r q) :
    ∀ (i : Nat) (r' : Addr) (q' : Rl), (as ++ [r])[i]? = some r' → (rs ++ [q])[i]? = some q' → RuleAt H' r' q' := fun i r' q' h1 h2 => by
  rcases Nat.lt_or_ge i as.length with c | c
  · rw [List.getElem?_append_left c] at h1
    rw [List.getElem?_append_left (by omega)] at h2
    exact (h i r' q' h1 h2).keep k
  · rw [List.getElem?_append_right c] at h1
    rw [List.getElem?_append_right (by omega)] at h2
    have e0 : i - as.length = 0 := by
      rcases Nat.eq_zero_or_pos (i - as.length) with z | z
      · exact z
      · rw [List.getElem?_eq_none (by simp only [List.length_cons, List.length_nil]; omega)] at h1
        cases h1
    have e1 : i - rs.length = 0 := by omega
    rw [e0] at h1
    rw [e1] at h2
    cases h1
    cases h2
    exact e
theorem at_int {xs : List Int} {n : Nat} (h : n < xs.length) : atI (xs.map V.int) (n : Int) = some (.int xs[n]) := atI_nat (by rw [List.getElem?_map, List.getElem?_eq_getElem h]; rfl)
theorem ixN_nat {m n : Nat} (h : n < m) : ixN m (n : Int) = some n := by
  unfold ixN
  rw [if_pos (by omega), if_pos (by omega)]
  rfl
theorem set_ok {tops st : List Int} {n : Nat} {v : Int} (l : st.length = tops.length) (p : Pl st) (le : Le st tops) (hn : n < tops.length) (v0 : 0 ≤ v) (v1 : v ≤ tops[n]) (v2 : tops[n] < 10 ^ 30) : (st.set n v).length = tops.length ∧ Pl (st.set n v) ∧ Le (st.set n v) tops := by
  refine ⟨by rw [List.length_set, l], fun x hx => ?_, fun i x t h1 h2 => ?_⟩
  · rcases List.mem_or_eq_of_mem_set hx with h | h
    · exact p x h
    · rw [h]
      exact ⟨v0, by omega⟩
  · by_cases c : n = i
    · subst c
      rw [List.getElem?_set_self (by omega)] at h1
      cases h1
      rw [List.getElem?_eq_getElem hn] at h2
      cases h2
      exact v1
    · rw [List.getElem?_set_ne c] at h1
      exact le i x t h1 h2

section
variable {P : Program} {w : World} {K : PySem.W.Frag} {mg : Str → Option Value} {base : Heap}

def spSideIn : Sp := fun vs H Q _ => ∃ (a t s : Addr) (tops st : List Int) (c : Nat), vs = [.ref a, .ref t, .ref s] ∧ PotAt H a c ∧ H t = some (.tup (tops.map V.int)) ∧ Pl tops ∧ 1 ≤ tops.length ∧ tops.length ≤ 12 ∧ Std tops H s st ∧ c < 900000 ∧
  ∀ H' p sd, But a H H' → PotAt H' a (c + 3) → SideAt H' p sd → SideOk tops sd → inB st sd = true → Q (.ref p) H'
theorem ok_sideIn {f fT : Addr} {fd fdT : FuncData} {k : Nat} (F : Fun K "_law_side_in" "_law_side_in" aSideIn f fd) (T : Kn P w K mg base 1 "_law_take" ["_law_pot_here", "_law_many"] spTake fT fdT) (ml : mg "len" = none) : FnOk P w K mg base CX0 (k + 2) f fd ["_law_pot_here", "_law_tops_here", "_law_standing_here"] spSideIn := by
  refine F.ok scSideIn (fun vs H Q E h => ?_) (fun cdv A outer s H vs Q E hr h => ?_)
  · obtain ⟨a, t, s, tops, st, c, rfl, _⟩ := h
    rfl
  · obtain ⟨a, t, s', tops, st, c, rfl, pa, et, pl, l1, l12, S, hc, q⟩ := h
    refine ⟨_, pss_cons (ps_set (i := 3) scSideIn.nd rfl (.inl rfl) (pe_kn T hr (by omega) (pa_cons (pv 0) (pa_cons (pe_callB call_len_seq (by rfl) ml PySem.boot_len (pa_cons (pv 1) pa_nil)) pa_nil))))
      (pss_cons (ps_if (pt_cmpR op_eq (pe_kn T hr (by omega) (pa_cons (pv 0) (pa_cons pe_int pa_nil))) pe_int (nomark _))
        (pss_one (ps_ret (pe_tup (pa_cons (pv 3) (pa_cons pe_str (pa_cons (pe_kn T hr (by omega) (pa_cons (pv 0) (pa_cons (pe_op op_add (pe_ix ix_tup (pv 2) (pv 3) (fun _ _ => rfl)) pe_int) pa_nil))) pa_nil)))))) pss_nil)
      (pss_one (ps_ret (pe_tup (pa_cons (pv 3) (pa_cons pe_str (pa_cons (pe_op op_add (pe_ix ix_tup (pv 2) (pv 3) (fun _ _ => rfl)) (pe_kn T hr (by omega) (pa_cons (pv 0) (pa_cons (pe_op op_add (pe_op op_sub (pe_ix ix_tup (pv 1) (pv 3) (fun _ _ => rfl)) (pe_ix ix_tup (pv 2) (pv 3) (fun _ _ => rfl))) pe_int) pa_nil)))) pa_nil))))))), ?_⟩
    refine ⟨.ref a, rfl, .ref t, rfl, t, _, rfl, .inr (.inl (.inl et)), a, _, _, rfl, pa, by rw [List.length_map]; omega, by rw [List.length_map]; exact len_bd l12, by omega, fun n H1 b1 p1 n0 n1 => ?_⟩
    rw [List.length_map] at n1
    obtain ⟨n, rfl⟩ : ∃ m : Nat, n = m := ⟨n.toNat, by omega⟩
    have hn : n < tops.length := by omega
    have hs : n < st.length := by rw [S.len]; exact hn
    have ht := pl tops[n] (List.getElem_mem hn)
    have hv := S.pl st[n] (List.getElem_mem hs)
    have hle := S.le n _ _ (List.getElem?_eq_getElem hs) (List.getElem?_eq_getElem hn)
    refine ⟨.ref a, rfl, a, 2, _, rfl, p1, by decide, by decide, by omega, fun z H2 b2 p2 z0 z1 => ⟨rfl, _, rfl, ite2 (fun _ => ?_) (fun _ => ?_)⟩⟩
    · have k2 := (Keep.but b1 pa).trans (Keep.but b2 p1)
      refine ⟨.int n, rfl, .ref a, rfl, .ref s', rfl, .int n, rfl, s', _, n, _, rfl, rfl, .inl (.inl (k2.tup S.at')), at_int hs, _, 1, rfl, rfl, a, _, _, rfl, p2, by omega, top_bd hv.2, by omega, fun d H3 b3 p3 d0 d1 => ?_⟩
      refine ⟨(show 3 ≤ sizeLine by decide), fun p np => ?_⟩
      have npa : p ≠ a := p3.ne np
      have bA := (b1.trans b2).trans b3
      exact q _ p (n, true, d) (but_new bA (bA.free npa np)) (pot_upd (p3.mono (by omega)) npa) upd_same ⟨tops[n], List.getElem?_eq_getElem hn, d0, by show d ≤ tops[n]; omega⟩ (inB_from hs (by omega))
    · have k2 := (Keep.but b1 pa).trans (Keep.but b2 p1)
      refine ⟨.int n, rfl, .ref s', rfl, .int n, rfl, s', _, n, _, rfl, rfl, .inl (.inl (k2.tup S.at')), at_int hs, .ref a, rfl, .ref t, rfl, .int n, rfl, t, _, n, _, rfl, rfl, .inl (.inl (k2.tup et)), at_int hn, .ref s', rfl, .int n, rfl, s', _, n, _, rfl, rfl, .inl (.inl (k2.tup S.at')), at_int hs, _, _, rfl, rfl, _, 1, rfl, rfl, a, _, _, rfl, p2, by omega, top_bd (by omega), by omega, fun d H3 b3 p3 d0 d1 => ?_⟩
      refine ⟨_, d, rfl, rfl, (show 3 ≤ sizeLine by decide), fun p np => ?_⟩
      have npa : p ≠ a := p3.ne np
      have bA := (b1.trans b2).trans b3
      exact q _ p (n, false, st[n] + d) (but_new bA (bA.free npa np)) (pot_upd (p3.mono (by omega)) npa) upd_same ⟨tops[n], List.getElem?_eq_getElem hn, by show 0 ≤ st[n] + d; omega, by show st[n] + d ≤ tops[n]; omega⟩ (inB_to hs (by omega))

def spRulesL : Sp := fun vs H Q _ => ∃ (a t o1 o2 : Addr) (tops st1 st2 : List Int) (m : Int) (c : Nat), vs = [.ref a, .ref t, .ref o1, .ref o2, .int m] ∧ PotAt H a c ∧ H t = some (.tup (tops.map V.int)) ∧ Pl tops ∧ 1 ≤ tops.length ∧ tops.length ≤ 12 ∧ Std tops H o1 st1 ∧ Std tops H o2 st2 ∧ 0 ≤ m ∧ m ≤ 16 ∧ c < 800000 ∧
  ∀ H' R rs, But a H H' → PotAt H' a (c + 112) → RulesAt H' R rs → (rs.length : Int) ≤ m → (∀ q ∈ rs, RuleOk tops q ∧ kept st1 q = true ∧ kept st2 q = true) → Q (.ref R) H'
theorem ok_rulesL {f fT fS : Addr} {fd fdT fdS : FuncData} {k : Nat} (F : Fun K "_law_rules" "_law_rules" aRules f fd) (T : Kn P w K mg base 1 "_law_take" ["_law_pot_here", "_law_many"] spTake fT fdT)
    (S : Kn P w K mg base 2 "_law_side_in" ["_law_pot_here", "_law_tops_here", "_law_standing_here"] spSideIn fS fdS) (mr : mg "range" = none) (mt : mg "tuple" = none) : FnOk P w K mg base CX0 (k + 3) f fd ["_law_pot_here", "_law_tops_here", "_law_one", "_law_two", "_law_many"] spRulesL := by
  refine F.ok scRulesL (fun vs H Q E h => ?_) (fun cdv A outer s H vs Q E hr h => ?_)
  · obtain ⟨a, t, o1, o2, tops, st1, st2, m, c, rfl, _⟩ := h
    rfl
  · obtain ⟨a, t, o1, o2, tops, st1, st2, m, c, rfl, pa, et, pl, l1, l12, S1, S2, m0, m16, hc, q⟩ := h
    refine ⟨_, pss_cons (ps_set (i := 5) scRulesL.nd rfl (.inl rfl) (pe_lst pa_nil))
      (pss_cons (ps_for PassesOwn.never rfl (pi_range1 (by rfl) mr (pa_cons (pv 4) pa_nil)) (pg_name (i := 6) scRulesL.nd rfl (.inl rfl))
        (pss_cons (ps_set (i := 7) scRulesL.nd rfl (.inl rfl) (pe_tup (pa_cons (pe_kn S hr (by omega) (pa_cons (pv 0) (pa_cons (pv 1) (pa_cons (pv 2) pa_nil)))) (pa_cons (pe_kn S hr (by omega) (pa_cons (pv 0) (pa_cons (pv 1) (pa_cons (pv 3) pa_nil)))) pa_nil))))
        (pss_one (ps_expr (pe_bm PySem.F.plainAttrs_list PySem.F.slot_list_append PySem.F.type_list_append mt_append (pv 5) (pa_cons (pe_ifExp (pt_cmpR op_eq (pe_kn T hr (by omega) (pa_cons (pv 0) (pa_cons pe_int pa_nil))) pe_int (nomark _)) (pe_revT (pv 7)) (pv 7)) pa_nil))))))
      (pss_one (ps_ret (pe_callTy call_tuple_of (by rfl) mt (by decide +kernel) (pa_cons (pv 5) pa_nil))))), ?_⟩
    refine ⟨Nat.zero_le _, fun l nl => ?_⟩
    have nla : l ≠ a := pa.ne nl
    refine ⟨.int m, rfl, m, rfl, by omega, by omega, for_it walk_range (fun i σ H' => (∃ u v, σ = [some (.ref a), some (.ref t), some (.ref o1), some (.ref o2), some (.int m), some (.ref l), u, v]) ∧ But a H H' ∧ PotAt H' a (c + 7 * i) ∧ ∃ (as : List Addr) (rs : List Rl), H' l = some (.lst (as.map V.ref)) ∧ as.length = i ∧ as.length = rs.length ∧ (∀ (j : Nat) (r : Addr) (q : Rl), as[j]? = some r → rs[j]? = some q → RuleAt H' r q) ∧ ∀ q ∈ rs, RuleOk tops q ∧ kept st1 q = true ∧ kept st2 q = true)
      ⟨⟨none, none, rfl⟩, but_new (fun _ _ _ e => e) nl, pot_upd pa nla, [], [], upd_same, rfl, rfl, fun j r q h => by simp at h, fun _ h => absurd h List.not_mem_nil⟩ (fun _ _ _ _ _ => trivial) (fun i v σ H2 H3 hi p y => ?_) (fun σ H2 p => ?_)⟩
    · obtain ⟨⟨u, v', rfl⟩, b2, p2, as, rs, el2, li, la, ra, rok⟩ := p
      obtain ⟨rfl, rfl⟩ := y
      have i16 : i < 16 := by omega
      have k2 := Keep.but b2 pa
      refine ⟨.ref a, rfl, .ref t, rfl, .ref o1, rfl, a, t, o1, tops, st1, _, rfl, p2, k2.tup et, pl, l1, l12, S1.keep k2, by omega, fun H4 x1 s1 b4 p4 e1 ok1 in1 => ?_⟩
      have k4 := k2.trans (Keep.but b4 p2)
      refine ⟨.ref a, rfl, .ref t, rfl, .ref o2, rfl, a, t, o2, tops, st2, _, rfl, p4, k4.tup et, pl, l1, l12, S2.keep k4, by omega, fun H5 x2 s2 b5 p5 e2 ok2 in2 => ?_⟩
      refine ⟨(show 2 ≤ sizeLine by decide), fun g ng => ?_⟩
      have nga : g ≠ a := p5.ne ng
      have p6 := pot_upd (o := .tup [.ref x1, .ref x2]) p5 nga
      have e1' := e1.keep (Keep.but b5 p4)
      have b06 : But a H3 (upd H5 g (.tup [.ref x1, .ref x2])) := (b4.trans b5).trans (But.of (same_new ng))
      have k56 : Keep H5 (upd H5 g (.tup [.ref x1, .ref x2])) := .same (same_new ng)
      have e1'' := e1'.keep k56
      have e2'' := e2.keep k56
      have eg6 : (upd H5 g (.tup [.ref x1, .ref x2])) g = some (.tup [.ref x1, .ref x2]) := upd_same
      generalize (upd H5 g (.tup [.ref x1, .ref x2])) = H6 at p6 b06 e1'' e2'' eg6 ⊢
      have el6 : H6 l = some (.lst (as.map V.ref)) := b06 _ _ nla el2
      refine ⟨.ref l, rfl, .inl ⟨rfl, _, .inl (.inl el6)⟩, .ref a, rfl, a, 2, _, rfl, p6, by decide, by decide, by omega, fun z H7 b7 p7 z0 z1 => ⟨rfl, _, rfl, ite2 (fun _ => ?_) (fun _ => ?_)⟩⟩
      · have k7 := Keep.but b7 p6
        have b37 := b06.trans b7
        refine ⟨.ref g, rfl, g, _, rfl, .inl (.inl (k7.tup eg6)), fun r nr => ?_⟩
        have nra : r ≠ a := p7.ne nr
        have el7 : H7 l = some (.lst (as.map V.ref)) := b37 _ _ nla el2
        have nlr : l ≠ r := ne_of_none el7 nr
        have el8 : (upd H7 r (.tup [V.ref x1, V.ref x2].reverse)) l = some (.lst (as.map V.ref)) := (upd_ne nlr).trans el7
        have bH := (b2.trans b37)
        refine ⟨l, _, _, rfl, rfl, el8, by rw [List.length_map]; exact small1000 (by omega), ⟨_, _, rfl⟩, but_new (but_new bH (bH.free nra nr)) nl, pot_upd (pot_upd (p7.mono (by omega)) nra) nla, as ++ [r], rs ++ [(s2, s1)], ?_, by rw [List.length_append, li]; rfl, by rw [List.length_append, List.length_append, la]; rfl, ?_, fun y hy => ?_⟩
        · rw [upd_same, List.map_append]
          rfl
        · have k78 : Keep H7 (upd (upd H7 r (.tup [V.ref x1, V.ref x2].reverse)) l (.lst (as.map V.ref ++ [.ref r]))) := (Keep.same (same_new nr)).trans (.upd el8)
          refine rules_snoc la ra (((Keep.but b37 p2)).trans k78) ⟨x2, x1, ?_, (e2''.keep k7).keep k78, (e1''.keep k7).keep k78⟩
          rw [upd_ne nlr.symm, upd_same]
          rfl
        · rcases List.mem_append.mp hy with h | h
          · exact rok y h
          · rw [List.mem_singleton.mp h]
            refine ⟨⟨ok2, ok1⟩, ?_, ?_⟩
            · show (inB st1 s2 || inB st1 s1) = true
              rw [in1, Bool.or_true]
            · show (inB st2 s2 || inB st2 s1) = true
              rw [in2, Bool.true_or]
      · have k7 := Keep.but b7 p6
        have b37 := b06.trans b7
        have el7 : H7 l = some (.lst (as.map V.ref)) := b37 _ _ nla el2
        have bH := (b2.trans b37)
        refine ⟨.ref g, rfl, l, _, _, rfl, rfl, el7, by rw [List.length_map]; exact small1000 (by omega), ⟨_, _, rfl⟩, but_new bH nl, pot_upd (p7.mono (by omega)) nla, as ++ [g], rs ++ [(s1, s2)], ?_, by rw [List.length_append, li]; rfl, by rw [List.length_append, List.length_append, la]; rfl, ?_, fun y hy => ?_⟩
        · rw [upd_same, List.map_append]
          rfl
        · have k78 : Keep H7 (upd H7 l (.lst (as.map V.ref ++ [.ref g]))) := .upd el7
          exact rules_snoc la ra (((Keep.but b37 p2)).trans k78) ⟨x1, x2, (k7.trans k78).tup eg6, (e1''.keep k7).keep k78, (e2''.keep k7).keep k78⟩
        · rcases List.mem_append.mp hy with h | h
          · exact rok y h
          · rw [List.mem_singleton.mp h]
            refine ⟨⟨ok1, ok2⟩, ?_, ?_⟩
            · show (inB st1 s1 || inB st1 s2) = true
              rw [in1, Bool.true_or]
            · show (inB st2 s1 || inB st2 s2) = true
              rw [in2, Bool.or_true]
    · obtain ⟨⟨u, v', rfl⟩, b2, p2, as, rs, el2, li, la, ra, rok⟩ := p
      refine ⟨.ref l, rfl, l, _, rfl, .inl ⟨.inl (.inl el2), fun R nR => ?_⟩⟩
      have nRa : R ≠ a := p2.ne nR
      exact q _ R rs (but_new b2 (b2.free nRa nR)) (pot_upd (p2.mono (by omega)) nRa) ⟨as, upd_same, la, fun j r q h1 h2 => (ra j r q h1 h2).keep (.same (same_new nR))⟩ (by omega) rok

end
end K21

set_option Elab.async false
set_option linter.all false
set_option maxRecDepth 100000
namespace K21
open PySem PySem.Spec PyProof.Rows L2 NB

abbrev aTops : Stmt := topS 43
abbrev aBtw : Stmt := topS 45
abbrev aPlan : Stmt := topS 46
abbrev aSmall : Stmt := topS 49
abbrev nBtw : List Str := ["_law_pot_here", "_law_tops_here", "_law_one", "_law_two", "_law_going", "_law_i", "_law_j", "_law_near", "_law_further", "_law_leaving", "_law_coming", "_law_thing"]
abbrev nPlan : List Str := ["_law_pot_here", "_law_tops_here", "_law_many", "_law_one", "_law_two", "_law_found", "_law_goal", "_law_turn", "_law_rule"]
theorem scTopsL : FnScope ["_law_pot_here", "_law_thing"] ["_law_pot_here"] (defScope aTops) := ⟨rfl, rfl, rfl, by decide +kernel, rfl, by decide +kernel, by decide +kernel⟩
theorem scBtw : FnScope nBtw ["_law_pot_here", "_law_tops_here", "_law_one", "_law_two"] (defScope aBtw) := ⟨rfl, rfl, rfl, by decide +kernel, rfl, by decide +kernel, by decide +kernel⟩
theorem scPlanL : FnScope nPlan ["_law_pot_here", "_law_tops_here", "_law_many"] (defScope aPlan) := ⟨rfl, rfl, rfl, by decide +kernel, rfl, by decide +kernel, by decide +kernel⟩
theorem scSmall : FnScope ["_law_pot_here", "_law_tops_here", "_law_rules_here", "_law_one", "_law_two"] ["_law_pot_here"] (defScope aSmall) := ⟨rfl, rfl, rfl, by decide +kernel, rfl, by decide +kernel, by decide +kernel⟩
theorem eqv_nilL (xs : List Int) : PyData.eqv (.list (xs.map PyData.int)) (.list []) = decide (xs = []) := by
  have := eqv_ints xs []
  simp only [PyData.eqv]
  exact this
theorem shaped_ints_l (xs : List Int) : SeqAt.shaped (.list (xs.map PyData.int)) = true := by
  unfold SeqAt.shaped
  simp only [PyData.canLay0, lay_ints, PyData.depth, depth_ints, Bool.true_and]
  decide

section
variable {P : Program} {w : World} {K : PySem.W.Frag} {mg : Str → Option Value} {base : Heap}

def Few (xs : List Int) : Prop := ∀ x ∈ xs, 0 ≤ x ∧ x ≤ 3
theorem Few.pl {xs : List Int} (h : Few xs) : Pl xs := fun x hx => ⟨(h x hx).1, Int.lt_of_le_of_lt (h x hx).2 (by decide)⟩
theorem tops_mem {x : V} (h : x ∈ [V.int 1, V.int 1, V.int 2, V.int 2, V.int 3, V.int 0]) : ∃ i : Int, x = .int i ∧ 0 ≤ i ∧ i ≤ 3 := by
  simp only [List.mem_cons, List.not_mem_nil, or_false] at h
  rcases h with e | e | e | e | e | e <;> exact ⟨_, e, by decide, by decide⟩
def spTopsL : Sp := fun vs H Q _ => ∃ (a : Addr) (c : Nat), vs = [.ref a] ∧ PotAt H a c ∧ c < 900000 ∧
  ∀ H' p tops, But a H H' → PotAt H' a (c + 5) → H' p = some (.tup (tops.map V.int)) → 1 ≤ tops.length → tops.length ≤ 4 → Few tops → Q (.ref p) H'
theorem ok_topsL {f fT fO : Addr} {fd fdT fdO : FuncData} {k : Nat} (F : Fun K "_law_tops" "_law_tops" aTops f fd) (T : Kn P w K mg base 1 "_law_take" ["_law_pot_here", "_law_many"] spTake fT fdT)
    (O : Kn P w K mg base 2 "_law_of" ["_law_pot_here", "_law_some"] (spOf K) fO fdO) (mr : mg "range" = none) (mt : mg "tuple" = none) : FnOk P w K mg base CX0 (k + 3) f fd ["_law_pot_here"] spTopsL := by
  refine F.ok scTopsL (fun vs H Q E h => ?_) (fun cdv A outer s H vs Q E hr h => ?_)
  · obtain ⟨a, c, rfl, _⟩ := h
    rfl
  · obtain ⟨a, c, rfl, pa, hc, q⟩ := h
    refine ⟨_, pss_one (ps_ret (pe_callTy call_tuple_of (by rfl) mt (by decide +kernel) (pa_cons
      (pe_lc (own := [("_law_thing", 1)]) (g := gName 1) (tt := tYes) (te := tCall (spOf K) [] E0 (tCons (tVar 0) (tCons (tLst (tCons (tC (.int 1)) (tCons (tC (.int 1)) (tCons (tC (.int 2)) (tCons (tC (.int 2)) (tCons (tC (.int 3)) (tCons (tC (.int 0)) tNil))))))) tNil))) rfl scTopsL.nd (pi_range1 (by rfl) mr (pa_cons (pe_op op_add pe_int (pe_kn T hr (by omega) (pa_cons (pv 0) (pa_cons pe_int pa_nil)))) pa_nil)) (blkOk_by (N := ["_law_pot_here", "_law_thing"]) (sc := defScope aTops) (by decide +kernel))
        (fun _ _ _ _ _ => pg_name (i := 1) scTopsL.nd rfl (.inl rfl) (hf := .inr rfl)) (fun _ _ _ _ _ => pts_nil)
        (fun _ _ _ _ _ => pe_kn O hr (by omega) (pa_cons (pv 0) (pa_cons (pe_lst (pa_cons pe_int (pa_cons pe_int (pa_cons pe_int (pa_cons pe_int (pa_cons pe_int (pa_cons pe_int pa_nil))))))) pa_nil)))) pa_nil))), ?_⟩
    refine ⟨.ref a, rfl, a, 4, c, rfl, pa, by decide, by decide, by omega, fun d H1 b1 p1 d0 d1 => ?_⟩
    refine ⟨1, d, rfl, rfl, _, rfl, by omega, by omega, fun D nD => lc_it walk_range (fun i H' => But a H1 H' ∧ PotAt H' a (c + 1 + i) ∧ ∃ ts : List Int, H' D = some (.lst (ts.map V.int)) ∧ ts.length = i ∧ Few ts)
      ⟨but_new (fun _ _ _ e => e) nD, pot_upd p1 (p1.ne nD), [], upd_same, rfl, fun _ h => absurd h List.not_mem_nil⟩ (fun _ _ _ _ => trivial) (fun i v H2 H3 hi p y => ?_) (fun H2 p => ?_)⟩
    · obtain ⟨b2, p2, ts, eD, tl, tp⟩ := p
      obtain ⟨rfl, rfl⟩ := y
      have nDa : D ≠ a := p1.ne nD
      refine ⟨rfl, .ref a, rfl, (show 6 ≤ sizeLine by decide), fun m nm => ?_⟩
      have nma : m ≠ a := p2.ne nm
      refine ⟨a, m, _, _, rfl, pot_upd p2 nma, nma, .inl (.inl (.inl upd_same)), (show 1 ≤ 6 by decide), (show 6 ≤ 1000000 by decide), by omega, fun x H5 hx b5 p5 => ?_⟩
      obtain ⟨n, rfl, n0, n3⟩ := tops_mem hx
      have b35 : But a H3 H5 := fun b o ne e => b5 _ _ ne (same_new nm _ _ e)
      refine ⟨_, b35 _ _ nDa eD, by rw [List.length_map]; exact small1000 (by omega), but_new (b2.trans b35) nD, pot_upd (p5.mono (by omega)) nDa, ts ++ [n], ?_, by rw [List.length_append, tl]; rfl, fun y hy => ?_⟩
      · rw [upd_same, List.map_append]
        rfl
      · rcases List.mem_append.mp hy with h | h
        · exact tp y h
        · rw [List.mem_singleton.mp h]
          exact ⟨n0, n3⟩
    · obtain ⟨b2, p2, ts, eD, tl, tp⟩ := p
      refine ⟨D, _, rfl, .inl ⟨.inl (.inl eD), fun R nR => ?_⟩⟩
      have nRa : R ≠ a := p2.ne nR
      have b02 := b1.trans b2
      exact q _ R ts (but_new b02 (b02.free nRa nR)) (pot_upd (p2.mono (by omega)) nRa) upd_same (by omega) (by omega) tp

def spBtw : Sp := fun vs H Q _ => ∃ (a t o1 o2 : Addr) (tops st1 st2 : List Int) (c : Nat), vs = [.ref a, .ref t, .ref o1, .ref o2] ∧ PotAt H a c ∧ H t = some (.tup (tops.map V.int)) ∧ Pl tops ∧ 1 ≤ tops.length ∧ tops.length ≤ 12 ∧ Std tops H o1 st1 ∧ Std tops H o2 st2 ∧ c < 900000 ∧
  (∀ H', But a H H' → PotAt H' a (c + 5) → Q .non H') ∧ ∀ H' r rl, But a H H' → PotAt H' a (c + 5) → RuleAt H' r rl → RuleOk tops rl → kept st1 rl = true → kept st2 rl = true → Q (.ref r) H'
set_option maxHeartbeats 4000000 in
theorem ok_btw {f fT fO : Addr} {fd fdT fdO : FuncData} {k : Nat} (F : Fun K "_law_between_rule" "_law_between_rule" aBtw f fd) (T : Kn P w K mg base 1 "_law_take" ["_law_pot_here", "_law_many"] spTake fT fdT)
    (O : Kn P w K mg base 2 "_law_of" ["_law_pot_here", "_law_some"] (spOf K) fO fdO) (mr : mg "range" = none) (ml : mg "len" = none) (mA : mg "abs" = none) : FnOk P w K mg base CX0 (k + 3) f fd ["_law_pot_here", "_law_tops_here", "_law_one", "_law_two"] spBtw := by
  refine F.ok scBtw (fun vs H Q E h => ?_) (fun cdv A outer s H vs Q E hr h => ?_)
  · obtain ⟨a, t, o1, o2, tops, st1, st2, c, rfl, _⟩ := h
    rfl
  · obtain ⟨a, t, o1, o2, tops, st1, st2, c, rfl, pa, et, pl, l1, l12, S1, S2, hc, q1, q2⟩ := h
    refine ⟨_, pss_cons (ps_setLc (i := 4) (own := [("_law_thing", 11)]) (g := gName 11) (tt := tTest (tOp rNe (tOp (rIxT K) (tVar 2) (tVar 11)) (tOp (rIxT K) (tVar 3) (tVar 11)))) (te := tVar 11) rfl scBtw.nd rfl rfl (sw_true rfl rfl rfl (by decide +kernel)) (pi_range1 (by rfl) mr (pa_cons (pe_callB call_len_seq (by rfl) ml PySem.boot_len (pa_cons (pv 1) pa_nil)) pa_nil)) (blkOk_by (N := nBtw) (sc := defScope aBtw) (by decide +kernel))
            (fun _ _ _ _ _ => pg_name (i := 11) scBtw.nd rfl (.inl rfl) (hf := .inr rfl)) (fun _ _ _ _ _ => pts_one (pt_cmpR (r := rNe) op_ne (pe_ix (r := rIxT K) ix_tup (pv 2) (pv 11) (fun _ _ => rfl)) (pe_ix (r := rIxT K) ix_tup (pv 3) (pv 11) (fun _ _ => rfl)) (nomark _))) (fun _ _ _ _ _ => pv 11))
      (pss_cons (ps_if (pt_cmpR (op_eqD hr.units) (pv 4) (pe_lst pa_nil) (nomark _)) (pss_one (ps_ret pe_non)) pss_nil)
      (pss_cons (ps_par (i := 5) (j := 6) (by rfl) scBtw.nd rfl rfl (by decide) rfl rfl (pa_cons (pe_kn O hr (by omega) (pa_cons (pv 0) (pa_cons (pv 4) pa_nil))) (pa_cons (pe_kn O hr (by omega) (pa_cons (pv 0) (pa_cons (pv 4) pa_nil))) pa_nil)) (by rfl))
      (pss_cons (ps_set (i := 7) scBtw.nd rfl (.inl rfl) (pe_kn T hr (by omega) (pa_cons (pv 0) (pa_cons (pe_callB call_abs (by rfl) mA (by decide +kernel) (pa_cons (pe_op op_sub (pe_ix ix_tup (pv 3) (pv 5) (fun _ _ => rfl)) (pe_ix ix_tup (pv 2) (pv 5) (fun _ _ => rfl))) pa_nil)) pa_nil))))
      (pss_cons (ps_set (i := 8) scBtw.nd rfl (.inl rfl) (pe_op op_add pe_int (pe_kn T hr (by omega) (pa_cons (pv 0) (pa_cons (pe_callB call_abs (by rfl) mA (by decide +kernel) (pa_cons (pe_op op_sub (pe_ix ix_tup (pv 3) (pv 6) (fun _ _ => rfl)) (pe_ix ix_tup (pv 2) (pv 6) (fun _ _ => rfl))) pa_nil)) pa_nil)))))
      (pss_cons (ps_par (i := 9) (j := 10) (by rfl) scBtw.nd rfl rfl (by decide) rfl rfl (pa_cons (pe_tup (pa_cons (pv 5) (pa_cons pe_str (pa_cons (pe_op op_sub (pe_ix ix_tup (pv 2) (pv 5) (fun _ _ => rfl)) (pv 7)) pa_nil)))) (pa_cons (pe_tup (pa_cons (pv 6) (pa_cons pe_str (pa_cons (pe_op op_sub (pe_ix ix_tup (pv 2) (pv 6) (fun _ _ => rfl)) (pv 8)) pa_nil)))) pa_nil)) (by rfl))
      (pss_cons (ps_if (pt_cmpR op_gt (pe_ix ix_tup (pv 3) (pv 5) (fun _ _ => rfl)) (pe_ix ix_tup (pv 2) (pv 5) (fun _ _ => rfl)) (nomark _)) (pss_one (ps_set (i := 9) scBtw.nd rfl (.inl rfl) (pe_tup (pa_cons (pv 5) (pa_cons pe_str (pa_cons (pe_op op_add (pe_ix ix_tup (pv 2) (pv 5) (fun _ _ => rfl)) (pv 7)) pa_nil)))))) pss_nil)
      (pss_cons (ps_if (pt_cmpR op_gt (pe_ix ix_tup (pv 3) (pv 6) (fun _ _ => rfl)) (pe_ix ix_tup (pv 2) (pv 6) (fun _ _ => rfl)) (nomark _)) (pss_one (ps_set (i := 10) scBtw.nd rfl (.inl rfl) (pe_tup (pa_cons (pv 6) (pa_cons pe_str (pa_cons (pe_op op_add (pe_ix ix_tup (pv 2) (pv 6) (fun _ _ => rfl)) (pv 8)) pa_nil)))))) pss_nil)
      (pss_one (ps_ret (pe_ifExp (pt_cmpR op_eq (pe_kn T hr (by omega) (pa_cons (pv 0) (pa_cons pe_int pa_nil))) pe_int (nomark _)) (pe_tup (pa_cons (pv 9) (pa_cons (pv 10) pa_nil))) (pe_tup (pa_cons (pv 10) (pa_cons (pv 9) pa_nil))))))))))))), ?_⟩
    refine ⟨.ref t, rfl, t, _, rfl, .inr (.inl (.inl et)), _, rfl, by omega, by rw [List.length_map]; omega, fun D nD => lc_it walk_range (fun i H' => Same H H' ∧ ∃ gs : List Int, H' D = some (.lst (gs.map V.int)) ∧ gs.length ≤ i ∧ ∀ g ∈ gs, ∃ n : Nat, g = n ∧ n < tops.length ∧ st1[n]? ≠ st2[n]?)
      ⟨same_new nD, [], upd_same, Nat.le_refl _, fun _ h => absurd h List.not_mem_nil⟩ (fun _ _ _ _ => trivial) (fun i v H1 H2 hi p y => ?_) (fun H1 p => ?_)⟩
    · obtain ⟨s1, gs, eD, lg, hg⟩ := p
      obtain ⟨rfl, rfl⟩ := y
      rw [List.length_map] at hi
      have hi' : i < tops.length := by omega
      have h1 : i < st1.length := by rw [S1.len]; exact hi'
      have h2 : i < st2.length := by rw [S2.len]; exact hi'
      refine ⟨rfl, _, rfl, _, rfl, o1, _, (i : Int), _, rfl, by show V.int (0 + (i : Int)) = _; rw [Int.zero_add], .inl (.inl (s1 _ _ S1.at')), at_int h1, _, rfl, _, rfl, o2, _, (i : Int), _, rfl, by show V.int (0 + (i : Int)) = _; rw [Int.zero_add], .inl (.inl (s1 _ _ S2.at')), at_int h2, rfl, _, rfl, ?_⟩
      by_cases e : V.int st1[i] = V.int st2[i]
      · refine iteNS e ⟨s1, gs, eD, by omega, hg⟩
      · rw [decide_eq_false e]
        refine iteT ⟨_, rfl, _, eD, by rw [List.length_map]; exact small1000 (by omega), same_over s1 nD, gs ++ [(i : Int)], ?_, by rw [List.length_append]; show gs.length + 1 ≤ i + 1; omega, fun y hy => ?_⟩
        · rw [upd_same, List.map_append]
          show some (HO.lst (gs.map V.int ++ [V.int (0 + (i : Int))])) = _
          rw [Int.zero_add]
          rfl
        · rcases List.mem_append.mp hy with h | h
          · exact hg y h
          · rw [List.mem_singleton.mp h]
            refine ⟨i, rfl, hi', fun z => e ?_⟩
            rw [List.getElem?_eq_getElem h1, List.getElem?_eq_getElem h2] at z
            rw [Option.some.inj z]
    obtain ⟨s1, gs, eD, lg, hg⟩ := p
    have nDa : D ≠ a := pa.ne nD
    have pa1 := pa.keep s1
    refine ⟨.ref D, rfl, Nat.zero_le _, fun e ne => ?_⟩
    refine ⟨_, _, .lst (.inl (.inl (same_new ne _ _ eD))) (dps _), .lst (.inl (.inl upd_same)) .nil, shaped_ints_l _, rfl, _, rfl, ?_⟩
    rw [eqv_nilL]
    have s2 := s1.trans (same_new (o := .lst []) ne)
    by_cases hgs : gs = []
    · rw [decide_eq_true hgs]
      exact iteT (q1 _ (But.of s2) ((pa.keep s2).mono (by omega)))
    · rw [decide_eq_false hgs]
      refine iteF ?_
      have eD2 := same_new (o := .lst []) ne _ _ eD
      have g1 : 1 ≤ gs.length := by
        cases gs with
        | nil => exact absurd rfl hgs
        | cons _ _ => simp
      rw [List.length_map] at lg
      refine ⟨.ref a, rfl, .ref D, rfl, a, D, _, _, rfl, pa.keep s2, nDa, .inl (.inl (.inl eD2)), by rw [List.length_map]; exact g1, by rw [List.length_map]; omega, by omega, fun v1 H3 hv1 b3 p3 => ?_⟩
      have eD3 : H3 D = some (.lst (gs.map V.int)) := b3 _ _ nDa eD2
      refine ⟨.ref a, rfl, .ref D, rfl, a, D, _, _, rfl, p3, nDa, .inl (.inl (.inl eD3)), by rw [List.length_map]; exact g1, by rw [List.length_map]; omega, by omega, fun v2 H4 hv2 b4 p4 => ⟨_, _, rfl, ?_⟩⟩
      obtain ⟨gi, hgi, rfl⟩ := List.mem_map.mp hv1
      obtain ⟨gj, hgj, rfl⟩ := List.mem_map.mp hv2
      obtain ⟨n, rfl, hn, nen⟩ := hg gi hgi
      obtain ⟨m, rfl, hm, nem⟩ := hg gj hgj
      have n1 : n < st1.length := by rw [S1.len]; exact hn
      have n2 : n < st2.length := by rw [S2.len]; exact hn
      have m1 : m < st1.length := by rw [S1.len]; exact hm
      have m2 : m < st2.length := by rw [S2.len]; exact hm
      have nn : st2[n] ≠ st1[n] := fun z => nen (by rw [List.getElem?_eq_getElem n1, List.getElem?_eq_getElem n2, z])
      have mm : st2[m] ≠ st1[m] := fun z => nem (by rw [List.getElem?_eq_getElem m1, List.getElem?_eq_getElem m2, z])
      have bn1 := S1.pl st1[n] (List.getElem_mem n1)
      have bn2 := S2.pl st2[n] (List.getElem_mem n2)
      have bm1 := S1.pl st1[m] (List.getElem_mem m1)
      have bm2 := S2.pl st2[m] (List.getElem_mem m2)
      have tn1 := S1.le n _ _ (List.getElem?_eq_getElem n1) (List.getElem?_eq_getElem hn)
      have tn2 := S2.le n _ _ (List.getElem?_eq_getElem n2) (List.getElem?_eq_getElem hn)
      have tm1 := S1.le m _ _ (List.getElem?_eq_getElem m1) (List.getElem?_eq_getElem hm)
      have tm2 := S2.le m _ _ (List.getElem?_eq_getElem m2) (List.getElem?_eq_getElem hm)
      have ab : ∀ u v : Int, u ≠ v → 0 ≤ u ∧ u < 10 ^ 30 → 0 ≤ v ∧ v < 10 ^ 30 → 1 ≤ (if u - v < 0 then -(u - v) else u - v) ∧ (if u - v < 0 then -(u - v) else u - v) < 2 ^ 200 := fun u v h hu hv => by
        have big : (10 : Int) ^ 30 < 2 ^ 200 := by decide
        split <;> omega
      have b04 : But a H H4 := (But.of s2).trans (b3.trans b4)
      have k4 := Keep.but b04 pa
      refine ⟨.ref a, rfl, .ref o2, rfl, .int n, rfl, o2, _, n, _, rfl, rfl, .inl (.inl (k4.tup S2.at')), at_int n2, .ref o1, rfl, .int n, rfl, o1, _, n, _, rfl, rfl, .inl (.inl (k4.tup S1.at')), at_int n1, _, _, rfl, rfl, _, rfl, a, _, _, rfl, p4, (ab _ _ nn bn2 bn1).1, (ab _ _ nn bn2 bn1).2, by omega, fun d H5 b5 p5 d0 d1 => ?_⟩
      have b05 := b04.trans b5
      have k5 := Keep.but b05 pa
      refine ⟨.ref a, rfl, .ref o2, rfl, .int m, rfl, o2, _, m, _, rfl, rfl, .inl (.inl (k5.tup S2.at')), at_int m2, .ref o1, rfl, .int m, rfl, o1, _, m, _, rfl, rfl, .inl (.inl (k5.tup S1.at')), at_int m1, _, _, rfl, rfl, _, rfl, a, _, _, rfl, p5, (ab _ _ mm bm2 bm1).1, (ab _ _ mm bm2 bm1).2, by omega, fun g H6 b6 p6 g0 g1' => ?_⟩
      have b06 := b05.trans b6
      have k6 := Keep.but b06 pa
      have e16 := k6.tup S1.at'
      have e26 := k6.tup S2.at'
      refine ⟨1, g, rfl, rfl, .int n, rfl, .ref o1, rfl, .int n, rfl, o1, _, n, _, rfl, rfl, .inl (.inl e16), at_int n1, .int d, rfl, _, _, rfl, rfl, (show 3 ≤ sizeLine by decide), fun x nx => ?_⟩
      have s7 : Same H6 (upd H6 x (.tup [.int n, .str "from", .int (st1[n] - d)])) := same_new nx
      refine ⟨.int m, rfl, .ref o1, rfl, .int m, rfl, o1, _, m, _, rfl, rfl, .inl (.inl (s7 _ _ e16)), at_int m1, _, rfl, _, _, rfl, rfl, (show 3 ≤ sizeLine by decide), fun y ny => ⟨_, _, rfl, ?_⟩⟩
      have s8 := s7.trans (same_new (o := .tup [.int m, .str "to", .int (st1[m] - (1 + g))]) ny)
      have ex8 : (upd (upd H6 x (.tup [.int n, .str "from", .int (st1[n] - d)])) y (.tup [.int m, .str "to", .int (st1[m] - (1 + g))])) x = some (.tup [.int n, .str "from", .int (st1[n] - d)]) := same_new ny _ _ upd_same
      have ey8 : (upd (upd H6 x (.tup [.int n, .str "from", .int (st1[n] - d)])) y (.tup [.int m, .str "to", .int (st1[m] - (1 + g))])) y = some (.tup [.int m, .str "to", .int (st1[m] - (1 + g))]) := upd_same
      generalize (upd (upd H6 x (.tup [.int n, .str "from", .int (st1[n] - d)])) y (.tup [.int m, .str "to", .int (st1[m] - (1 + g))])) = H8 at s8 ex8 ey8 ⊢
      have b08 := b06.trans (But.of s8)
      have p8 := p6.keep s8
      -- what comes last
      have last : ∀ (H9 : Hp) (x' y' : Addr) (u v : Sd) (n9 : L2.St), But a H H9 → PotAt H9 a (c + 4) → SideAt H9 x' u → SideAt H9 y' v → SideOk tops u → SideOk tops v → inB st1 u = true → inB st2 v = true → n9[0]? = some (some (.ref a)) → n9[9]? = some (some (.ref x')) → n9[10]? = some (some (.ref y')) →
          tIf (tTest (tOp rEq (tCall spTake [] E0 (tCons (tVar 0) (tCons (tC (.int 2)) tNil))) (tC (.int 0)))) (tTup (tCons (tVar 9) (tCons (tVar 10) tNil))) (tTup (tCons (tVar 10) (tCons (tVar 9) tNil))) n9 H9 Q := fun H9 x' y' u v n9 b9 p9 eu ev ou ov iu iv i0 i9 i10 => by
        refine ⟨.ref a, i0, a, 2, _, rfl, p9, by decide, by decide, by omega, fun z H10 b10 p10 z0 z1 => ⟨rfl, _, rfl, ite2 (fun _ => ?_) (fun _ => ?_)⟩⟩
        · refine ⟨.ref x', i9, .ref y', i10, (show 2 ≤ sizeLine by decide), fun r nr => ?_⟩
          have nra : r ≠ a := p10.ne nr
          have b0 := b9.trans b10
          have k10 := (Keep.but b10 p9).trans (.same (same_new (o := .tup [.ref x', .ref y']) nr))
          exact q2 _ r (u, v) (but_new b0 (b0.free nra nr)) (pot_upd (p10.mono (by omega)) nra) ⟨x', y', upd_same, eu.keep k10, ev.keep k10⟩ ⟨ou, ov⟩ (by show (inB st1 u || inB st1 v) = true; rw [iu, Bool.true_or]) (by show (inB st2 u || inB st2 v) = true; rw [iv, Bool.or_true])
        · refine ⟨.ref y', i10, .ref x', i9, (show 2 ≤ sizeLine by decide), fun r nr => ?_⟩
          have nra : r ≠ a := p10.ne nr
          have b0 := b9.trans b10
          have k10 := (Keep.but b10 p9).trans (.same (same_new (o := .tup [.ref y', .ref x']) nr))
          exact q2 _ r (v, u) (but_new b0 (b0.free nra nr)) (pot_upd (p10.mono (by omega)) nra) ⟨y', x', upd_same, ev.keep k10, eu.keep k10⟩ ⟨ov, ou⟩ (by show (inB st1 v || inB st1 u) = true; rw [iu, Bool.or_true]) (by show (inB st2 v || inB st2 u) = true; rw [iv, Bool.true_or])
      refine ⟨.ref o2, rfl, .int n, rfl, o2, _, n, _, rfl, rfl, .inl (.inl (s8 _ _ e26)), at_int n2, .ref o1, rfl, .int n, rfl, o1, _, n, _, rfl, rfl, .inl (.inl (s8 _ _ e16)), at_int n1, _, _, rfl, rfl, _, rfl, ite2 (fun c1 => ?_) (fun c1 => ?_)⟩
      · have c1' := of_decide_eq_true c1
        refine ⟨.int n, rfl, .ref o1, rfl, .int n, rfl, o1, _, n, _, rfl, rfl, .inl (.inl (s8 _ _ e16)), at_int n1, .int d, rfl, _, _, rfl, rfl, (show 3 ≤ sizeLine by decide), fun x2 nx2 => ?_⟩
        have nx2a : x2 ≠ a := p8.ne nx2
        have s9 : Same H8 (upd H8 x2 (.tup [.int n, .str "to", .int (st1[n] + d)])) := same_new nx2
        have hu : SideOk tops (n, false, st1[n] + d) := ⟨tops[n], List.getElem?_eq_getElem hn, by show 0 ≤ st1[n] + d; omega, by
          show st1[n] + d ≤ tops[n]
          revert d1
          split <;> intro d1 <;> omega⟩
        have iu : inB st1 (n, false, st1[n] + d) = true := inB_to n1 (by omega)
        refine ⟨.ref o2, rfl, .int m, rfl, o2, _, m, _, rfl, rfl, .inl (.inl (s9 _ _ (s8 _ _ e26))), at_int m2, .ref o1, rfl, .int m, rfl, o1, _, m, _, rfl, rfl, .inl (.inl (s9 _ _ (s8 _ _ e16))), at_int m1, _, _, rfl, rfl, _, rfl, ite2 (fun c2 => ?_) (fun c2 => ?_)⟩
        · have c2' := of_decide_eq_true c2
          refine ⟨.int m, rfl, .ref o1, rfl, .int m, rfl, o1, _, m, _, rfl, rfl, .inl (.inl (s9 _ _ (s8 _ _ e16))), at_int m1, _, rfl, _, _, rfl, rfl, (show 3 ≤ sizeLine by decide), fun y2 ny2 => ?_⟩
          have s10 := same_new (o := .tup [.int m, .str "from", .int (st1[m] + (1 + g))]) ny2
          refine last _ x2 y2 (n, false, st1[n] + d) (m, true, st1[m] + (1 + g)) _ (b08.trans (But.of (s9.trans s10))) ((p8.keep (s9.trans s10)).mono (by omega)) (s10 _ _ upd_same) upd_same hu ⟨tops[m], List.getElem?_eq_getElem hm, by show 0 ≤ st1[m] + (1 + g); omega, by
            show st1[m] + (1 + g) ≤ tops[m]
            revert g1'
            split <;> intro g1' <;> omega⟩ iu (inB_from m2 (by
            revert g1'
            split <;> intro g1' <;> omega)) rfl rfl rfl
        · have c2' := of_decide_eq_false (Bool.eq_false_iff.mpr c2)
          refine last _ x2 y (n, false, st1[n] + d) (m, false, st1[m] - (1 + g)) _ (b08.trans (But.of s9)) ((p8.keep s9).mono (by omega)) upd_same (s9 _ _ ey8) hu ⟨tops[m], List.getElem?_eq_getElem hm, by
            show 0 ≤ st1[m] - (1 + g)
            revert g1'
            split <;> intro g1' <;> omega, by show st1[m] - (1 + g) ≤ tops[m]; omega⟩ iu (inB_to m2 (by
            revert g1'
            split <;> intro g1' <;> omega)) rfl rfl rfl
      · have c1' := of_decide_eq_false (Bool.eq_false_iff.mpr c1)
        have hu : SideOk tops (n, true, st1[n] - d) := ⟨tops[n], List.getElem?_eq_getElem hn, by
          show 0 ≤ st1[n] - d
          revert d1
          split <;> intro d1 <;> omega, by show st1[n] - d ≤ tops[n]; omega⟩
        have iu : inB st1 (n, true, st1[n] - d) = true := inB_from n1 (by omega)
        refine ⟨.ref o2, rfl, .int m, rfl, o2, _, m, _, rfl, rfl, .inl (.inl (s8 _ _ e26)), at_int m2, .ref o1, rfl, .int m, rfl, o1, _, m, _, rfl, rfl, .inl (.inl (s8 _ _ e16)), at_int m1, _, _, rfl, rfl, _, rfl, ite2 (fun c2 => ?_) (fun c2 => ?_)⟩
        · have c2' := of_decide_eq_true c2
          refine ⟨.int m, rfl, .ref o1, rfl, .int m, rfl, o1, _, m, _, rfl, rfl, .inl (.inl (s8 _ _ e16)), at_int m1, _, rfl, _, _, rfl, rfl, (show 3 ≤ sizeLine by decide), fun y2 ny2 => ?_⟩
          have s10 := same_new (o := .tup [.int m, .str "from", .int (st1[m] + (1 + g))]) ny2
          refine last _ x y2 (n, true, st1[n] - d) (m, true, st1[m] + (1 + g)) _ (b08.trans (But.of s10)) ((p8.keep s10).mono (by omega)) (s10 _ _ ex8) upd_same hu ⟨tops[m], List.getElem?_eq_getElem hm, by show 0 ≤ st1[m] + (1 + g); omega, by
            show st1[m] + (1 + g) ≤ tops[m]
            revert g1'
            split <;> intro g1' <;> omega⟩ iu (inB_from m2 (by
            revert g1'
            split <;> intro g1' <;> omega)) rfl rfl rfl
        · have c2' := of_decide_eq_false (Bool.eq_false_iff.mpr c2)
          refine last _ x y (n, true, st1[n] - d) (m, false, st1[m] - (1 + g)) _ b08 (p8.mono (by omega)) ex8 ey8 hu ⟨tops[m], List.getElem?_eq_getElem hm, by
            show 0 ≤ st1[m] - (1 + g)
            revert g1'
            split <;> intro g1' <;> omega, by show st1[m] - (1 + g) ≤ tops[m]; omega⟩ iu (inB_to m2 (by
            revert g1'
            split <;> intro g1' <;> omega)) rfl rfl rfl
end
end K21

set_option Elab.async false
set_option linter.all false
set_option maxRecDepth 100000
namespace K21
open PySem PySem.Spec PyProof.Rows L2 NB

theorem rules_cat {H : Hp} {as bs : List Addr} {rs ss : List Rl} (la : as.length = rs.length) (f : ∀ (i : Nat) (r : Addr) (q : Rl), as[i]? = some r → rs[i]? = some q → RuleAt H r q) (g : ∀ (i : Nat) (r : Addr) (q : Rl), bs[i]? = some r → ss[i]? = some q → RuleAt H r q) :
    ∀ (i : Nat) (r : Addr) (q : Rl), (as ++ bs)[i]? = some r → (rs ++ ss)[i]? = some q → RuleAt H r q := fun i r q h1 h2 => by
  rcases Nat.lt_or_ge i as.length with c | c
  · rw [List.getElem?_append_left c] at h1
    rw [List.getElem?_append_left (by omega)] at h2
    exact f i r q h1 h2
  · rw [List.getElem?_append_right c] at h1
    rw [List.getElem?_append_right (by omega), ← la] at h2
    exact g _ r q h1 h2
section
variable {P : Program} {w : World} {K : PySem.W.Frag} {mg : Str → Option Value} {base : Heap}
def spPlanL : Sp := fun vs H Q _ => ∃ (a t : Addr) (tops : List Int) (m : Int) (c : Nat), vs = [.ref a, .ref t, .int m] ∧ PotAt H a c ∧ H t = some (.tup (tops.map V.int)) ∧ Pl tops ∧ 1 ≤ tops.length ∧ tops.length ≤ 12 ∧ 0 ≤ m ∧ m ≤ 16 ∧ c < 700000 ∧
  ∀ H' g R o1 o2 st1 st2 rs, But a H H' → PotAt H' a (c + 2000) → H' g = some (.tup [.ref R, .ref o1, .ref o2]) → RulesAt H' R rs → (rs.length : Int) ≤ m → Std tops H' o1 st1 → Std tops H' o2 st2 → (∀ q ∈ rs, RuleOk tops q ∧ kept st1 q = true ∧ kept st2 q = true) → Q (.ref g) H'
theorem ok_planL {f fT fS fB fR : Addr} {fd fdT fdS fdB fdR : FuncData} {k : Nat} (F : Fun K "_law_plan" "_law_plan" aPlan f fd) (T : Kn P w K mg base 1 "_law_take" ["_law_pot_here", "_law_many"] spTake fT fdT) (St : Kn P w K mg base 2 "_law_standing" ["_law_pot_here", "_law_tops_here"] (spStand K) fS fdS)
    (Bt : Kn P w K mg base 3 "_law_between_rule" ["_law_pot_here", "_law_tops_here", "_law_one", "_law_two"] spBtw fB fdB) (Ru : Kn P w K mg base 3 "_law_rules" ["_law_pot_here", "_law_tops_here", "_law_one", "_law_two", "_law_many"] spRulesL fR fdR) (mr : mg "range" = none) (mL : mg "list" = none) (mt : mg "tuple" = none) : FnOk P w K mg base CX0 (k + 4) f fd ["_law_pot_here", "_law_tops_here", "_law_many"] spPlanL := by
  refine F.ok scPlanL (fun vs H Q E h => ?_) (fun cdv A outer s H vs Q E hr h => ?_)
  · obtain ⟨a, t, tops, m, c, rfl, _⟩ := h
    rfl
  · obtain ⟨a, t, tops, m, c, rfl, pa, et, pl, l1, l12, m0, m16, hc, q⟩ := h
    refine ⟨_, pss_cons (ps_par (i := 3) (j := 4) (by rfl) scPlanL.nd rfl rfl (by decide) rfl rfl (pa_cons (pe_kn St hr (by omega) (pa_cons (pv 0) (pa_cons (pv 1) pa_nil))) (pa_cons (pe_kn St hr (by omega) (pa_cons (pv 0) (pa_cons (pv 1) pa_nil))) pa_nil)) (by rfl))
      (pss_cons (ps_par (i := 5) (j := 6) (by rfl) scPlanL.nd rfl rfl (by decide) rfl rfl (pa_cons (pe_lst pa_nil) (pa_cons (pe_kn T hr (by omega) (pa_cons (pv 0) (pa_cons (pe_op op_add (pv 2) pe_int) pa_nil))) pa_nil)) (by rfl))
      (pss_cons (ps_for PassesOwn.never rfl (pi_range1 (by rfl) mr (pa_cons (pv 6) pa_nil)) (pg_name (i := 7) scPlanL.nd rfl (.inl rfl))
        (pss_cons (ps_set (i := 8) scPlanL.nd rfl (.inl rfl) pe_non)
        (pss_cons (ps_if (pt_cmpR op_eq (pe_kn T hr (by omega) (pa_cons (pv 0) (pa_cons pe_int pa_nil))) pe_int (nomark _)) (pss_one (ps_set (i := 8) scPlanL.nd rfl (.inl rfl) (pe_kn Bt hr (by omega) (pa_cons (pv 0) (pa_cons (pv 1) (pa_cons (pv 3) (pa_cons (pv 4) pa_nil))))))) pss_nil)
        (pss_one (ps_expr (pe_bm PySem.F.plainAttrs_list PySem.F.slot_list_extend PySem.F.type_list_extend mt_extend (pv 5) (pa_cons (pe_ifExp (pt_cmpR op_notN (pv 8) pe_non (nomark _)) (pe_lst (pa_cons (pv 8) pa_nil)) (pe_callTy call_list_of (by rfl) mL (by decide +kernel) (pa_cons (pe_kn Ru hr (by omega) (pa_cons (pv 0) (pa_cons (pv 1) (pa_cons (pv 3) (pa_cons (pv 4) (pa_cons pe_int pa_nil)))))) pa_nil))) pa_nil)))))))
      (pss_one (ps_ret (pe_tup (pa_cons (pe_callTy call_tuple_of (by rfl) mt (by decide +kernel) (pa_cons (pv 5) pa_nil)) (pa_cons (pv 3) (pa_cons (pv 4) pa_nil)))))))), ?_⟩
    refine ⟨.ref a, rfl, .ref t, rfl, a, t, tops, _, rfl, pa, .inl (.inl et), pl, l12, by omega, fun H1 o1 st1 b1 p1 n1 e1 ln1 pl1 le1 => ?_⟩
    have k1 := Keep.but b1 pa
    refine ⟨.ref a, rfl, .ref t, rfl, a, t, tops, _, rfl, p1, .inl (.inl (k1.tup et)), pl, l12, by omega, fun H2 o2 st2 b2 p2 n2 e2 ln2 pl2 le2 => ⟨_, _, rfl, ?_⟩⟩
    have k12 := Keep.but b2 p1
    have S1 : Std tops H2 o1 st1 := Std.keep ⟨e1, ln1, pl1, le1⟩ k12
    have S2 : Std tops H2 o2 st2 := ⟨e2, ln2, pl2, le2⟩
    have et2 := k12.tup (k1.tup et)
    refine ⟨Nat.zero_le _, fun l nl => ?_⟩
    have nla : l ≠ a := p2.ne nl
    have b02 := b1.trans b2
    have nlH : H l = none := b02.free nla nl
    have s3 : Same H2 (upd H2 l (.lst [])) := same_new nl
    refine ⟨.ref a, rfl, .int m, rfl, m, 1, rfl, rfl, a, _, _, rfl, p2.keep s3, by omega, Int.lt_of_le_of_lt (show m + 1 ≤ 17 by omega) (by decide), by omega, fun d H4 b4 p4 d0 d1 => ⟨_, _, rfl, ?_⟩⟩
    have b04 : But a H H4 := (b02.trans (But.of s3)).trans b4
    have k24 : Keep H2 H4 := (Keep.same s3).trans (Keep.but b4 (p2.keep s3))
    have el4 : H4 l = some (.lst (([] : List Addr).map V.ref)) := b4 _ _ nla upd_same
    refine ⟨.int d, rfl, d, rfl, by omega, by omega, for_it walk_range (fun i σ H' => (∃ u7 u8, σ = [some (.ref a), some (.ref t), some (.int m), some (.ref o1), some (.ref o2), some (.ref l), some (.int d), u7, u8]) ∧ But a H H' ∧ (Std tops H' o1 st1 ∧ Std tops H' o2 st2) ∧ PotAt H' a (c + 30 + 118 * i) ∧ ∃ (as : List Addr) (rs : List Rl), H' l = some (.lst (as.map V.ref)) ∧ as.length ≤ i ∧ as.length = rs.length ∧ (∀ (j : Nat) (r : Addr) (q : Rl), as[j]? = some r → rs[j]? = some q → RuleAt H' r q) ∧ ∀ q ∈ rs, RuleOk tops q ∧ kept st1 q = true ∧ kept st2 q = true)
      ⟨⟨none, none, rfl⟩, b04, ⟨S1.keep k24, S2.keep k24⟩, p4.mono (by omega), [], [], el4, Nat.le_refl _, rfl, fun j r q h => by simp at h, fun _ h => absurd h List.not_mem_nil⟩ (fun _ _ _ _ _ => trivial) (fun i v σ H5 H6 hi p y => ?_) (fun σ H5 p => ?_)⟩
    · obtain ⟨⟨u7, u8, rfl⟩, b5, ⟨S1', S2'⟩, p5, as, rs, el, li, la, ra, rok⟩ := p
      obtain ⟨rfl, rfl⟩ := y
      have i16 : i < 16 := by omega
      have k5 := Keep.but b5 pa
      have et5 := k5.tup et
      refine ⟨.ref a, rfl, a, 2, _, rfl, p5, by decide, by decide, by omega, fun z H7 b7 p7 z0 z1 => ⟨rfl, _, rfl, ite2 (fun _ => ?_) (fun _ => ?_)⟩⟩
      · have k7 := Keep.but b7 p5
        refine ⟨.ref a, rfl, .ref t, rfl, .ref o1, rfl, .ref o2, rfl, a, t, o1, o2, tops, st1, st2, _, rfl, p7, k7.tup et5, pl, l1, l12, S1'.keep k7, S2'.keep k7, by omega, fun H8 b8 p8 => ?_, fun H8 r rl b8 p8 er ok kp1 kp2 => ?_⟩
        · have b78 := b7.trans b8
          refine ⟨.ref l, rfl, .inl ⟨rfl, _, .inl (.inl (b78 _ _ nla el))⟩, .non, rfl, rfl, _, rfl, iteNS rfl ?_⟩
          have k8 := Keep.but b78 p5
          refine ⟨.ref a, rfl, .ref t, rfl, .ref o1, rfl, .ref o2, rfl, a, t, o1, o2, tops, st1, st2, 1, _, rfl, p8, k8.tup et5, pl, l1, l12, S1'.keep k8, S2'.keep k8, by decide, by decide, by omega, fun H9 R ss b9 p9 hR lR rk => ?_⟩
          have b59 := b78.trans b9
          have el9 : H9 l = some (.lst (as.map V.ref)) := b59 _ _ nla el
          obtain ⟨as2, eR, la2, f2⟩ := hR
          refine ⟨R, _, rfl, .inr (.inl (.inl eR)), fun l2 nl2 => ?_⟩
          have nl2a : l2 ≠ a := p9.ne nl2
          have nll : l ≠ l2 := ne_of_none el9 nl2
          have el10 : (upd H9 l2 (.lst (as2.map V.ref))) l = some (.lst (as.map V.ref)) := (upd_ne nll).trans el9
          have bH := b5.trans b59
          refine ⟨l, l2, _, _, rfl, rfl, el10, upd_same, by rw [List.length_map, List.length_map]; exact Nat.le_of_lt (small1000 (by omega)), ⟨_, _, rfl⟩, but_new (but_new bH (bH.free nl2a nl2)) nlH, ⟨(S1'.keep (Keep.but b59 p5)).keep ((Keep.same (same_new nl2)).trans (.upd el10)), (S2'.keep (Keep.but b59 p5)).keep ((Keep.same (same_new nl2)).trans (.upd el10))⟩, pot_upd (pot_upd (p9.mono (by omega)) nl2a) nla, as ++ as2, rs ++ ss, ?_, by rw [List.length_append]; omega, by rw [List.length_append, List.length_append, la, la2], ?_, fun y hy => ?_⟩
          · rw [upd_same, List.map_append]
          · have kE : Keep H9 (upd (upd H9 l2 (.lst (as2.map V.ref))) l (.lst (as.map V.ref ++ as2.map V.ref))) := (Keep.same (same_new nl2)).trans (.upd el10)
            exact rules_cat la (fun i r q h1 h2 => (ra i r q h1 h2).keep ((Keep.but b59 p5).trans kE)) (fun i r q h1 h2 => (f2 i r q h1 h2).keep kE)
          · rcases List.mem_append.mp hy with h | h
            · exact rok y h
            · exact rk y h
        · have b78 := b7.trans b8
          have el8 : H8 l = some (.lst (as.map V.ref)) := b78 _ _ nla el
          refine ⟨.ref l, rfl, .inl ⟨rfl, _, .inl (.inl el8)⟩, .ref r, rfl, rfl, _, rfl, ?_⟩
          rw [show decide (V.ref r = V.non) = false from decide_eq_false (fun z => by cases z)]
          refine iteT ⟨.ref r, rfl, (show 1 ≤ sizeLine by decide), fun l2 nl2 => ?_⟩
          have nl2a : l2 ≠ a := p8.ne nl2
          have nll : l ≠ l2 := ne_of_none el8 nl2
          have el10 : (upd H8 l2 (.lst [.ref r])) l = some (.lst (as.map V.ref)) := (upd_ne nll).trans el8
          have bH := b5.trans b78
          refine ⟨l, l2, _, _, rfl, rfl, el10, upd_same, by rw [List.length_map]; exact Nat.le_of_lt (small1000 (show as.length + 1 ≤ 1000 by omega)), ⟨_, _, rfl⟩, but_new (but_new bH (bH.free nl2a nl2)) nlH, ⟨(S1'.keep (Keep.but b78 p5)).keep ((Keep.same (same_new nl2)).trans (.upd el10)), (S2'.keep (Keep.but b78 p5)).keep ((Keep.same (same_new nl2)).trans (.upd el10))⟩, pot_upd (pot_upd (p8.mono (by omega)) nl2a) nla, as ++ [r], rs ++ [rl], ?_, by rw [List.length_append]; show as.length + 1 ≤ i + 1; omega, by rw [List.length_append, List.length_append, la]; rfl, ?_, fun y hy => ?_⟩
          · rw [upd_same, List.map_append]
            rfl
          · have kE : Keep H8 (upd (upd H8 l2 (.lst [.ref r])) l (.lst (as.map V.ref ++ [.ref r]))) := (Keep.same (same_new nl2)).trans (.upd el10)
            exact rules_snoc la ra ((Keep.but b78 p5).trans kE) (er.keep kE)
          · rcases List.mem_append.mp hy with h | h
            · exact rok y h
            · rw [List.mem_singleton.mp h]
              exact ⟨ok, kp1, kp2⟩
      · skip
        refine ⟨.ref l, rfl, .inl ⟨rfl, _, .inl (.inl (b7 _ _ nla el))⟩, .non, rfl, rfl, _, rfl, iteNS rfl ?_⟩
        have k8 := Keep.but b7 p5
        refine ⟨.ref a, rfl, .ref t, rfl, .ref o1, rfl, .ref o2, rfl, a, t, o1, o2, tops, st1, st2, 1, _, rfl, p7, k8.tup et5, pl, l1, l12, S1'.keep k8, S2'.keep k8, by decide, by decide, by omega, fun H9 R ss b9 p9 hR lR rk => ?_⟩
        have b59 := b7.trans b9
        have el9 : H9 l = some (.lst (as.map V.ref)) := b59 _ _ nla el
        obtain ⟨as2, eR, la2, f2⟩ := hR
        refine ⟨R, _, rfl, .inr (.inl (.inl eR)), fun l2 nl2 => ?_⟩
        have nl2a : l2 ≠ a := p9.ne nl2
        have nll : l ≠ l2 := ne_of_none el9 nl2
        have el10 : (upd H9 l2 (.lst (as2.map V.ref))) l = some (.lst (as.map V.ref)) := (upd_ne nll).trans el9
        have bH := b5.trans b59
        refine ⟨l, l2, _, _, rfl, rfl, el10, upd_same, by rw [List.length_map, List.length_map]; exact Nat.le_of_lt (small1000 (by omega)), ⟨_, _, rfl⟩, but_new (but_new bH (bH.free nl2a nl2)) nlH, ⟨(S1'.keep (Keep.but b59 p5)).keep ((Keep.same (same_new nl2)).trans (.upd el10)), (S2'.keep (Keep.but b59 p5)).keep ((Keep.same (same_new nl2)).trans (.upd el10))⟩, pot_upd (pot_upd (p9.mono (by omega)) nl2a) nla, as ++ as2, rs ++ ss, ?_, by rw [List.length_append]; omega, by rw [List.length_append, List.length_append, la, la2], ?_, fun y hy => ?_⟩
        · rw [upd_same, List.map_append]
        · have kE : Keep H9 (upd (upd H9 l2 (.lst (as2.map V.ref))) l (.lst (as.map V.ref ++ as2.map V.ref))) := (Keep.same (same_new nl2)).trans (.upd el10)
          exact rules_cat la (fun i r q h1 h2 => (ra i r q h1 h2).keep ((Keep.but b59 p5).trans kE)) (fun i r q h1 h2 => (f2 i r q h1 h2).keep kE)
        · rcases List.mem_append.mp hy with h | h
          · exact rok y h
          · exact rk y h
    · obtain ⟨⟨u7, u8, rfl⟩, b5, ⟨S1', S2'⟩, p5, as, rs, el, li, la, ra, rok⟩ := p
      refine ⟨.ref l, rfl, l, _, rfl, .inl ⟨.inl (.inl el), fun R nR => ?_⟩⟩
      have nRa : R ≠ a := p5.ne nR
      refine ⟨.ref o1, rfl, .ref o2, rfl, (show 3 ≤ sizeLine by decide), fun g ng => ?_⟩
      have s6 : Same H5 (upd H5 R (.tup (as.map V.ref))) := same_new nR
      have s7 := s6.trans (same_new (o := .tup [.ref R, .ref o1, .ref o2]) ng)
      exact q _ g R o1 o2 st1 st2 rs (b5.trans (But.of s7)) ((p5.keep s7).mono (by omega)) upd_same ⟨as, same_new ng _ _ upd_same, la, fun j r q h1 h2 => (ra j r q h1 h2).keep (.same s7)⟩ (by omega) (S1'.keep (.same s7)) (S2'.keep (.same s7)) rok

def spSmall : Sp := fun vs H Q _ => ∃ (a : Addr) (c : Nat), vs = [.ref a] ∧ PotAt H a c ∧ c < 600000 ∧
  ∀ H' g t R o1 o2 tops st1 st2 rs, But a H H' → PotAt H' a (c + 3000) → H' g = some (.tup [.ref t, .ref R, .ref o1, .ref o2]) → H' t = some (.tup (tops.map V.int)) → 1 ≤ tops.length → tops.length ≤ 4 → Few tops → RulesAt H' R rs → rs.length ≤ 7 → Std tops H' o1 st1 → Std tops H' o2 st2 → (∀ q ∈ rs, RuleOk tops q ∧ kept st1 q = true ∧ kept st2 q = true) → Q (.ref g) H'
theorem ok_small {f fT fP : Addr} {fd fdT fdP : FuncData} {k : Nat} (F : Fun K "_law_small" "_law_small" aSmall f fd) (To : Kn P w K mg base 3 "_law_tops" ["_law_pot_here"] spTopsL fT fdT) (Pl' : Kn P w K mg base 4 "_law_plan" ["_law_pot_here", "_law_tops_here", "_law_many"] spPlanL fP fdP) : FnOk P w K mg base CX0 (k + 5) f fd ["_law_pot_here"] spSmall := by
  refine F.ok scSmall (fun vs H Q E h => ?_) (fun cdv A outer s H vs Q E hr h => ?_)
  · obtain ⟨a, c, rfl, _⟩ := h
    rfl
  · obtain ⟨a, c, rfl, pa, hc, q⟩ := h
    refine ⟨_, pss_cons (ps_set (i := 1) scSmall.nd rfl (.inl rfl) (pe_kn To hr (by omega) (pa_cons (pv 0) pa_nil)))
      (pss_cons (ps_asg (pe_kn Pl' hr (by omega) (pa_cons (pv 0) (pa_cons (pv 1) (pa_cons pe_int pa_nil)))) (pg_tup (by rfl) (pgs_cons (pg_name (i := 2) scSmall.nd rfl (.inl rfl)) (pgs_cons (pg_name (i := 3) scSmall.nd rfl (.inl rfl)) (pgs_cons (pg_name (i := 4) scSmall.nd rfl (.inl rfl)) pgs_nil)))))
      (pss_one (ps_ret (pe_tup (pa_cons (pv 1) (pa_cons (pv 2) (pa_cons (pv 3) (pa_cons (pv 4) pa_nil)))))))), ?_⟩
    refine ⟨.ref a, rfl, a, c, rfl, pa, by omega, fun H1 t tops b1 p1 e1 l1 l4 fw => ?_⟩
    refine ⟨.ref a, rfl, .ref t, rfl, a, t, tops, 7, _, rfl, p1, e1, fw.pl, l1, by omega, by decide, by decide, by omega, fun H2 g R o1 o2 st1 st2 rs b2 p2 eg hR lR S1 S2 rok => ?_⟩
    refine ⟨g, _, rfl, .inl (.inl eg), rfl, _, _, rfl, _, _, rfl, _, _, rfl, rfl, ?_⟩
    refine ⟨.ref t, rfl, .ref R, rfl, .ref o1, rfl, .ref o2, rfl, (show 4 ≤ sizeLine by decide), fun g2 ng2 => ?_⟩
    have s3 : Same H2 (upd H2 g2 (.tup [.ref t, .ref R, .ref o1, .ref o2])) := same_new ng2
    exact q _ g2 t R o1 o2 tops st1 st2 rs ((b1.trans b2).trans (But.of s3)) ((p2.keep s3).mono (by omega)) upd_same (((Keep.but b2 p1).trans (.same s3)).tup e1) l1 l4 fw (hR.keep (.same s3)) (by omega) (S1.keep (.same s3)) (S2.keep (.same s3)) rok

end
end K21

set_option Elab.async false
set_option linter.all false
set_option maxRecDepth 100000
/-! xs.insert(k, y), k a place of the list or its end. -/
namespace NB
open PySem PySem.Spec PyProof.Rows L2
section
variable {X : Cx}
def rInsert : V → List V → Hp → VK → Prop := fun x vs H Q => ∃ (l : Addr) (xs : List V) (k : Int) (y : V), x = .ref l ∧ vs = [.int k, y] ∧ H l = some (.lst xs) ∧ 0 ≤ k ∧ k ≤ (xs.length : Int) ∧ k < 1000000 ∧ xs.length < sizeLine ∧ Q .non (upd H l (.lst (xs.take k.toNat ++ y :: xs.drop k.toNat)))
theorem fits {k : Int} (h0 : 0 ≤ k) (h1 : k < 1000000) : Builtin.List.listFitsIndex k = true := by
  unfold Builtin.List.listFitsIndex
  simp
  omega
theorem ins_list (its : List Value) (k : Int) (u : Value) (h0 : 0 ≤ k) (h1 : k ≤ (its.length : Int)) :
    (have j := if k < 0 then (k + (its.toArray.size : Int)).toNat else min k.toNat its.toArray.size; (its.toArray.extract 0 j).push u ++ its.toArray.extract j) = (its.take k.toNat ++ u :: its.drop k.toNat).toArray := by
  show (its.toArray.extract 0 (if k < 0 then (k + (its.toArray.size : Int)).toNat else min k.toNat its.toArray.size)).push u ++ its.toArray.extract (if k < 0 then (k + (its.toArray.size : Int)).toNat else min k.toNat its.toArray.size) = _
  rw [if_neg (by omega), List.size_toArray, Nat.min_eq_left (by omega)]
  simp [List.extract_toArray, List.extract_eq_drop_take]
  exact List.take_of_length_le (by rw [List.length_drop]; exact Nat.le_refl _)
theorem mt_insert : MtM X "list.insert" rInsert := by
  intro pins s σ H x vs v us Q I rx rv h
  obtain ⟨l, xs, k, y, rfl, rfl, hH, h0, hk, hb, hz, q⟩ := h
  cases rx
  obtain ⟨u1, u2, rfl, r1, r2⟩ : ∃ u1 u2, us = [u1, u2] ∧ RelV (.int k) u1 ∧ RelV y u2 := by
    cases rv with
    | cons p q =>
      cases q with
      | cons p' q' =>
        cases q'
        exact ⟨_, _, rfl, p, p'⟩
  obtain ⟨t, rfl⟩ := r1
  obtain ⟨z, its, n, r, hl, e⟩ := I.lstM hH
  have hlen := r.length
  have hf := fits h0 hb
  have h1 : its.toArray.size ≤ sizeLine := by
    rw [List.size_toArray]
    omega
  refine call_meets PySem.F.slot_list_insert ⟨_, e, rfl⟩ PySem.F.entry_list_insert (PySem.F.args_list_insert_3 _ _ _) (PySem.AutoSeq1.list_insert_list_int_val_1 l _ n k t u2 (by simp [hf]) h1) ⟨e, ?_⟩
  refine ⟨.non, _, I.lset (its' := its.take k.toNat ++ u2 :: its.drop k.toNat) hH e (ins_list its k u2 h0 (by omega)) ((r.take k.toNat).append (.cons r2 (r.drop k.toNat))) ?_, rfl, q⟩
  rw [List.length_append, List.length_cons, List.length_take, List.length_drop]
  omega
end
end NB

set_option Elab.async false
set_option linter.all false
set_option maxRecDepth 100000
namespace K21
open PySem PySem.Spec PyProof.Rows L2 NB

/-! ### great plans -/
abbrev aGTops : Stmt := topS 44
abbrev aGreat : Stmt := topS 50
theorem scGTops : FnScope ["_law_pot_here", "_law_some", "_law_found", "_law_thing"] ["_law_pot_here"] (defScope aGTops) := ⟨rfl, rfl, rfl, by decide +kernel, rfl, by decide +kernel, by decide +kernel⟩
theorem scGreat : FnScope ["_law_pot_here", "_law_tops_here", "_law_rules_here", "_law_one", "_law_two"] ["_law_pot_here"] (defScope aGreat) := ⟨rfl, rfl, rfl, by decide +kernel, rfl, by decide +kernel, by decide +kernel⟩

section
variable {P : Program} {w : World} {K : PySem.W.Frag} {mg : Str → Option Value} {base : Heap}
def spGTops : Sp := fun vs H Q _ => ∃ (a : Addr) (c : Nat), vs = [.ref a] ∧ PotAt H a c ∧ c < 900000 ∧
  ∀ H' p tops, But a H H' → PotAt H' a (c + 60) → H' p = some (.tup (tops.map V.int)) → 2 ≤ tops.length → tops.length ≤ 12 → Pl tops → Q (.ref p) H'
theorem ok_gtops {f fT fO : Addr} {fd fdT fdO : FuncData} {k : Nat} (F : Fun K "_law_great_tops" "_law_great_tops" aGTops f fd) (T : Kn P w K mg base 1 "_law_take" ["_law_pot_here", "_law_many"] spTake fT fdT)
    (O : Kn P w K mg base 2 "_law_of" ["_law_pot_here", "_law_some"] (spOf K) fO fdO) (mr : mg "range" = none) (mt : mg "tuple" = none) : FnOk P w K mg base CX0 (k + 3) f fd ["_law_pot_here"] spGTops := by
  refine F.ok scGTops (fun vs H Q E h => ?_) (fun cdv A outer s H vs Q E hr h => ?_)
  · obtain ⟨a, c, rfl, _⟩ := h
    rfl
  · obtain ⟨a, c, rfl, pa, hc, q⟩ := h
    refine ⟨_, pss_cons (ps_par (i := 1) (j := 2) (by rfl) scGTops.nd rfl rfl (by decide) rfl rfl (pa_cons (pe_lst (pa_cons pe_int (pa_cons pe_int (pa_cons pe_int (pa_cons pe_int (pa_cons (pe_op op_sub (pe_op op_pow pe_int pe_int) pe_int) pa_nil)))))) (pa_cons (pe_lst pa_nil) pa_nil)) (by rfl))
      (pss_cons (ps_for PassesOwn.never rfl (pi_range1 (by rfl) mr (pa_cons (pe_op op_add pe_int (pe_kn T hr (by omega) (pa_cons (pv 0) (pa_cons pe_int pa_nil)))) pa_nil)) (pg_name (i := 3) scGTops.nd rfl (.inl rfl))
        (pss_one (ps_expr (pe_bm PySem.F.plainAttrs_list PySem.F.slot_list_append PySem.F.type_list_append mt_append (pv 2) (pa_cons (pe_kn O hr (by omega) (pa_cons (pv 0) (pa_cons (pe_op op_cat (pv 1) (pe_lst (pa_cons (pe_op op_mul (pe_kn T hr (by omega) (pa_cons (pv 0) (pa_cons (pe_op op_pow pe_int pe_int) pa_nil))) (pe_op op_pow pe_int pe_int)) pa_nil))) pa_nil))) pa_nil)))))
      (pss_one (ps_ret (pe_callTy call_tuple_of (by rfl) mt (by decide +kernel) (pa_cons (pv 2) pa_nil))))), ?_⟩
    refine ⟨10, 30, rfl, rfl, ⟨by decide, by decide, by decide⟩, _, 1, rfl, rfl, (show 5 ≤ sizeLine by decide), fun S nS => ⟨Nat.zero_le _, fun l nl => ⟨_, _, rfl, ?_⟩⟩⟩
    have nSa : S ≠ a := pa.ne nS
    have sS : Same H (upd H S (.lst [.int 0, .int 1, .int 2, .int 9, .int (10 ^ (30 : Int).toNat - 1)])) := same_new nS
    have nla : l ≠ a := (pa.keep sS).ne nl
    have nlH : H l = none := sS.free nl
    have sl := sS.trans (same_new (o := .lst []) nl)
    have eS0 : (upd (upd H S (.lst [.int 0, .int 1, .int 2, .int 9, .int (10 ^ (30 : Int).toNat - 1)])) l (.lst [])) S = some (.lst [.int 0, .int 1, .int 2, .int 9, .int (10 ^ (30 : Int).toNat - 1)]) := same_new nl _ _ upd_same
    have nSl : S ≠ l := ne_of_none (show (upd H S (.lst [.int 0, .int 1, .int 2, .int 9, .int (10 ^ (30 : Int).toNat - 1)])) S = some (.lst [.int 0, .int 1, .int 2, .int 9, .int (10 ^ (30 : Int).toNat - 1)]) from upd_same) nl
    refine ⟨.ref a, rfl, a, 11, c, rfl, pa.keep sl, by decide, by decide, by omega, fun d H1 b1 p1 d0 d1 => ?_⟩
    have el1 : H1 l = some (.lst []) := b1 _ _ nla upd_same
    have eS1 := b1 _ _ nSa eS0
    have bl1 : But a H H1 := (But.of sl).trans b1
    refine ⟨2, d, rfl, rfl, 2 + d, rfl, by omega, by omega, for_it walk_range (fun i σ H' => (∃ u, σ = [some (.ref a), some (.ref S), some (.ref l), u]) ∧ But a H H' ∧ PotAt H' a (c + 1 + 2 * i) ∧ H' S = some (.lst [.int 0, .int 1, .int 2, .int 9, .int (10 ^ (30 : Int).toNat - 1)]) ∧ ∃ ts : List Int, H' l = some (.lst (ts.map V.int)) ∧ ts.length = i ∧ Pl ts)
      ⟨⟨none, rfl⟩, bl1, p1, eS1, [], el1, rfl, fun _ h => absurd h List.not_mem_nil⟩ (fun _ _ _ _ _ => trivial) (fun i v σ H2 H3 hi p y => ?_) (fun σ H2 p => ?_)⟩
    · obtain ⟨⟨u, rfl⟩, b2, p2, eS, ts, el2, tl, tp⟩ := p
      obtain ⟨rfl, rfl⟩ := y
      have hi' : i < 12 := by omega
      refine ⟨.ref l, rfl, .inl ⟨rfl, _, .inl (.inl el2)⟩, .ref a, rfl, .ref S, rfl, .ref a, rfl, 10, 15, rfl, rfl, ⟨by decide, by decide, by decide⟩, a, _, _, rfl, p2, by rw [e15]; decide, by rw [e15]; decide, by omega, fun g1 H4 b4 p4 g0 gm => ?_⟩
      rw [e15] at gm
      refine ⟨10, 15, rfl, rfl, ⟨by decide, by decide, by decide⟩, g1, _, rfl, rfl, .inr (by rw [e15]; exact ⟨by decide, by decide⟩), (show 1 ≤ sizeLine by decide), fun o no => ?_⟩
      have noa : o ≠ a := p4.ne no
      have eS4 := b4 _ _ nSa eS
      have s5 : Same H4 (upd H4 o (.lst [.int (g1 * 10 ^ (15 : Int).toNat)])) := same_new no
      refine ⟨S, o, _, _, rfl, rfl, s5 _ _ eS4, upd_same, (show 5 + 1 ≤ sizeLine by decide), fun m nm => ?_⟩
      have s6 := s5.trans (same_new (o := .lst ([.int 0, .int 1, .int 2, .int 9, .int (10 ^ (30 : Int).toNat - 1)] ++ [.int (g1 * 10 ^ (15 : Int).toNat)])) nm)
      have nma : m ≠ a := (p4.keep s5).ne nm
      refine ⟨a, m, _, _, rfl, p4.keep s6, nma, .inl (.inl (.inl upd_same)), (show 1 ≤ 6 by decide), (show 6 ≤ 1000000 by decide), by omega, fun x H7 hx b7 p7 => ?_⟩
      have hx' : ∃ v : Int, x = .int v ∧ 0 ≤ v ∧ v < 10 ^ 30 := by
        simp only [List.cons_append, List.nil_append, List.mem_cons, List.not_mem_nil, or_false] at hx
        rcases hx with e | e | e | e | e | e
        · exact ⟨_, e, by decide, by decide⟩
        · exact ⟨_, e, by decide, by decide⟩
        · exact ⟨_, e, by decide, by decide⟩
        · exact ⟨_, e, by decide, by decide⟩
        · exact ⟨_, e, by decide, by decide⟩
        · refine ⟨_, e, ?_, ?_⟩
          · rw [e15]
            omega
          · rw [e15]
            omega
      obtain ⟨v, rfl, v0, v1⟩ := hx'
      have b37 : But a H3 H7 := b4.trans ((But.of s6).trans b7)
      have el7 : H7 l = some (.lst (ts.map V.int)) := b37 _ _ nla el2
      refine ⟨l, _, _, rfl, rfl, el7, by rw [List.length_map]; exact small1000 (by omega), ⟨_, rfl⟩, but_new (b2.trans b37) nlH, pot_upd (p7.mono (by omega)) nla, (upd_ne nSl).trans (b37 _ _ nSa eS), ts ++ [v], ?_, by rw [List.length_append, tl]; rfl, tp.snoc v0 v1⟩
      rw [upd_same, List.map_append]
      rfl
    · obtain ⟨⟨u, rfl⟩, b2, p2, eS, ts, el2, tl, tp⟩ := p
      refine ⟨.ref l, rfl, l, _, rfl, .inl ⟨.inl (.inl el2), fun m nm => ?_⟩⟩
      have nma : m ≠ a := p2.ne nm
      exact q _ m ts (but_new b2 (b2.free nma nm)) (pot_upd (p2.mono (by omega)) nma) upd_same (by omega) (by omega) tp

def spGreat : Sp := fun vs H Q _ => ∃ (a : Addr) (c : Nat), vs = [.ref a] ∧ PotAt H a c ∧ c < 600000 ∧
  ∀ H' g t R o1 o2 tops st1 st2 rs, But a H H' → PotAt H' a (c + 3000) → H' g = some (.tup [.ref t, .ref R, .ref o1, .ref o2]) → H' t = some (.tup (tops.map V.int)) → 1 ≤ tops.length → tops.length ≤ 12 → Pl tops → RulesAt H' R rs → rs.length ≤ 16 → Std tops H' o1 st1 → Std tops H' o2 st2 → (∀ q ∈ rs, RuleOk tops q ∧ kept st1 q = true ∧ kept st2 q = true) → Q (.ref g) H'
theorem ok_great {f fT fP : Addr} {fd fdT fdP : FuncData} {k : Nat} (F : Fun K "_law_great" "_law_great" aGreat f fd) (To : Kn P w K mg base 3 "_law_great_tops" ["_law_pot_here"] spGTops fT fdT) (Pl' : Kn P w K mg base 4 "_law_plan" ["_law_pot_here", "_law_tops_here", "_law_many"] spPlanL fP fdP) : FnOk P w K mg base CX0 (k + 5) f fd ["_law_pot_here"] spGreat := by
  refine F.ok scGreat (fun vs H Q E h => ?_) (fun cdv A outer s H vs Q E hr h => ?_)
  · obtain ⟨a, c, rfl, _⟩ := h
    rfl
  · obtain ⟨a, c, rfl, pa, hc, q⟩ := h
    refine ⟨_, pss_cons (ps_set (i := 1) scGreat.nd rfl (.inl rfl) (pe_kn To hr (by omega) (pa_cons (pv 0) pa_nil)))
      (pss_cons (ps_asg (pe_kn Pl' hr (by omega) (pa_cons (pv 0) (pa_cons (pv 1) (pa_cons pe_int pa_nil)))) (pg_tup (by rfl) (pgs_cons (pg_name (i := 2) scGreat.nd rfl (.inl rfl)) (pgs_cons (pg_name (i := 3) scGreat.nd rfl (.inl rfl)) (pgs_cons (pg_name (i := 4) scGreat.nd rfl (.inl rfl)) pgs_nil)))))
      (pss_one (ps_ret (pe_tup (pa_cons (pv 1) (pa_cons (pv 2) (pa_cons (pv 3) (pa_cons (pv 4) pa_nil)))))))), ?_⟩
    refine ⟨.ref a, rfl, a, c, rfl, pa, by omega, fun H1 t tops b1 p1 e1 l1 l4 fw => ?_⟩
    refine ⟨.ref a, rfl, .ref t, rfl, a, t, tops, 16, _, rfl, p1, e1, fw, by omega, by omega, by decide, by decide, by omega, fun H2 g R o1 o2 st1 st2 rs b2 p2 eg hR lR S1 S2 rok => ?_⟩
    refine ⟨g, _, rfl, .inl (.inl eg), rfl, _, _, rfl, _, _, rfl, _, _, rfl, rfl, ?_⟩
    refine ⟨.ref t, rfl, .ref R, rfl, .ref o1, rfl, .ref o2, rfl, (show 4 ≤ sizeLine by decide), fun g2 ng2 => ?_⟩
    have s3 : Same H2 (upd H2 g2 (.tup [.ref t, .ref R, .ref o1, .ref o2])) := same_new ng2
    exact q _ g2 t R o1 o2 tops st1 st2 rs ((b1.trans b2).trans (But.of s3)) ((p2.keep s3).mono (by omega)) upd_same (((Keep.but b2 p1).trans (.same s3)).tup e1) (by omega) l4 fw (hR.keep (.same s3)) (by omega) (S1.keep (.same s3)) (S2.keep (.same s3)) rok
end
end K21

set_option Elab.async false
set_option linter.all false
set_option maxRecDepth 100000
namespace NB
open PySem PySem.Spec PyProof.Rows L2
section
variable {X : Cx}
/-- what stands at the keys of a dict of tuples of whole numbers -/
def KeyInts (ks : List (List Key)) (ns : List (List Int)) : Prop := ks = ns.map fun n => n.map Sum.inl
theorem kv_ints (n : List Int) : (n.map (Sum.inl : Int → Key)).map kV = n.map V.int := by
  rw [List.map_map]
  rfl
/-- sorted(d), d a dict of fewer than 64 tuples of whole numbers -/
def rSortD (d : Nat) (B : Int) : List V → Hp → VK → Prop := fun vs H Q => ∃ (a : Addr) (kvs : List (List Key × V)) (ns : List (List Int)), vs = [V.ref a] ∧ H a = some (.dT kvs) ∧
  kvs.map (·.1) = (ns.map fun n => n.map Sum.inl) ∧ ns.length < 64 ∧ (∀ n ∈ ns, n.length = d ∧ TS.Bd B n) ∧
  ∀ (L : List (Addr × List Int)) (p : Addr), (L.map (·.2)).Perm ns → (∀ z ∈ L, H z.1 = some (.tup (z.2.map V.int))) → L.Pairwise (fun y z => TS.code B y.2 ≤ TS.code B z.2) → H p = none → Q (.ref p) (upd H p (.lst (L.map fun z => V.ref z.1)))
theorem paired_at {α β : Type} {F : α → β → Prop} : ∀ {l₁ : List α} {l₂ : List β}, Paired F l₁ l₂ → ∀ (j : Nat) (x : α) (y : β), l₁[j]? = some x → l₂[j]? = some y → F x y
  | _, _, .nil, j, x, y, h, _ => by simp at h
  | _, _, .cons h t, 0, x, y, h1, h2 => by
    cases h1
    cases h2
    exact h
  | _, _, .cons h t, j + 1, x, y, h1, h2 => paired_at t j x y (by simpa using h1) (by simpa using h2)
/-- values that are addresses of tuples, put in another order -/
theorem back_refs {H : Hp} : ∀ {vs : List Value} {L : List (Addr × List Int)}, vs.Perm (L.map fun z => Value.ref z.1) → ∃ L' : List (Addr × List Int), L'.Perm L ∧ vs = L'.map fun z => Value.ref z.1 := fun {vs L} h => by
  have main : ∀ {us vs : List Value}, us.Perm vs → ∀ L : List (Addr × List Int), us = (L.map fun z => Value.ref z.1) → ∃ L' : List (Addr × List Int), L'.Perm L ∧ vs = L'.map fun z => Value.ref z.1 := by
    intro us vs h
    induction h with
    | nil => exact fun L e => ⟨L, .refl _, e⟩
    | cons x p ih =>
      intro L e
      cases L with
      | nil => cases e
      | cons z L =>
        simp only [List.map_cons, List.cons.injEq] at e
        obtain ⟨L', p', e'⟩ := ih L e.2
        exact ⟨z :: L', .cons _ p', by rw [e', e.1, List.map_cons]⟩
    | swap x y l =>
      intro L e
      match L, e with
      | z1 :: z2 :: L, e =>
        simp only [List.map_cons, List.cons.injEq] at e
        exact ⟨z2 :: z1 :: L, .swap _ _ _, by rw [e.1, e.2.1, e.2.2]; rfl⟩
    | trans p q ih1 ih2 =>
      intro L e
      obtain ⟨L1, p1, e1⟩ := ih1 L e
      obtain ⟨L2', p2, e2⟩ := ih2 L1 e1
      exact ⟨L2', p2.trans p1, e2⟩
  exact main h.symm L rfl
theorem sortD (hc : X.calm = true) {d : Nat} {B : Int} (hd1 : 1 ≤ d) : CallR X (.builtin "sorted") (rSortD d B) := by
  intro pins s σ H vs us Q I r h
  obtain ⟨a, kvs, ns, rfl, ha, hkeys, h64, hbd, q⟩ := h
  obtain ⟨u, rfl, rx⟩ := r.one
  cases rx
  obtain ⟨z, lo, ks, pr, o, es, ep, ho, hx, hdt, hen, hnd⟩ := (show ObjOk X.prog X.w H s.heap a (.dT kvs) from I.hok a _ ha)
  have l1 : es.size = ks.length := size_of_entries hen
  have l2 : kvs.length = ks.length := Paired.length pr
  have l3 : kvs.length = ns.length := by
    have e := congrArg List.length hkeys
    rwa [List.length_map, List.length_map] at e
  have few : es.size ≤ sizeLine := by rw [l1, ← l2, l3, sizeLine_eq]; omega
  refine Calls.call_function_entry PyProof.Rows.kind_sorted PyProof.Rows.plain_sorted PyProof.Rows.entry_sorted (PyProof.Rows.args_sorted1 _) ?_
  unfold Builtin.«sorted»
  refine wpAny_bind (m := checkCount "sorted" 1 1 _) (wpAny_pure ?_)
  refine wpAny_bind (PySem.W.kdu_collect (A := X.A.in1) (kdl_raw lo hx hdt) (I.ok.hd hc) ho few fun h1 tk acc kp it => ?_)
  -- the collected keys are the addresses of the key tuples
  have hal : acc.toList.length = ks.length := by rw [Array.length_toList, it.1]; exact l1
  let L0 : List (Addr × List Int) := (ks.map fun x => x.2.1).zip ns
  have lz : L0.length = ks.length := by
    show ((ks.map fun x => x.2.1).zip ns).length = _
    rw [List.length_zip, List.length_map]
    omega
  have eacc : acc.toList = L0.map fun y => Value.ref y.1 := by
    apply List.ext_getElem?
    intro j
    rw [List.getElem?_map]
    cases hj : acc.toList[j]? with
    | none =>
      have h0 := List.getElem?_eq_none_iff.mp hj
      rw [List.getElem?_eq_none (by omega)]
      rfl
    | some v =>
      obtain ⟨en, hen', hv⟩ := it.2 j v (by rw [← Array.getElem?_toList]; exact hj)
      have qe := entry_at hen j
      rw [hen'] at qe
      have hjl : j < ks.length := by
        have := (List.getElem?_eq_some_iff.mp hj).1
        omega
      have hjn : j < ns.length := by omega
      rw [List.getElem?_eq_getElem hjl] at qe
      have e2 : en = entryOfKey (tupleKind (mixKind X.prog X.w)) ks[j] := Option.some.inj qe
      have ez : L0[j]? = some (ks[j].2.1, ns[j]) := by
        show ((ks.map fun x => x.2.1).zip ns)[j]? = _
        exact List.getElem?_zip_eq_some.mpr ⟨by rw [List.getElem?_map, List.getElem?_eq_getElem hjl]; rfl, List.getElem?_eq_getElem hjn⟩
      rw [hv, e2, ez]
      rfl
  have hL2 : L0.map (·.2) = ns := List.map_snd_zip (by rw [List.length_map]; omega)
  have hT : ∀ y ∈ L0, H y.1 = some (.tup (y.2.map V.int)) ∧ y.2.length = d ∧ TS.Bd B y.2 := fun y hy => by
    obtain ⟨j, hj, ej⟩ := List.getElem_of_mem hy
    have hjk : j < ks.length := by omega
    have hjn : j < ns.length := by omega
    have hjv : j < kvs.length := by omega
    have hy' : L0[j]? = some (ks[j].2.1, ns[j]) := by
      show ((ks.map fun x => x.2.1).zip ns)[j]? = _
      exact List.getElem?_zip_eq_some.mpr ⟨by rw [List.getElem?_map, List.getElem?_eq_getElem hjk]; rfl, List.getElem?_eq_getElem hjn⟩
    rw [List.getElem?_eq_getElem hj, ej] at hy'
    have ey : y = (ks[j].2.1, ns[j]) := Option.some.inj hy'
    have kk := paired_at (isKeys_of pr) j kvs[j] ks[j].2.1 (List.getElem?_eq_getElem hjv) (by rw [List.getElem?_map, List.getElem?_eq_getElem hjk]; rfl)
    have ek : kvs[j].1 = ns[j].map Sum.inl := by
      have e := congrArg (fun l => l[j]?) hkeys
      simp only [List.getElem?_map, List.getElem?_eq_getElem hjv, List.getElem?_eq_getElem hjn, Option.map_some, Option.some.injEq] at e
      exact e
    rw [ek, kv_ints] at kk
    rw [ey]
    exact ⟨kk, hbd _ (List.getElem_mem hjn)⟩
  have I1 : Inv X pins σ H { s with heap := h1, toks := tk } := I.kept kp
  have raw : ∀ y ∈ L0, TS.TupInts h1 (.ref y.1) y.2 := fun y hy => tupI_raw I1 (.inl (.inl (hT y hy).1))
  refine wpAny_bind (wpAny_newList ?_ (by rw [hal, ← l2, l3, sizeLine_eq]; omega))
  have hoL : (h1.push (seqObj "list" acc.toList.toArray 0)).get? h1.objs.size = some (seqObj "list" acc.toList.toArray 0) := Heap.get?_push_size _ rfl
  have keep : ∀ b o', h1.get? b = some o' → o'.cls = .type "tuple" → (h1.push (seqObj "list" acc.toList.toArray 0)).get? b = some o' := fun b o' e _ => Heap.get?_push_of_some _ e
  have oks : TS.TupsOk h1 d B acc.toList := fun v hv => by
    rw [eacc] at hv
    obtain ⟨y, hy, rfl⟩ := List.mem_map.mp hv
    exact ⟨y.2, raw y hy, (hT y hy).2.1, (hT y hy).2.2⟩
  show wpAny _ _ _ _ _ { s with heap := h1.push (seqObj "list" acc.toList.toArray 0), toks := tk }
  refine wpAny_bind (wpAny_holding (wpAny_call_entry PyProof.Rows.slot_list_sort ⟨_, hoL, rfl⟩ PyProof.Rows.entry_list_sort
    (TS.sort_tups (s := { s with heap := h1.push (seqObj "list" acc.toList.toArray 0), toks := tk }) hoL (by rw [hal]; omega) hd1 (oks.keeps keep) (fun v => TS.code B (TS.intsOf h1 v)) (fun v hv n t => ?_) fun out g1 g2 => ⟨_, rfl, ?_⟩) (PyProof.Rows.args_list_sort _)))
  · obtain ⟨n0, t0, _⟩ := oks v hv
    have e : n = n0 := t.ints.symm.trans (t0.keeps keep).ints
    rw [e]
    show TS.code B (TS.intsOf h1 v) = TS.code B n0
    rw [t0.ints]
  rw [eacc] at g1
  obtain ⟨L', pL, eo⟩ := back_refs (H := H) g1
  have hm : ∀ y ∈ L', y ∈ L0 := fun y hy => pL.mem_iff.mp hy
  obtain ⟨e', he'⟩ := PyProof.Rows.sortedHeap_at (vs := acc.toList) (out := out) hoL
  have hlen : (L'.map fun y => V.ref y.1).length ≤ sizeLine := by
    rw [List.length_map, pL.length_eq, lz, ← l2, l3, sizeLine_eq]
    omega
  have hv' : Vals (L'.map fun y => V.ref y.1) out.toList := by rw [eo]; exact vals_of_refs L'
  refine wpAny_pure ⟨_, rfl, .ref h1.objs.size, upd H h1.objs.size (.lst (L'.map fun y => V.ref y.1)), I1.laid (t' := tk) (fun b u e => ?_) (Nat.le_refl _)
    (show ObjOk X.prog X.w _ _ _ (.lst (L'.map fun y => V.ref y.1)) from ⟨hlen, out.toList, e', hv', by rw [Array.toArray_toList]; exact he'⟩), rfl, q L' _ ?_ (fun y hy => (hT y (hm y hy)).1) ?_ (I1.hok.fresh (Nat.le_refl _))⟩
  · have hb : b < h1.objs.size := Heap.lt_size e
    rw [PyProof.Rows.sortedHeap_old (Nat.ne_of_lt hb) (by rw [size_push']; exact Nat.lt_succ_of_lt hb)]
    exact Heap.get?_push_of_some _ e
  · have p2 := pL.map (·.2)
    rw [hL2] at p2
    exact p2
  · rw [eo, List.pairwise_map] at g2
    refine List.Pairwise.imp_of_mem (fun {y z} hy hz h => ?_) g2
    have h' : TS.code B (TS.intsOf h1 (.ref y.1)) ≤ TS.code B (TS.intsOf h1 (.ref z.1)) := h
    rw [(raw y (hm y hy)).ints, (raw z (hm z hz)).ints] at h'
    exact h'
end
end NB

set_option Elab.async false
set_option linter.all false
set_option maxRecDepth 100000
namespace K21
open PySem PySem.Spec PyProof.Rows L2 NB

/-! ### a plan is equal to a plan -/
abbrev kEq : Stmt := inClass (topS 33) 1
theorem scEq : FnScope ["self", "other"] ["self", "other"] (defScope kEq) := ⟨rfl, rfl, rfl, by decide +kernel, rfl, by decide +kernel, by decide +kernel⟩
theorem kit_self {K : PySem.W.Frag} {C : Addr} : PySem.W.kitOne K (.ref C) (.ref C) = some true := by
  unfold PySem.W.kitOne
  refine if_pos ?_
  first | exact beq_self_eq_true _ | simp | (show (C == C) = true; simp)
/-- both are plans of like tops and rules -/
def LikePlans (C : Addr) (a b : Addr) (H : Hp) : Prop := ∃ tops rs, PlanAt C H a tops rs ∧ PlanAt C H b tops rs
theorem prs_ints {H : Hp} (xs : List Int) : Prs DFlat (xs.map V.int) (xs.map V.int) H := ⟨rfl, fun i x y h1 h2 => by
  rw [h1] at h2
  cases h2
  obtain ⟨n, _, rfl⟩ := mapGet h1
  exact ⟨rfl, rfl, by simp [eqV]⟩⟩
theorem like_sides {K : PySem.W.Frag} {H : Hp} {p p' : Addr} {s : Sd} (h : SideAt H p s) (h' : SideAt H p' s) : DTup K DFlat (.ref p) (.ref p') H := by
  refine ⟨p, p', _, _, rfl, rfl, .inl (.inl h), .inl (.inl h'), ?_⟩
  exact .cons ⟨rfl, rfl, by simp [eqV]⟩ (.cons ⟨rfl, rfl, by simp [eqV]⟩ (.cons ⟨rfl, rfl, by simp [eqV]⟩ .nil))
theorem like_rule {K : PySem.W.Frag} {H : Hp} {r r' : Addr} {q : Rl} (h : RuleAt H r q) (h' : RuleAt H r' q) : DTup K (DTup K DFlat) (.ref r) (.ref r') H := by
  obtain ⟨p1, p2, e, h1, h2⟩ := h
  obtain ⟨p1', p2', e', h1', h2'⟩ := h'
  exact ⟨r, r', _, _, rfl, rfl, .inl (.inl e), .inl (.inl e'), .cons (like_sides h1 h1') (.cons (like_sides h2 h2') .nil)⟩
theorem like_rules {K : PySem.W.Frag} {H : Hp} {R R' : Addr} {rs : List Rl} (h : RulesAt H R rs) (h' : RulesAt H R' rs) : DTup K (DTup K (DTup K DFlat)) (.ref R) (.ref R') H := by
  obtain ⟨as, e, l, f⟩ := h
  obtain ⟨as', e', l', f'⟩ := h'
  refine ⟨R, R', _, _, rfl, rfl, .inl (.inl e), .inl (.inl e'), by rw [List.length_map, List.length_map]; omega, fun i x y h1 h2 => ?_⟩
  obtain ⟨r, hr, rfl⟩ := mapGet h1
  obtain ⟨r', hr', rfl⟩ := mapGet h2
  have hi : i < rs.length := by
    have := (List.getElem?_eq_some_iff.mp hr).1
    omega
  exact like_rule (f i r _ hr (List.getElem?_eq_getElem hi)) (f' i r' _ hr' (List.getElem?_eq_getElem hi))
section
variable {P : Program} {w : World} {K : PySem.W.Frag} {mg : Str → Option Value} {base : Heap}
theorem ok_eq {f C : Addr} {fd : FuncData} {k : Nat} (F : Fun K "__eq__" "Plan.__eq__" kEq f fd) (T : PlanTxt K mg C) (IC : C8.InsC K C) (ms : mg "isinstance" = none) : FnOk P w K mg base CX0 (k + 4) f fd ["self", "other"] (spEq (LikePlans C)) := by
  refine F.ok scEq (fun vs H Q E h => ?_) (fun cdv A outer s H vs Q E hr h => ?_)
  · obtain ⟨a, b, rfl, _⟩ := h
    rfl
  · obtain ⟨a, b, rfl, ⟨tops, rs, ⟨dx, t, R, ex, et, eR⟩, ⟨dy, t', R', ey, et', eR'⟩⟩, q⟩ := h
    refine ⟨_, pss_one (ps_ret (pe_and (pe_callB (C8.call_isC IC) (by rfl) ms (by decide +kernel) (pa_cons (pv 1) (pa_cons (pe_glob (v := .ref C) rfl T.mgC rfl) pa_nil)))
      (pe_and (pe_cmpR (op_eqG (rcG_tup mon_flat eqG_flat) (hr.mono (by omega))) (pe_fld (pv 0) rfl) (pe_fld (pv 1) rfl) (nomark _))
        (pe_one (pe_cmpR (op_eqG (rcG_tup (mon_tup (mon_tup mon_flat)) (eqG_tup (mon_tup mon_flat) (eqG_tup mon_flat eqG_flat))) (hr.mono (by omega))) (pe_fld (pv 0) rfl) (pe_fld (pv 1) rfl) (nomark _)))))), ?_⟩
    refine ⟨.ref b, rfl, b, dy, _, rfl, ey, true, rfl, iteT ?_⟩
    refine ⟨.ref a, rfl, a, C, dx, _, _, rfl, ex, T.cl, T.nT, look_tops _ _, .ref b, rfl, b, C, dy, _, _, rfl, ey, T.cl, T.nT, look_tops _ _, ?_⟩
    refine ⟨⟨t, t', _, _, rfl, rfl, .inl (.inl et), .inl (.inl et'), prs_ints tops⟩, fun H1 e1 => ⟨true, rfl, iteT ?_⟩⟩
    have s1 : Same H H1 := e1
    refine ⟨.ref a, rfl, a, C, dx, _, _, rfl, s1 _ _ ex, T.cl, T.nR, look_rules _ _, .ref b, rfl, b, C, dy, _, _, rfl, s1 _ _ ey, T.cl, T.nR, look_rules _ _, ?_⟩
    exact ⟨like_rules (eR.keep (.same s1)) (eR'.keep (.same s1)), fun H2 e2 => q H2 (e1.trans e2)⟩
end
end K21

set_option Elab.async false
set_option linter.all false
set_option maxRecDepth 100000
namespace NB
open PySem PySem.Spec PyProof.Rows L2
section
variable {X : Cx}
/-- the whole numbers a, a - 1, .. down to above b -/
def dnV (a b : Int) : List V := (List.range (a - b).toNat).map fun i => V.int (a - (i : Nat))
/-- list(range(a, b, c)), c being -1 -/
def tLstDn (ta : TA) : TE := fun σ H Q => ta σ H fun vs H1 => ∃ a b : Int, vs = [.int a, .int b, .int (-1)] ∧ (-(2 ^ 62) ≤ a ∧ a < 2 ^ 62 ∧ -(2 ^ 62) ≤ b ∧ b < 2 ^ 62 ∧ (a - b).toNat ≤ 2 ^ 24) ∧ ∀ q, H1 q = none → Q (.ref q) (upd H1 q (.lst (dnV a b)))
theorem pe_listDn {x y z : Expr} {ta : TA} {p p' pos pos' : Pos} (hc : X.calm = true) (hl : Gl X "list") (ml : X.mg "list" = none) (hg : Gl X "range") (hm : X.mg "range" = none) (ha : PA X [x, y, z] ta)
    (hs : starEach [x, y, z] X.env = (false, eval x X.env) :: starEach [y, z] X.env := by rfl) (hpl : (backTo pos (starEach [y, z] X.env)).any (·.1) = false := by rfl)
    (na : starEach [Expr.Call (.Name "range" p) [x, y, z] [] pos] X.env = (false, eval (.Call (.Name "range" p) [x, y, z] [] pos) X.env) :: starEach [] X.env := by rfl) :
    PE X (.Call (.Name "list" p') [.Call (.Name "range" p) [x, y, z] [] pos] [] pos') (tLstDn ta) := by
  refine ⟨fun pins s σ H Q I h => ?_⟩
  refine Call_ (ld_blt I hl ml boot_list (PyProof.Rows.callWith_type1 (args_cons ?_ na) na))
  refine Call_ (ld_blt I hg hm boot_range (PyProof.Rows.callWith_type1 (thn (ha.run pos pins s σ H _ I h) fun us s1 ⟨vs, H1, I1, r1, q1⟩ => ?_) hs hpl))
  obtain ⟨i, j, rfl, ⟨b1, b2, b3, b4, b5⟩, q⟩ := q1
  cases r1 with
  | cons r rr =>
    cases rr with
    | cons r' rr =>
      cases rr with
      | cons r'' rr =>
        cases rr
        obtain ⟨t, rfl⟩ := r
        obtain ⟨t', rfl⟩ := r'
        obtain ⟨t'', rfl⟩ := r''
        have C := RgC.neg b1 b2 b3 b4
        refine call_range_3 C.1 ?_ (.inl (PyProof.noPylong_small C.2.1))
        have I2 : Inv X pins σ H1 { s1 with heap := s1.heap.push { cls := .type "range", data := .fields #[.int i t, .int j t', .int (-1) t''] } } := I1.kept (t' := s1.toks) fun b o e => Heap.get?_push_of_some _ e
        refine args_nil ?_
        refine call_list_range (n := (i - j).toNat) (I2.ok.hd hc) (IsRange.new ..) C.2.2.1 C.2.2.2 b5 fun h2 tk acc c' hk e' hi => ?_
        have el : acc.toList.length = (i - j).toNat := by rw [Array.length_toList]; exact hi.1
        have hv : Vals (dnV i j) acc.toList := by
          unfold dnV
          rw [← el]
          refine vals_of_get acc.toList _ fun k u hk => ?_
          obtain ⟨tt, rfl⟩ := hi.2 k u (by rw [← hk, Array.getElem?_toList])
          exact ⟨tt, by congr 1; omega⟩
        refine ⟨.ref _, upd H1 _ (.lst (dnV i j)), I2.laid hk (Nat.le_refl _) (show ObjOk X.prog X.w _ _ _ (.lst (dnV i j)) from ⟨?_, acc.toList, c', hv, ?_⟩), rfl, q _ (I2.hok.fresh (Nat.le_refl _))⟩
        · unfold dnV
          rw [List.length_map, List.length_range, sizeLine_eq]
          omega
        · rw [Array.toArray_toList]
          exact e'
end
end NB

set_option Elab.async false
set_option linter.all false
set_option maxRecDepth 100000
namespace K21
open PySem PySem.Spec PyProof.Rows L2 NB

/-! ### one thing at another place: t[:i] + (x,) + t[i + 1:] -/
theorem cut_to {K : PySem.W.Frag} {H : Hp} {p : Addr} {vs : List V} {c : Nat} {Q : VK} (h : H p = some (.tup vs)) (hc : c ≤ vs.length) (q : ∀ g H', Same H H' → H' g = some (.tup (vs.take c)) → Q (.ref g) H') : rSlA K (.ref p) none (some (c : Int)) H Q := by
  have e1 : HT.sIx vs.length vs.length (some (c : Int)) = c := by
    rw [HT.sIx_nat]
    omega
  refine ⟨p, _, rfl, .inl (.inl h), fun w => ?_, fun w g ng => ?_⟩
  · rw [e1] at w
    refine q p H (Same.refl H) ?_
    rw [List.take_of_length_le (by omega)]
    exact h
  · refine q g _ (same_new ng) ?_
    rw [upd_same]
    unfold cutV
    rw [e1, HT.sIx_none, List.drop_zero]
    rfl
theorem cut_from {K : PySem.W.Frag} {H : Hp} {p : Addr} {vs : List V} {c : Nat} {Q : VK} (h : H p = some (.tup vs)) (hc : c ≤ vs.length) (q : ∀ g H', Same H H' → H' g = some (.tup (vs.drop c)) → Q (.ref g) H') : rSlA K (.ref p) (some (c : Int)) none H Q := by
  have e1 : HT.sIx vs.length 0 (some (c : Int)) = c := by
    rw [HT.sIx_nat]
    omega
  refine ⟨p, _, rfl, .inl (.inl h), fun w => ?_, fun w g ng => ?_⟩
  · rw [e1] at w
    refine q p H (Same.refl H) ?_
    rw [w.1, List.drop_zero]
    exact h
  · refine q g _ (same_new ng) ?_
    rw [upd_same]
    unfold cutV
    rw [e1, HT.sIx_none, List.take_of_length_le (by rw [List.length_drop]; exact Nat.le_refl _)]
theorem cat_tups {K : PySem.W.Frag} {H : Hp} {a b : Addr} {xs ys : List V} {Q : VK} (ha : H a = some (.tup xs)) (hb : H b = some (.tup ys)) (hz : xs.length + ys.length ≤ sizeLine) (q : ∀ g H', Same H H' → H' g = some (.tup (xs ++ ys)) → Q (.ref g) H') : rCatA K (.ref a) (.ref b) H Q := by
  refine ⟨a, b, xs, ys, rfl, rfl, .inl (.inl ha), .inl (.inl hb), hz, fun e => ?_, fun _ e => ?_, fun _ _ g ng => q g _ (same_new ng) upd_same⟩
  · subst e
    exact q b H (Same.refl H) hb
  · subst e
    exact q a H (Same.refl H) (by rw [List.append_nil]; exact ha)
abbrev tMoved (K : PySem.W.Frag) (a i x : Nat) : TE := tOp (rCatA K) (tOp (rCatA K) (tSl (rSlA K) (tVar a) tNoPart (tPart (tVar i))) (tTup (tCons (tVar x) tNil))) (tSl (rSlA K) (tVar a) (tPart (tOp (rI0 fun i j => .int (i + j)) (tVar i) (tC (.int 1)))) tNoPart)
theorem set_cut {α : Type} {xs : List α} {n : Nat} {v : α} (h : n < xs.length) : (xs.take n ++ [v]) ++ xs.drop (n + 1) = xs.set n v := by
  rw [List.set_eq_take_append_cons_drop, if_pos h, List.append_assoc]
  rfl
theorem moved_val {K : PySem.W.Frag} {σ : L2.St} {H : Hp} {Q : VK} {a i x n : Nat} {p : Addr} {v : Int} {xs : List Int} (ha : σ[a]? = some (some (.ref p))) (hi : σ[i]? = some (some (.int (n : Int)))) (hx : σ[x]? = some (some (.int v))) (e : H p = some (.tup (xs.map V.int))) (hn : n < xs.length) (l12 : xs.length ≤ 12)
    (q : ∀ g H', Same H H' → H' g = some (.tup ((xs.set n v).map V.int)) → Q (.ref g) H') : tMoved K a i x σ H Q := by
  have lm : (xs.map V.int).length = xs.length := List.length_map _
  refine ⟨.ref p, ha, ?_⟩
  show tNoPart _ _ _
  unfold tNoPart
  refine ⟨.int n, hi, n, rfl, cut_to e (by omega) fun g1 H1 s1 e1 => ?_⟩
  refine ⟨.int v, hx, (show 1 ≤ sizeLine by decide), fun g2 n2 => ?_⟩
  have s2 := same_new (o := HO.tup [V.int v]) n2
  refine cat_tups (s2 _ _ e1) upd_same (Nat.le_of_lt (small1000 (by rw [List.length_take]; simp only [List.length_cons, List.length_nil]; omega))) fun g3 H3 s3 e3 => ?_
  have s03 := (s1.trans s2).trans s3
  refine ⟨.ref p, ha, .int n, hi, n, 1, rfl, rfl, n + 1, by rfl, ?_⟩
  show rSlA _ _ (some ((n : Int) + 1)) none _ _
  have ec : ((n : Int) + 1) = ((n + 1 : Nat) : Int) := by omega
  rw [ec]
  refine cut_from (s03 _ _ e) (by omega) fun g4 H4 s4 e4 => ?_
  refine cat_tups (s4 _ _ e3) e4 (Nat.le_of_lt (small1000 (by rw [List.length_append, List.length_take, List.length_drop]; simp only [List.length_cons, List.length_nil]; omega))) fun g5 H5 s5 e5 => ?_
  refine q g5 H5 ((s03.trans s4).trans s5) ?_
  rw [e5, set_cut (by omega), List.map_set]
end K21

set_option Elab.async false
set_option linter.all false
set_option maxRecDepth 100000
set_option maxHeartbeats 1000000
/-! What a plain search wants: sorted of any number of tuples, dicts whose keys are tuples. -/
namespace SrtO
open PySem PyProof.Rows Srt
section
variable {prog : Program} {w : World} {A : Around} {E : Value → Shared → Prop} {s : Shared}
def rkT (h : Heap) (B : Int) (v : Value) : Int := TS.code B (TS.intsOf h v)
theorem swo_rk (r : Value → Int) : Swo fun v u => decide (r v < r u) := by
  refine ⟨fun x y h => ?_, fun x y z h1 h2 => ?_⟩
  · have a := of_decide_eq_true h
    exact decide_eq_false (by omega)
  · have a := of_decide_eq_false h1
    have b := of_decide_eq_false h2
    exact decide_eq_false (by omega)
theorem tups_cmp {d : Nat} {B : Int} {vs : List Value} {r : Value → Int} (x : TS.TupsOk s.heap d B vs) (hr : ∀ v, v ∈ vs → ∀ ns, TS.TupInts s.heap v ns → r v = TS.code B ns) : Cmp prog w A s (tuples' true) (fun p => p.1 ∈ vs) (lt2 fun v u => decide (r v < r u)) := by
  intro p q hp hq
  obtain ⟨ns, tp, lp, bp⟩ := x _ hp
  obtain ⟨ms, tq, lq, bq⟩ := x _ hq
  have ep := hr _ hp _ tp
  have eq2 := hr _ hq _ tq
  show wpAny (model prog w) A (keyLt' (tuples' true) p.1 q.1) (fun b s' => s' = s ∧ b = decide (r p.1 < r q.1)) (fun _ _ => False) s
  rw [ep, eq2]
  obtain ⟨a, xs, e1, ⟨o, ho, hc, n, hdt⟩, i⟩ := tp
  obtain ⟨a', ys, e2, ⟨o', ho', hc', n', hdt'⟩, i'⟩ := tq
  rw [e1, e2]
  refine PySem.W.kat_lt ho hdt ho' hdt' ?_
  have sz : decide (xs.size < ys.size) = false := by
    have l1 := i.length
    have l2 := i'.length
    rw [Array.length_toList] at l1 l2
    exact decide_eq_false (by omega)
  rw [sz]
  exact TS.lex_ints 0 i i' (by omega) bp bq ⟨rfl, rfl⟩
theorem tups_sortableO {a : Addr} {vs : List Value} {d : Nat} {B : Int} {r : Value → Int} (hd1 : 1 ≤ d) (h2 : 2 ≤ vs.length) (x : TS.TupsOk s.heap d B vs) (hr : ∀ v, v ∈ vs → ∀ ns, TS.TupInts s.heap v ns → r v = TS.code B ns) (ha : ∀ o, s.heap.get? a = some o → o.cls ≠ .type "tuple") :
    SortableO prog w A s a vs fun v u => decide (r v < r u) := by
  intro h' keep
  have kp : ∀ b o, s.heap.get? b = some o → o.cls = .type "tuple" → h'.get? b = some o := fun b o e c => keep b o (fun z => by subst z; exact ha o e c) e
  have x' : TS.TupsOk h' d B vs := x.keeps kp
  obtain ⟨fs, h1, hl, h3⟩ := TS.firsts_of hd1 vs x'
  refine ⟨tuples' true, fun Q E hq => ?_, tups_cmp (s := { s with heap := h' }) x' fun v hv ns t => ?_⟩
  · refine PySem.W.kat_kind (T := .type "int") h1 (by omega) (fun f hm => ?_) (by rfl) ?_
    · obtain ⟨n, t, rfl⟩ := h3 f hm
      exact PySem.W.Looks.of_pure rfl
    · have e : (Value.type "int" != Value.type "tuple") = true := by first | decide +kernel | rfl | decide
      rw [e]
      exact hq
  · obtain ⟨ns0, t0, _⟩ := x v hv
    have e : ns = ns0 := t.ints.symm.trans (t0.keeps kp).ints
    rw [e]
    exact hr v hv ns0 t0
end
end SrtO

namespace NB
open PySem PySem.Spec PyProof.Rows L2
/-- sorted(xs), xs a list of tuples of d whole numbers each: a new list of the same ones -/
def rSortTT (K : PySem.W.Frag) (d : Nat) (B : Int) : List V → Hp → VK → Prop := fun vs H Q => ∃ (a : Addr) (L : List (Addr × List Int)), vs = [V.ref a] ∧ SqL K H a (L.map fun z => V.ref z.1) ∧ (∀ z ∈ L, H z.1 = some (.tup (z.2.map V.int)) ∧ z.2.length = d ∧ TS.Bd B z.2) ∧
  ∀ (ys : List V) (p : Addr), ys.Perm (L.map fun z => V.ref z.1) → H p = none → Q (.ref p) (upd H p (.lst ys))
section
variable {X : Cx}
theorem cr_sortTT {d : Nat} {B : Int} (hd1 : 1 ≤ d) : CallR X (.builtin "sorted") (rSortTT X.K d B) := by
  intro pins s σ H vs us Q I r h
  obtain ⟨a, L, rfl, hs, hx, q⟩ := h
  obtain ⟨its, rv, hl, hz⟩ := I.list hs
  obtain ⟨u, rfl, ru⟩ := vals1 r
  obtain rfl : u = Value.ref a := ru
  obtain ⟨e1, e2⟩ := refs_back rv fun x m => by
    obtain ⟨z, _, e⟩ := List.mem_map.mp m
    exact ⟨z.1, e.symm⟩
  have ok : TS.TupsOk s.heap d B its := fun v hv => by
    obtain ⟨t, rfl⟩ := e2 v hv
    have hm : V.ref t ∈ L.map fun z => V.ref z.1 := by rw [e1]; exact List.mem_map.mpr ⟨_, hv, rfl⟩
    obtain ⟨z, hz, e⟩ := List.mem_map.mp hm
    obtain ⟨ht, hn, hb⟩ := hx z hz
    have e' : z.1 = t := V.ref.inj e
    subst e'
    obtain ⟨its2, r2, p2, _⟩ := I.tuple (.inl (.inl ht))
    exact ⟨z.2, ⟨z.1, _, rfl, p2, by simpa using r2.ints⟩, hn, hb⟩
  refine SrtO.sorted_ord (SrtO.swo_rk fun v => TS.code B (TS.intsOf s.heap v)) hl.isList (by rw [← rv.length]; exact hz) (fun h2 h₁ a' ha' kk => ?_) fun out h1 h2 => ?_
  · have kp : ∀ b o, s.heap.get? b = some o → o.cls = .type "tuple" → h₁.get? b = some o := fun b o e _ => (kk b o e).2
    refine SrtO.tups_sortableO (s := { s with heap := h₁ }) hd1 h2 (ok.keeps kp) (fun v hv ns t => ?_) fun o e => ?_
    · obtain ⟨ns0, t0, _⟩ := ok v hv
      have e : ns = ns0 := t.ints.symm.trans (t0.keeps kp).ints
      rw [e, t0.ints]
    · have e' : some o = some (seqObj "list" its.toArray 0) := e.symm.trans ha'
      cases e'
      intro c
      exact absurd (Value.type.inj c) (by decide)
  · have h3 : ∀ u ∈ out, ∃ a, u = Value.ref a := fun u hu => e2 u (h2.perm.mem_iff.mp hu)
    obtain ⟨ep, he'⟩ := PyProof.Rows.sortedAll_at s.heap its out.toArray
    have hp : (out.map backV).Perm (L.map fun z => V.ref z.1) := by
      rw [e1]
      exact h2.perm.map backV
    refine ⟨.ref _, upd H (s.heap.objs.size + 1) (.lst (out.map backV)), I.laid (t' := s.toks) (fun _ _ => PyProof.Rows.sortedAll_old) (Nat.le_succ _) ⟨?_, out, ep, vals_back h3, he'⟩, rfl, q _ _ hp (I.hok.fresh (Nat.le_succ _))⟩
    rw [hp.length_eq]
    exact hz
/-- a dict made of pairs, each key a tuple -/
def putAll (ms : List (List Key × V)) : List (List Key × V) := ms.foldl (fun acc kv => putK acc kv.1 kv.2) []
theorem KT.putAll {H : Hp} {ms : List (List Key × V)} {ps : List (List Key × Addr × Value)} (r : Paired (fun m p => m.1 = p.1 ∧ H p.2.1 = some (.tup (p.1.map kV)) ∧ L2.RelV m.2 p.2.2) ms ps) : ∀ {acc : List (List Key × V)} {xs : List (List Key × Addr × Value)}, KT H acc xs →
    KT H (ms.foldl (fun acc kv => putK acc kv.1 kv.2) acc) (storedAllH xs ps) := by
  induction r with
  | nil => exact fun h => h
  | @cons m p ms ps h t ih =>
    intro acc xs hk
    have e : KT H (putK acc m.1 m.2) (storedH xs p.1 p.2.1 p.2.2) := by
      rw [h.1]
      exact hk.put p.1 h.2.1 h.2.2
    exact ih e
theorem putAll_len : ∀ (ms acc : List (List Key × V)), (ms.foldl (fun acc kv => putK acc kv.1 kv.2) acc).length ≤ acc.length + ms.length
  | [], acc => by simp
  | m :: ms, acc => by
    have h1 := putAll_len ms (putK acc m.1 m.2)
    have h2 := length_putK acc m.1 m.2
    rw [List.foldl_cons, List.length_cons]
    omega
/-- dict(xs), xs a list of pairs (tuple, value) -/
theorem call_dictT (hcalm : X.calm = true) (hu : X.A.units + 8 < cLine) : CallR X (.type "dict") (fun xs H Q => ∃ (a : Addr) (L : List (Addr × Addr × List Key × V)), xs = [.ref a] ∧ H a = some (.lst (L.map fun z => V.ref z.1)) ∧ (∀ z ∈ L, H z.1 = some (.tup [.ref z.2.1, z.2.2.2]) ∧ H z.2.1 = some (.tup (z.2.2.1.map kV))) ∧
    ∀ p, H p = none → Q (.ref p) (upd H p (.dT (putAll (L.map fun z => (z.2.2.1, z.2.2.2)))))) := by
  intro pins s σ H xs us Q I r q
  obtain ⟨a, L, ex, hq, hp, q⟩ := q
  subst ex
  obtain ⟨u, eu, rx⟩ := vals1 r
  subst eu
  cases rx
  obtain ⟨its, rv, pl, hz⟩ := I.list (.inl (.inl hq))
  have ei : its = L.map fun z => Value.ref z.1 := by
    have e : (L.map fun z => V.ref z.1) = (L.map (·.1)).map V.ref := by rw [List.map_map]; rfl
    rw [e] at rv
    rw [refs_at rv, List.map_map]
    rfl
  subst ei
  rw [List.length_map] at hz
  -- the pairs as they stand in the machine
  have mk : ∀ (M : List (Addr × Addr × List Key × V)), (∀ z ∈ M, z ∈ L) → ∃ ps : List (List Key × Addr × Value), Paired (fun m p => m.1 = p.1 ∧ H p.2.1 = some (.tup (p.1.map kV)) ∧ RelV m.2 p.2.2) (M.map fun z => (z.2.2.1, z.2.2.2)) ps ∧ ps.length = M.length ∧
      ∀ (j : Nat) (p : List Key × Addr × Value), ps[j]? = some p → ∃ z, M[j]? = some z ∧ p.1 = z.2.2.1 ∧ p.2.1 = z.2.1 ∧ IsTup s.heap z.1 #[.ref p.2.1, p.2.2] := by
    intro M
    induction M with
    | nil => exact fun _ => ⟨[], .nil, rfl, fun j p e => by simp at e⟩
    | cons z M ih =>
      intro hM
      obtain ⟨ps, h1, h2, h3⟩ := ih fun y hy => hM y (List.mem_cons_of_mem _ hy)
      obtain ⟨hz1, hz2⟩ := hp z (hM z List.mem_cons_self)
      obtain ⟨its2, r2, p2, _⟩ := I.tuple (.inl (.inl hz1))
      obtain ⟨u1, u2, rfl, ra, rb⟩ := vals2 r2
      obtain rfl : u1 = Value.ref z.2.1 := ra
      refine ⟨(z.2.2.1, z.2.1, u2) :: ps, .cons ⟨rfl, hz2, rb⟩ h1, by rw [List.length_cons, List.length_cons, h2], fun j p e => ?_⟩
      cases j with
      | zero =>
        have e' : (z.2.2.1, z.2.1, u2) = p := Option.some.inj e
        subst e'
        exact ⟨z, rfl, rfl, rfl, p2⟩
      | succ j => exact h3 j p (by simpa using e)
  obtain ⟨ps, rel, hl, hps⟩ := mk L fun z hz => hz
  obtain ⟨o, n, ho, hc, hd, hdat⟩ := pl
  have items : PairItems s.heap (L.map fun z => Value.ref z.1).toArray (fun j => (L.getD j (0, 0, [], .non)).1) (ps.map fun p => (Value.ref p.2.1, p.2.2)) := by
    refine ⟨by simp [hl], fun j k v e => ?_⟩
    rw [List.getElem?_map] at e
    cases ej : ps[j]? with
    | none => rw [ej] at e; cases e
    | some p =>
      rw [ej] at e
      have e' : (Value.ref p.2.1, p.2.2) = (k, v) := Option.some.inj e
      cases e'
      obtain ⟨z, hz1, _, _, hz4⟩ := hps j p ej
      have eg : L.getD j (0, 0, [], .non) = z := by rw [List.getD_eq_getElem?_getD, hz1]; rfl
      refine ⟨by simp [hz1, eg], .inl ?_⟩
      show s.heap.IsTuple (L.getD j (0, 0, [], .non)).1 _
      rw [eg]
      exact hz4
  have hst : KeysStay (tupleKind (mixKind X.prog X.w)) s.heap s.heap.objs.size [] ps := fun h' hk x hx => by
    obtain ⟨j, hj, e⟩ := List.getElem_of_mem hx
    obtain ⟨z, hz1, e1, e2, _⟩ := hps j x (by rw [List.getElem?_eq_getElem hj, e])
    have hz2 := (hp z (List.mem_of_getElem? hz1)).2
    rw [e1, e2]
    obtain ⟨_, its3, r3, o3, q1, q2, n3, q3⟩ := (show ObjOk X.prog X.w H s.heap z.2.1 (.tup (z.2.2.1.map kV)) from I.hok _ _ hz2)
    exact ⟨o3, its3.toArray, n3, hk _ _ (Nat.ne_of_lt (Heap.lt_size q1)) (by simp) q1, q2, q3, by simpa using items_are r3⟩
  refine PySem.call_dict_pairsH (knd := tupleKind (mixKind X.prog X.w)) (ps := ps) (PairArg.list a _ _ (ps.map fun p => (Value.ref p.2.1, p.2.2))) (I.ok.hd hcalm) (tupleKind_room_in1 (A := X.A.in1) (by show X.A.units + 1 + 1 < cLine; omega)) ⟨⟨o, n, ho, hc, hd, hdat⟩, items⟩ ⟨by rw [List.length_map], fun i key v e => ?_⟩ hst (by rw [List.length_map, hl]; exact hz) fun h' tk hd' k => ?_
  · have e' : (ps.map fun p => (Value.ref p.2.1, p.2.2))[i]? = some (key, v) := e
    rw [List.getElem?_map] at e'
    cases ej : ps[i]? with
    | none => rw [ej] at e'; cases e'
    | some p =>
      rw [ej] at e'
      have e2 : (Value.ref p.2.1, p.2.2) = (key, v) := Option.some.inj e'
      cases e2
      exact ⟨p.1, p.2.1, rfl, rfl⟩
  · have hm : (s.heap.objs.size == sysModules) = false := beq_eq_false_iff_ne.mpr (Nat.ne_of_gt I.big)
    have hlen : (putAll (L.map fun z => (z.2.2.1, z.2.2.2))).length ≤ sizeLine := by
      have := putAll_len (L.map fun z => (z.2.2.1, z.2.2.2)) []
      rw [List.length_nil, List.length_map] at this
      unfold putAll
      omega
    have nw := I.hok.fresh (Nat.le_refl s.heap.objs.size)
    have kt : KT (upd H s.heap.objs.size (.dT (putAll (L.map fun z => (z.2.2.1, z.2.2.2))))) (putAll (L.map fun z => (z.2.2.1, z.2.2.2))) (storedAllH [] ps) := (KT.putAll (acc := []) (xs := []) rel .nil).keeps fun b ys e => by
      rw [upd_ne (ne_of_none e nw)]
      exact e
    obtain ⟨q', es, ep, g1, g2, g3, g4, _, g5⟩ := hd'
    exact ⟨.ref s.heap.objs.size, upd H s.heap.objs.size (.dT (putAll (L.map fun z => (z.2.2.1, z.2.2.2)))), I.laid (t' := tk) (fun b o e => k b o (by simp) e) (Nat.le_refl _) (show ObjOk X.prog X.w _ _ _ (.dT (putAll (L.map fun z => (z.2.2.1, z.2.2.2)))) from ⟨hlen, hm, _, kt, q', es, ep, g1, g2, g3, g4, g5⟩), rfl, q _ nw⟩
/-- {t: v}, t a tuple -/
def tDispT (tk tv : TE) : TE := fun σ H Q => ∀ p, H p = none → tk σ (upd H p (.dT [])) fun x H1 => tv σ H1 fun y H2 => ∃ (b : Addr) (k : List Key), x = .ref b ∧ H2 b = some (.tup (k.map kV)) ∧ H2 p = some (.dT []) ∧ Q (.ref p) (upd H2 p (.dT [(k, y)]))
theorem pe_dispT {pos : Pos} {ke ve : Expr} {tk tv : TE} (hk : PE X ke tk) (hv : PE X ve tv) (hu : X.A.units + 8 < cLine) : PE X (.Dict [some ke] [ve] pos) (tDispT tk tv) := by
  refine ⟨fun pins s σ H Q I q => ?_⟩
  have hn := I.hok.fresh (Nat.le_refl s.heap.objs.size)
  have hsys : (s.heap.objs.size == sysModules) = false := beq_eq_false_iff_ne.mpr (Nat.ne_of_gt I.big)
  have I1 := I.laid (a := s.heap.objs.size) (o := .dT []) (h' := s.heap.push { cls := .type "dict", data := .dict #[] }) (t' := s.toks) (fun _ _ q => Heap.get?_push_of_some _ q) (Nat.le_refl _)
    (show ObjOk X.prog X.w _ _ _ (.dT []) from ⟨Nat.zero_le _, hsys, [], .nil, by
      obtain ⟨o, es, ep, g1, g2, g3, g4, _, g5⟩ := (Heap.DictOfH.new (knd := tupleKind (mixKind X.prog X.w)) s.heap)
      exact ⟨o, es, ep, g1, g2, g3, g4, g5⟩⟩)
  refine wpAny_Dict_any (by rfl) (by rfl) (by intro z; cases z) (show 1 ≤ 15 by decide) ?_
  refine pairTrees_cons_walk (thn (hk.run pins _ σ _ _ I1 (q _ hn)) fun u s1 ⟨x, H1, J1, rx, q1⟩ => thn (hv.run pins s1 σ H1 _ J1 q1) fun w2 s2 ⟨y, H2, J2, ry, q2⟩ => pairTrees_nil_walk ?_)
  obtain ⟨b, k, rfl, eb, ep, q3⟩ := q2
  cases rx
  obtain ⟨z, hd, xs, rel, dd⟩ := dt_of J2.hok ep
  cases rel
  refine wpAny_bind (wpAny_bind (wpAny_dictSet_heap (knd := tupleKind (mixKind X.prog X.w)) (hsz := Nat.zero_le _) (show X.A.units < cLine by omega) (key_of J2.hok eb) dd fun h' dd' hs => wpAny_pure ?_))
  refine wpAny_pure ?_
  obtain ⟨q', es, ep', g1, g2, g3, g4, _, g5⟩ := dd'
  refine ⟨.ref s.heap.objs.size, _, d_write (t' := _) J2 (by rw [ep]; exact True.intro) hs ⟨q', g1⟩ (ob := .dT [(k, y)]) ⟨(show 1 ≤ sizeLine by decide), hd, _, .cons ⟨rfl, ?_, ry⟩ .nil, q', es, ep', g1, g2, g3, g4, g5⟩, rfl, q3⟩
  rw [upd_ne (ne_of eb ep (fun z => nomatch z))]
  exact eb
end
end NB

set_option Elab.async false
set_option linter.all false
set_option maxRecDepth 100000
namespace K21
open PySem PySem.Spec PyProof.Rows L2 NB

/-! ### places, good standings: mathematics alone -/
abbrev plc (st : List Int) (i : Nat) : Int := st.getD i 0
theorem plc_set_self {st : List Int} {i : Nat} {x : Int} (h : i < st.length) : plc (st.set i x) i = x := by
  unfold plc
  rw [List.getD_eq_getElem?_getD, List.getElem?_set_self h]
  rfl
theorem plc_set_ne {st : List Int} {i j : Nat} {x : Int} (h : i ≠ j) : plc (st.set i x) j = plc st j := by
  unfold plc
  rw [List.getD_eq_getElem?_getD, List.getD_eq_getElem?_getD, List.getElem?_set_ne h]
theorem plc_get {st : List Int} {i : Nat} (h : i < st.length) : plc st i = st[i] := by
  unfold plc
  rw [List.getD_eq_getElem?_getD, List.getElem?_eq_getElem h]
  rfl
theorem wipe_one {σ : L2.St} {k : Nat} {v : Option V} {n : Str} : wipe ((wipe σ ([(n, k)].map (·.2))).set k v) ([(n, k)].map (·.2)) = wipe σ ([(n, k)].map (·.2)) := by
  show ((σ.set k none).set k v).set k none = σ.set k none
  rw [List.set_set, List.set_set]
theorem tst_in {xs : List Int} {s : Sd} (h : s.1 < xs.length) : inB xs s = if s.2.1 then decide (s.2.2 ≤ plc xs s.1) else decide (plc xs s.1 ≤ s.2.2) := by
  unfold inB
  rw [List.getElem?_eq_getElem h, plc_get h]
def Btw (a x b : Int) : Prop := min a b ≤ x ∧ x ≤ max a b
def Good (rs : List Rl) (st : List Int) : Prop := ∀ q ∈ rs, kept st q = true
theorem plc_app (a : List Int) (x : Int) (j : Nat) : plc (a ++ [x]) j = if j < a.length then plc a j else if j = a.length then x else 0 := by
  unfold plc
  rw [List.getD_eq_getElem?_getD, List.getD_eq_getElem?_getD]
  by_cases c : j < a.length
  · rw [if_pos c, List.getElem?_append_left c]
  · rw [if_neg c, List.getElem?_append_right (by omega)]
    by_cases d : j = a.length
    · rw [if_pos d, d, Nat.sub_self]
      rfl
    · rw [if_neg d, List.getElem?_eq_none (by simp only [List.length_cons, List.length_nil]; omega)]
      rfl
theorem plc_ext {a b : List Int} (l : a.length = b.length) (h : ∀ i, i < a.length → plc a i = plc b i) : a = b := by
  refine List.ext_getElem l fun i x y => ?_
  have := h i x
  rwa [plc_get x, plc_get y] at this
def ext1 (t : Int) (s : List Int) : List (List Int) := (List.range (t + 1).toNat).map fun p : Nat => s ++ [((p : Nat) : Int)]
def bx (tops : List Int) : Nat → List (List Int)
  | 0 => [[]]
  | i + 1 => (bx tops i).flatMap (ext1 (plc tops i))
theorem bx_mem (tops : List Int) : ∀ (i : Nat) (s : List Int), s ∈ bx tops i ↔ s.length = i ∧ ∀ j, j < i → 0 ≤ plc s j ∧ plc s j ≤ plc tops j
  | 0, s => by
    show s ∈ [[]] ↔ _
    rw [List.mem_singleton]
    constructor
    · rintro rfl
      exact ⟨rfl, fun j h => absurd h (Nat.not_lt_zero _)⟩
    · rintro ⟨h, _⟩
      exact List.length_eq_zero_iff.mp h
  | i + 1, s => by
    show s ∈ (bx tops i).flatMap (ext1 (plc tops i)) ↔ _
    rw [List.mem_flatMap]
    constructor
    · rintro ⟨a, ha, hs⟩
      obtain ⟨l, h⟩ := (bx_mem tops i a).mp ha
      obtain ⟨p, hp, rfl⟩ := List.mem_map.mp hs
      have hp' := List.mem_range.mp hp
      refine ⟨by rw [List.length_append, l]; rfl, fun j hj => ?_⟩
      rw [plc_app]
      by_cases c : j < a.length
      · rw [if_pos c]
        exact h j (by omega)
      · rw [if_neg c, if_pos (by omega), show j = i by omega]
        omega
    · rintro ⟨l, h⟩
      have e : s = s.take i ++ [plc s i] := by
        refine plc_ext (by rw [List.length_append, List.length_take]; simp only [List.length_cons, List.length_nil]; omega) fun j hj => ?_
        rw [plc_app]
        by_cases c : j < (s.take i).length
        · rw [if_pos c]
          rw [List.length_take] at c
          rw [plc_get hj, plc_get (by rw [List.length_take]; omega), List.getElem_take]
        · rw [if_neg c]
          rw [List.length_take] at c
          rw [if_pos (by rw [List.length_take]; omega), show j = i by omega]
      have hi := h i (Nat.lt_succ_self i)
      refine ⟨s.take i, (bx_mem tops i _).mpr ⟨by rw [List.length_take]; omega, fun j hj => ?_⟩, ?_⟩
      · have hj' : j < (s.take i).length := by rw [List.length_take]; omega
        rw [plc_get hj', List.getElem_take, ← plc_get (show j < s.length by omega)]
        exact h j (by omega)
      · refine List.mem_map.mpr ⟨(plc s i).toNat, List.mem_range.mpr (by omega), ?_⟩
        rw [Int.toNat_of_nonneg hi.1]
        exact e.symm
def goodB (rs : List Rl) (st : List Int) : Bool := rs.all (kept st)
theorem goodB_iff {rs : List Rl} {st : List Int} : goodB rs st = true ↔ Good rs st := List.all_eq_true
def goods (tops : List Int) (rs : List Rl) : List (List Int) := (bx tops tops.length).filter (goodB rs)
theorem goods_mem {tops : List Int} {rs : List Rl} {s : List Int} : s ∈ goods tops rs ↔ (s.length = tops.length ∧ ∀ j, j < tops.length → 0 ≤ plc s j ∧ plc s j ≤ plc tops j) ∧ Good rs s := by
  unfold goods
  rw [List.mem_filter, bx_mem, goodB_iff]
theorem set_back {b : List Int} {i : Nat} {y : Int} (hi : i < b.length) : (b.set i y).set i (plc b i) = b := by
  refine plc_ext (by rw [List.length_set, List.length_set]) fun j hj => ?_
  by_cases c : i = j
  · subst c
    rw [plc_set_self (by rw [List.length_set]; exact hi)]
  · rw [plc_set_ne c, plc_set_ne c]
theorem set_same {b : List Int} {i : Nat} (hi : i < b.length) : b.set i (plc b i) = b := by
  refine plc_ext (by rw [List.length_set]) fun j hj => ?_
  by_cases c : i = j
  · subst c
    rw [plc_set_self hi]
  · rw [plc_set_ne c]
section
variable {tops : List Int} {rs : List Rl}
theorem goods_len {s : List Int} (h : s ∈ goods tops rs) : s.length = tops.length := (goods_mem.mp h).1.1
theorem goods_good {s : List Int} (h : s ∈ goods tops rs) : Good rs s := (goods_mem.mp h).2
theorem goods_bd (fw : Few tops) {s : List Int} (h : s ∈ goods tops rs) : TS.Bd 4 s := fun m hm => by
  obtain ⟨i, hi, e⟩ := List.getElem_of_mem hm
  have l := goods_len h
  have b := (goods_mem.mp h).1.2 i (by omega)
  rw [plc_get hi, e] at b
  have t := fw _ (List.getElem_mem (show i < tops.length by omega))
  rw [← plc_get] at t
  omega
end
theorem nodup_len {α : Type} [DecidableEq α] : ∀ (l m : List α), l.Nodup → (∀ x ∈ l, x ∈ m) → l.length ≤ m.length
  | [], _, _, _ => Nat.zero_le _
  | x :: l, m, nd, h => by
    obtain ⟨n1, n2⟩ := List.nodup_cons.mp nd
    have ih := nodup_len l (m.erase x) n2 fun y hy => (List.mem_erase_of_ne (fun e : y = x => n1 (by rw [← e]; exact hy))).mpr (h y (List.mem_cons_of_mem _ hy))
    have hx := h x List.mem_cons_self
    rw [List.length_erase_of_mem hx] at ih
    have : 0 < m.length := List.length_pos_of_mem hx
    rw [List.length_cons]
    omega


/-! ### ways walked -/
/-- the places out of a side -/
def outP (tops st : List Int) (sd : Sd) (i : Nat) : Int × Int := if sd.1 = i then (if sd.2.1 then (0, sd.2.2 - 1) else (sd.2.2 + 1, plc tops i)) else (if inB st sd then (0, -1) else (0, plc tops i))
/-- a place of the thing is out of the side -/
theorem out_iff {tops st : List Int} {sd : Sd} {i : Nat} {y : Int} (hs : sd.1 < st.length) (hi : i < st.length) (y0 : 0 ≤ y) (y1 : y ≤ plc tops i) : inB (st.set i y) sd = false ↔ (outP tops st sd i).1 ≤ y ∧ y ≤ (outP tops st sd i).2 := by
  rw [tst_in (by rw [List.length_set]; exact hs)]
  unfold outP
  by_cases c : sd.1 = i
  · rw [if_pos c, c, plc_set_self hi]
    generalize plc tops i = T at *
    cases w : sd.2.1 <;> simp <;> omega
  · rw [if_neg c, plc_set_ne (fun e => c e.symm)]
    cases e : inB st sd with
    | true =>
      rw [tst_in hs] at e
      rw [e]
      simp
      omega
    | false =>
      rw [tst_in hs] at e
      rw [e]
      simp
      exact ⟨y0, y1⟩
/-- kept all along -/
theorem along_of {tops st : List Int} {q : Rl} {i : Nat} {e : Int} (f : Fit st q) (hi : i < st.length) (s0 : 0 ≤ plc st i) (s1 : plc st i ≤ plc tops i) (e0 : 0 ≤ e) (e1 : e ≤ plc tops i) (h : ∀ y, Btw (plc st i) y e → kept (st.set i y) q = true) :
    min (min (outP tops st q.1 i).2 (outP tops st q.2 i).2) (max (plc st i) e) < max (max (outP tops st q.1 i).1 (outP tops st q.2 i).1) (min (plc st i) e) := by
  refine Classical.byContradiction fun no => ?_
  obtain ⟨y, hy1, hy2⟩ : ∃ y, max (max (outP tops st q.1 i).1 (outP tops st q.2 i).1) (min (plc st i) e) ≤ y ∧ y ≤ min (min (outP tops st q.1 i).2 (outP tops st q.2 i).2) (max (plc st i) e) := ⟨_, Int.le_refl _, by omega⟩
  have k := h y (by unfold Btw; omega)
  have y0 : 0 ≤ y := by omega
  have y1 : y ≤ plc tops i := by omega
  unfold kept at k
  rw [(out_iff (tops := tops) f.1 hi y0 y1).mpr (by omega), (out_iff (tops := tops) f.2 hi y0 y1).mpr (by omega)] at k
  cases k
theorem iteTrue {c : Bool} {A B : Prop} (e : c = true) (h : A) : if c = true then A else B := by rw [e]; exact h
theorem iteFalse {c : Bool} {A B : Prop} (e : c = false) (h : B) : if c = true then A else B := by rw [e]; exact h
section
variable {P : Program} {w : World} {K : PySem.W.Frag} {mg : Str → Option Value} {base : Heap}
def spMoved : Sp := fun vs H Q _ => ∃ (a : Addr) (n : Nat) (v : Int) (xs : List Int), vs = [.ref a, .int (n : Int), .int v] ∧ H a = some (.tup (xs.map V.int)) ∧ n < xs.length ∧ xs.length ≤ 12 ∧ ∀ g H', Same H H' → H' g = some (.tup ((xs.set n v).map V.int)) → Q (.ref g) H'
abbrev a_moved : Stmt := topS 20
abbrev n_moved : List Str := ["standing", "thing", "place"]
theorem sc_moved : FnScope n_moved ["standing", "thing", "place"] (defScope a_moved) := ⟨rfl, rfl, rfl, by decide +kernel, rfl, by decide +kernel, by decide +kernel⟩
set_option maxHeartbeats 8000000 in
theorem ok_moved {f  : Addr} {fd  : FuncData} {k : Nat}  (F : Fun K "moved" "moved" a_moved f fd)    : FnOk P w K mg base CX0 (k + 1) f fd ["standing", "thing", "place"] spMoved := by
  refine F.ok sc_moved (fun vs H Q E h => ?_) (fun cdv A outer s H vs Q E hr h => ?_)
  · obtain ⟨a, n, v, xs, rfl, _⟩ := h
    rfl
  · obtain ⟨a, n, v, xs, rfl, ea, hn, l12, q⟩ := h
    refine ⟨_, (pss_one (ps_ret (pe_op (r := rCatA K) op_catA (pe_op (r := rCatA K) op_catA (pe_slice (r := rSlA K) sl_tupA (pv 0) po_none (po_some (pv 1))) (pe_tup (pa_cons (pv 2) pa_nil))) (pe_slice (r := rSlA K) sl_tupA (pv 0) (po_some (pe_op op_add (pv 1) pe_int)) po_none)))), ?_⟩
    exact moved_val (a := 0) (i := 1) (x := 2) rfl rfl rfl ea hn l12 q
def spOut (C : Addr) : Sp := fun vs H Q _ => ∃ (x a p : Addr) (tops st : List Int) (rs : List Rl) (sd : Sd) (i : Nat), vs = [.ref x, .ref a, .ref p, .int (i : Int)] ∧ PlanAt C H x tops rs ∧ H a = some (.tup (st.map V.int)) ∧ SideAt H p sd ∧ sd.1 < st.length ∧ i < tops.length ∧
  ∀ H' g, Same H H' → H' g = some (.tup [.int (outP tops st sd i).1, .int (outP tops st sd i).2]) → Q (.ref g) H'
abbrev a_out_places : Stmt := topS 22
abbrev n_out_places : List Str := ["plan", "standing", "side", "thing", "top"]
theorem sc_out_places : FnScope n_out_places ["plan", "standing", "side", "thing"] (defScope a_out_places) := ⟨rfl, rfl, rfl, by decide +kernel, rfl, by decide +kernel, by decide +kernel⟩
set_option maxHeartbeats 8000000 in
theorem ok_out_places {f fIn : Addr} {fd fdIn : FuncData} {k : Nat} {C : Addr} (F : Fun K "out_places" "out_places" a_out_places f fd) (In : Kn P w K mg base 1 "is_in" ["side", "standing"] spIn fIn fdIn) (T : PlanTxt K mg C)  : FnOk P w K mg base CX0 (k + 2) f fd ["plan", "standing", "side", "thing"] (spOut C) := by
  refine F.ok sc_out_places (fun vs H Q E h => ?_) (fun cdv A outer s H vs Q E hr h => ?_)
  · obtain ⟨x, a, p, tops, st, rs, sd, i, rfl, _⟩ := h
    rfl
  · obtain ⟨x, a, p, tops, st, rs, sd, i, rfl, ⟨dx, t, R, ex, et, hR⟩, ea, hs, ls, li, q⟩ := h
    refine ⟨_, (pss_cons (ps_set (i := 4) sc_out_places.nd rfl (.inl rfl) (pe_ix ix_tup (pe_fld (pv 0) rfl) (pv 3) (fun _ _ => rfl)))
      (pss_cons (ps_if (pt_cmpR op_ne (pe_ix ix_tup (pv 2) pe_int (fun _ _ => rfl)) (pv 3) (nomark _)) (pss_one (ps_ret (pe_ifExp (pt_val (pe_kn In hr (by omega) (pa_cons (pv 2) (pa_cons (pv 1) pa_nil)))) (pe_tup (pa_cons pe_int (pa_cons (pe_un un_neg pe_int) pa_nil))) (pe_tup (pa_cons pe_int (pa_cons (pv 4) pa_nil)))))) pss_nil)
      (pss_cons (ps_if (pt_cmpR op_eq (pe_ix ix_tup (pv 2) pe_int (fun _ _ => rfl)) pe_str (nomark _)) (pss_one (ps_ret (pe_tup (pa_cons pe_int (pa_cons (pe_op op_sub (pe_ix ix_tup (pv 2) pe_int (fun _ _ => rfl)) pe_int) pa_nil))))) pss_nil)
      (pss_one (ps_ret (pe_tup (pa_cons (pe_op op_add (pe_ix ix_tup (pv 2) pe_int (fun _ _ => rfl)) pe_int) (pa_cons (pv 4) pa_nil)))))))), ?_⟩
    have at1 : atI (tops.map V.int) (i : Int) = some (.int (plc tops i)) := by
      rw [plc_get li]
      exact at_int li
    have z2 : (2 : Nat) ≤ sizeLine := by decide
    refine ⟨.ref x, rfl, x, C, dx, _, _, rfl, ex, T.cl, T.nT, look_tops _ _, _, rfl, t, _, i, _, rfl, rfl, .inl (.inl et), at1, ?_⟩
    refine ⟨.ref p, rfl, p, _, 0, _, rfl, rfl, .inl (.inl hs), rfl, _, rfl, rfl, _, rfl, ite2 (fun c => ?_) (fun c => ?_)⟩
    · have ne : ¬ sd.1 = i := fun z => by
        rw [z] at c
        simp at c
      refine ⟨.ref p, rfl, .ref a, rfl, p, a, sd, st, rfl, hs, ea, ls, _, rfl, ite2 (fun d => ?_) (fun d => ?_)⟩
      · refine ⟨1, rfl, z2, fun g ng => q _ g (same_new ng) ?_⟩
        rw [upd_same]
        unfold outP
        rw [if_neg ne, if_pos d]
      · refine ⟨_, rfl, z2, fun g ng => q _ g (same_new ng) ?_⟩
        rw [upd_same]
        unfold outP
        rw [if_neg ne, if_neg d]
    · have eqi : sd.1 = i := by
        rw [Bool.not_eq_true, Bool.not_eq_false'] at c
        have := of_decide_eq_true c
        injection this with h
        omega
      refine ⟨.ref p, rfl, p, _, 1, _, rfl, rfl, .inl (.inl hs), rfl, rfl, _, rfl, ?_⟩
      cases w : sd.2.1 with
      | true =>
        refine iteTrue (by decide +kernel) ⟨.ref p, rfl, p, _, 2, _, rfl, rfl, .inl (.inl hs), rfl, _, 1, rfl, rfl, z2, fun g ng => q _ g (same_new ng) ?_⟩
        rw [upd_same]
        unfold outP
        rw [if_pos eqi, if_pos w]
      | false =>
        refine iteFalse (by decide +kernel) ⟨.ref p, rfl, p, _, 2, _, rfl, rfl, .inl (.inl hs), rfl, _, 1, rfl, rfl, _, rfl, z2, fun g ng => q _ g (same_new ng) ?_⟩
        rw [upd_same]
        unfold outP
        rw [if_pos eqi, if_neg (by rw [w]; decide)]
end
end K21

set_option Elab.async false
set_option linter.all false
set_option maxRecDepth 100000
namespace K21
open PySem PySem.Spec PyProof.Rows L2 NB

/-! ### whether a thing can go: both answers -/
def alongB (tops st : List Int) (q : Rl) (i : Nat) (e : Int) : Bool := decide (min (min (outP tops st q.1 i).2 (outP tops st q.2 i).2) (max (plc st i) e) < max (max (outP tops st q.1 i).1 (outP tops st q.2 i).1) (min (plc st i) e))
theorem along_iff {tops st : List Int} {q : Rl} {i : Nat} {e : Int} (f : Fit st q) (hi : i < st.length) (s0 : 0 ≤ plc st i) (s1 : plc st i ≤ plc tops i) (e0 : 0 ≤ e) (e1 : e ≤ plc tops i) : alongB tops st q i e = true ↔ ∀ y, Btw (plc st i) y e → kept (st.set i y) q = true := by
  unfold alongB
  rw [decide_eq_true_eq]
  constructor
  · intro h y hy
    have y0 : 0 ≤ y := by
      unfold Btw at hy
      omega
    have y1 : y ≤ plc tops i := by
      unfold Btw at hy
      omega
    cases k : kept (st.set i y) q with
    | true => rfl
    | false =>
      have k' : (inB (st.set i y) q.1 || inB (st.set i y) q.2) = false := k
      rw [Bool.or_eq_false_iff] at k'
      have a := (out_iff (tops := tops) f.1 hi y0 y1).mp k'.1
      have b := (out_iff (tops := tops) f.2 hi y0 y1).mp k'.2
      unfold Btw at hy
      omega
  · exact along_of f hi s0 s1 e0 e1
def canB (tops : List Int) (rs : List Rl) (st : List Int) (i : Nat) (e : Int) : Bool := rs.all fun q => alongB tops st q i e
theorem can_iff {tops st : List Int} {rs : List Rl} {i : Nat} {e : Int} (f : ∀ q ∈ rs, Fit st q) (hi : i < st.length) (s0 : 0 ≤ plc st i) (s1 : plc st i ≤ plc tops i) (e0 : 0 ≤ e) (e1 : e ≤ plc tops i) : canB tops rs st i e = true ↔ ∀ y, Btw (plc st i) y e → rs.all (kept (st.set i y)) = true := by
  unfold canB
  rw [List.all_eq_true]
  constructor
  · intro h y hy
    exact List.all_eq_true.mpr fun q hq => (along_iff (f q hq) hi s0 s1 e0 e1).mp (h q hq) y hy
  · intro h q hq
    exact (along_iff (f q hq) hi s0 s1 e0 e1).mpr fun y hy => List.all_eq_true.mp (h y hy) q hq
section
variable {P : Program} {w : World} {K : PySem.W.Frag} {mg : Str → Option Value} {base : Heap}
def spAlongD (C : Addr) : Sp := fun vs H Q _ => ∃ (x a r : Addr) (tops st : List Int) (rs : List Rl) (q0 : Rl) (i : Nat) (e : Int), vs = [.ref x, .ref a, .ref r, .int (i : Int), .int e] ∧ PlanAt C H x tops rs ∧ H a = some (.tup (st.map V.int)) ∧ RuleAt H r q0 ∧ Fit st q0 ∧ st.length = tops.length ∧ i < tops.length ∧ ∀ H', Same H H' → Q (.bl (alongB tops st q0 i e)) H'
abbrev a_is_kept_along : Stmt := topS 23
abbrev n_is_kept_along : List Str := ["plan", "standing", "rule", "thing", "place", "here", "least", "most", "low", "high"]
theorem sc_is_kept_along : FnScope n_is_kept_along ["plan", "standing", "rule", "thing", "place"] (defScope a_is_kept_along) := ⟨rfl, rfl, rfl, by decide +kernel, rfl, by decide +kernel, by decide +kernel⟩
set_option maxHeartbeats 8000000 in
theorem ok_is_kept_along {f fOu : Addr} {fd fdOu : FuncData} {k : Nat} {C : Addr} (F : Fun K "is_kept_along" "is_kept_along" a_is_kept_along f fd) (Ou : Kn P w K mg base 2 "out_places" ["plan", "standing", "side", "thing"] (spOut C) fOu fdOu)  (m_max : mg "max" = none) (m_min : mg "min" = none) : FnOk P w K mg base CX0 (k + 3) f fd ["plan", "standing", "rule", "thing", "place"] (spAlongD C) := by
  refine F.ok sc_is_kept_along (fun vs H Q E h => ?_) (fun cdv A outer s H vs Q E hr h => ?_)
  · obtain ⟨x, a, r, tops, st, rs, q0, i, e, rfl, _⟩ := h
    rfl
  · obtain ⟨x, a, r, tops, st, rs, q0, i, e, rfl, hp, ea, ⟨r1, r2, er, h1, h2⟩, ft, lst, li, q⟩ := h
    refine ⟨_, (pss_cons (ps_set (i := 5) sc_is_kept_along.nd rfl (.inl rfl) (pe_ix ix_tup (pv 1) (pv 3) (fun _ _ => rfl)))
      (pss_cons (ps_asg (pe_kn Ou hr (by omega) (pa_cons (pv 0) (pa_cons (pv 1) (pa_cons (pe_ix ix_tup (pv 2) pe_int (fun _ _ => rfl)) (pa_cons (pv 3) pa_nil))))) (pg_tup rfl (pgs_cons (pg_name (i := 6) sc_is_kept_along.nd rfl (.inl rfl)) (pgs_cons (pg_name (i := 7) sc_is_kept_along.nd rfl (.inl rfl)) pgs_nil))))
      (pss_cons (ps_asg (pe_kn Ou hr (by omega) (pa_cons (pv 0) (pa_cons (pv 1) (pa_cons (pe_ix ix_tup (pv 2) pe_int (fun _ _ => rfl)) (pa_cons (pv 3) pa_nil))))) (pg_tup rfl (pgs_cons (pg_name (i := 8) sc_is_kept_along.nd rfl (.inl rfl)) (pgs_cons (pg_name (i := 9) sc_is_kept_along.nd rfl (.inl rfl)) pgs_nil))))
      (pss_one (ps_ret (pe_cmpR op_gt (pe_callB (max3 rfl) (by rfl) m_max (by decide +kernel) (pa_cons (pv 6) (pa_cons (pv 8) (pa_cons (pe_callB (call_min2 rfl) (by rfl) m_min (by decide +kernel) (pa_cons (pv 5) (pa_cons (pv 4) pa_nil))) pa_nil)))) (pe_callB (min3 rfl) (by rfl) m_min (by decide +kernel) (pa_cons (pv 7) (pa_cons (pv 9) (pa_cons (pe_callB (call_max2 rfl) (by rfl) m_max (by decide +kernel) (pa_cons (pv 5) (pa_cons (pv 4) pa_nil))) pa_nil)))) (nomark _))))))), ?_⟩
    have hi : i < st.length := by omega
    have at2 : atI (st.map V.int) (i : Int) = some (.int (plc st i)) := by
      rw [plc_get hi]
      exact at_int hi
    refine ⟨.ref a, rfl, _, rfl, a, _, i, _, rfl, rfl, .inl (.inl ea), at2, ?_⟩
    refine ⟨.ref x, rfl, .ref a, rfl, .ref r, rfl, r, _, 0, _, rfl, rfl, .inl (.inl er), rfl, _, rfl, x, a, r1, tops, st, rs, q0.1, i, rfl, hp, ea, h1, ft.1, li, fun H1 g1 t1 eg1 => ⟨g1, _, rfl, .inl (.inl eg1), rfl, _, _, rfl, _, _, rfl, rfl, ?_⟩⟩
    refine ⟨.ref x, rfl, .ref a, rfl, .ref r, rfl, r, _, 1, _, rfl, rfl, .inl (.inl (t1 _ _ er)), rfl, _, rfl, x, a, r2, tops, st, rs, q0.2, i, rfl, hp.keep (.same t1), t1 _ _ ea, h2.keep (.same t1), ft.2, li, fun H2 g2 t2 eg2 => ⟨g2, _, rfl, .inl (.inl eg2), rfl, _, _, rfl, _, _, rfl, rfl, ?_⟩⟩
    refine ⟨_, rfl, _, rfl, _, rfl, .int e, rfl, plc st i, e, rfl, _, _, _, rfl, _, rfl, _, rfl, _, rfl, .int e, rfl, plc st i, e, rfl, _, _, _, rfl, _, _, rfl, rfl, ?_⟩
    have m1 : (if e < plc st i then e else plc st i) = min (plc st i) e := by split <;> omega
    have m2 : (if e > plc st i then e else plc st i) = max (plc st i) e := by split <;> omega
    rw [m1, m2]
    exact q H2 (t1.trans t2)
def spCanD (C : Addr) : Sp := fun vs H Q _ => ∃ (x a : Addr) (tops st : List Int) (rs : List Rl) (i : Nat) (e : Int), vs = [.ref x, .ref a, .int (i : Int), .int e] ∧ PlanAt C H x tops rs ∧ H a = some (.tup (st.map V.int)) ∧ rs.length ≤ 40 ∧ (∀ q ∈ rs, Fit st q) ∧ st.length = tops.length ∧ i < tops.length ∧ ∀ H', Same H H' → Q (.bl (canB tops rs st i e)) H'
abbrev a_can_go : Stmt := topS 24
abbrev n_can_go : List Str := ["plan", "standing", "thing", "place", "rule"]
theorem sc_can_go : FnScope n_can_go ["plan", "standing", "thing", "place"] (defScope a_can_go) := ⟨rfl, rfl, rfl, by decide +kernel, rfl, by decide +kernel, by decide +kernel⟩
set_option maxHeartbeats 8000000 in
theorem ok_can_go {f fKa : Addr} {fd fdKa : FuncData} {k : Nat} {C : Addr} (F : Fun K "can_go" "can_go" a_can_go f fd) (Ka : Kn P w K mg base 3 "is_kept_along" ["plan", "standing", "rule", "thing", "place"] (spAlongD C) fKa fdKa) (T : PlanTxt K mg C) (m_all : mg "all" = none) : FnOk P w K mg base CX0 (k + 4) f fd ["plan", "standing", "thing", "place"] (spCanD C) := by
  refine F.ok sc_can_go (fun vs H Q E h => ?_) (fun cdv A outer s H vs Q E hr h => ?_)
  · obtain ⟨x, a, tops, st, rs, i, e, rfl, _⟩ := h
    rfl
  · obtain ⟨x, a, tops, st, rs, i, e, rfl, hp, ea, l40, ft, lst, li, q⟩ := h
    refine ⟨_, (pss_one (ps_ret (pe_callB (cr_all rfl) (by rfl) m_all (by decide +kernel) (pa_cons (
        pe_lc (own := [("rule", 4)]) (g := (gName 4)) (tt := tYes) (te := (tCall (spAlongD C) [] E0 (tCons (tVar 0) (tCons (tVar 1) (tCons (tVar 4) (tCons (tVar 2) (tCons (tVar 3) tNil))))))) rfl sc_can_go.nd (pi_tup (pe_fld (pv 0) rfl)) (blkOk_by (N := n_can_go) (sc := defScope a_can_go) (by decide +kernel))
          (fun _ _ _ _ _ => (pg_name (i := 4) sc_can_go.nd rfl (.inl rfl) (hf := .inr rfl))) (fun _ _ _ _ _ => pts_nil) (fun _ _ _ _ _ => (pe_kn Ka hr (by omega) (pa_cons (pv 0) (pa_cons (pv 1) (pa_cons (pv 4) (pa_cons (pv 2) (pa_cons (pv 3) pa_nil)))))))) pa_nil)))), ?_⟩
    obtain ⟨dx, t, R, ex, et, as, eR, la, ha⟩ := hp
    have hp : PlanAt C H x tops rs := ⟨dx, t, R, ex, et, as, eR, la, ha⟩
    refine ⟨.ref x, rfl, x, C, dx, _, _, rfl, ex, T.cl, T.nR, look_rules _ _, R, rfl, ⟨_, .inl (.inl eR)⟩, fun D nD => lc_it (walk_tup (xs := as.map V.ref)) (fun j H' => Same H H' ∧ H' D = some (.lst (((rs.take j).map fun q => alongB tops st q i e).map V.bl))) ⟨same_new nD, upd_same⟩ (fun j H' _ y => .inl (.inl (y.1 _ _ eR))) (fun j v H1 H2 hj y z => ?_) (fun H1 y => ?_)⟩
    · obtain ⟨sm, eD⟩ := y
      obtain ⟨rfl, gv⟩ := z
      obtain ⟨r, er, rfl⟩ := mapGet gv
      have hj' : j < as.length := by simpa using hj
      have hw : j < rs.length := by omega
      have eq : rs[j]? = some rs[j] := List.getElem?_eq_getElem hw
      have hq := ha j r rs[j] er eq
      have hm : rs[j] ∈ rs := List.getElem_mem hw
      refine ⟨wipe_one, .ref x, rfl, .ref a, rfl, .ref r, rfl, _, rfl, _, rfl, x, a, r, tops, st, rs, rs[j], i, e, rfl, hp.keep (.same sm), sm _ _ ea, hq.keep (.same sm), ft _ hm, lst, li, fun H3 s3 => ⟨_, s3 _ _ eD, ?_, same_over (sm.trans s3) nD, ?_⟩⟩
      · rw [List.length_map, List.length_map, List.length_take]
        exact small1000 (by omega)
      · rw [upd_same, List.take_add_one, eq, List.map_append, List.map_append]
        rfl
    · obtain ⟨sm, eD⟩ := y
      rw [List.length_map, la, List.take_length] at eD
      refine ⟨D, _, rfl, .inl (.inl eD), ?_⟩
      have e1 : ((rs.map fun q => alongB tops st q i e).all id) = canB tops rs st i e := by
        unfold canB
        rw [List.all_map]
        rfl
      rw [e1]
      exact q H1 sm
end

/-! ### rows of anything -/
def numP : PyData → Int
  | .int i => i
  | _ => 0
def rowB (tops st : List Int) : PyData → Bool
  | .tuple [d0, d1] => placeD ((tops.length : Int) - 1) d0 && (placeD (tops.getD (natD d0) 0) d1 && !decide (numP d1 = plc st (natD d0)))
  | _ => false
theorem row_no {tops st : List Int} {d : PyData} (h : isTupD d = false) : rowB tops st d = false := by
  cases d with
  | tuple _ => cases h
  | _ => rfl
theorem row_len {tops st : List Int} : ∀ {ds : List PyData}, ¬ ds.length = 2 → rowB tops st (.tuple ds) = false
  | [], _ => rfl
  | [_], _ => rfl
  | [_, _], h => absurd rfl h
  | _ :: _ :: _ :: _, _ => rfl
theorem row_at {tops st : List Int} {d : PyData} (h : rowB tops st d = true) : ∃ (i : Nat) (e : Int), d = .tuple [.int (i : Int), .int e] ∧ i < tops.length ∧ 0 ≤ e ∧ e ≤ plc tops i ∧ e ≠ plc st i := by
  match d, h with
  | .tuple [d0, d1], h =>
    have h' : (placeD ((tops.length : Int) - 1) d0 && (placeD (tops.getD (natD d0) 0) d1 && !decide (numP d1 = plc st (natD d0)))) = true := h
    rw [Bool.and_eq_true, Bool.and_eq_true] at h'
    obtain ⟨h0, h1, h2⟩ := h'
    obtain ⟨i, rfl, li⟩ := place_int h0
    rw [show natD (.int (i : Int)) = i from Int.toNat_natCast i] at h1 h2
    obtain ⟨e, rfl, le⟩ := place_int h1
    refine ⟨i, e, rfl, by omega, by omega, le, fun z => ?_⟩
    have h2' : (!decide ((e : Int) = plc st i)) = true := h2
    rw [decide_eq_true z] at h2'
    cases h2'
section
variable {P : Program} {w : World} {K : PySem.W.Frag} {mg : Str → Option Value} {base : Heap}
def spRowD (C : Addr) : Sp := fun vs H Q _ => ∃ (n x a : Addr) (tops st : List Int) (rs : List Rl) (v : V) (d : PyData), vs = [.ref x, .ref a, v] ∧ PlanAt C H x tops rs ∧ H a = some (.tup (st.map V.int)) ∧ st.length = tops.length ∧ Da n H v d ∧ ∀ H', Same H H' → Q (.bl (rowB tops st d)) H'
abbrev a_is_row : Stmt := topS 21
abbrev n_is_row : List Str := ["plan", "standing", "thing", "number", "place"]
theorem sc_is_row : FnScope n_is_row ["plan", "standing", "thing"] (defScope a_is_row) := ⟨rfl, rfl, rfl, by decide +kernel, rfl, by decide +kernel, by decide +kernel⟩
set_option maxHeartbeats 8000000 in
theorem ok_is_row {f fPl' : Addr} {fd fdPl' : FuncData} {k : Nat} {C : Addr} (F : Fun K "is_row" "is_row" a_is_row f fd) (Pl' : Kn P w K mg base 2 "is_place" ["top", "thing"] (spLookI placeD) fPl' fdPl') (T : PlanTxt K mg C) (m_isinstance : mg "isinstance" = none) (m_len : mg "len" = none) (m_tuple : mg "tuple" = none) : FnOk P w K mg base CX0 (k + 3) f fd ["plan", "standing", "thing"] (spRowD C) := by
  refine F.ok sc_is_row (fun vs H Q E h => ?_) (fun cdv A outer s H vs Q E hr h => ?_)
  · obtain ⟨n, x, a, tops, st, rs, v, d, rfl, _⟩ := h
    rfl
  · obtain ⟨n, x, a, tops, st, rs, v, d, rfl, hp, ea, lst, hd, q⟩ := h
    refine ⟨_, (pss_cons (ps_if (PW.pt (pw_or (pt_not (pt_val (pe_callB call_isiD (by rfl) m_isinstance (by decide +kernel) (pa_cons (pv 2) (pa_cons (pe_bltn (v := .ty "tuple") (u := .type "tuple") (by rfl) m_tuple (by decide +kernel) rfl) pa_nil))))) (pw_or (pt_cmpR op_ne (pe_callB call_len_seq (by rfl) m_len (by decide +kernel) (pa_cons (pv 2) pa_nil)) pe_int (nomark _)) (pw_or1 (pt_not (pt_val (pe_kn Pl' hr (by omega) (pa_cons (pe_op op_sub (pe_callB call_len_seq (by rfl) m_len (by decide +kernel) (pa_cons (pe_fld (pv 0) rfl) pa_nil)) pe_int) (pa_cons (pe_ix ix_tup (pv 2) pe_int (fun _ _ => rfl)) pa_nil))))))))) (pss_one (ps_ret pe_bl)) pss_nil)
      (pss_cons (ps_asg (pv 2) (pg_tup rfl (pgs_cons (pg_name (i := 3) sc_is_row.nd rfl (.inl rfl)) (pgs_cons (pg_name (i := 4) sc_is_row.nd rfl (.inl rfl)) pgs_nil))))
      (pss_one (ps_ret (pe_and (pe_kn Pl' hr (by omega) (pa_cons (pe_ix ix_tup (pe_fld (pv 0) rfl) (pv 3) (fun _ _ => rfl)) (pa_cons (pv 4) pa_nil))) (pe_one (pe_cmpR op_ne (pv 4) (pe_ix ix_tup (pv 1) (pv 3) (fun _ _ => rfl)) (nomark _)))))))), ?_⟩
    obtain ⟨dx, t, R, ex, et, hR⟩ := id hp
    rcases tup_or d with ⟨ds, rfl⟩ | hn
    rotate_left
    · refine ⟨_, rfl, n, _, d, "tuple", _, rfl, hd, kit_tup d, _, rfl, ?_⟩
      rw [hn]
      rw [row_no hn] at q
      exact iteT (q H (Same.refl H))
    cases hd with
    | tup e ha =>
    rename_i p xs
    have ll := ha.len
    refine ⟨_, rfl, n, _, _, "tuple", _, rfl, .tup e ha, kit_tup _, _, rfl, iteF ⟨_, rfl, p, xs, rfl, .inr (.inl (.inl e)), rfl, _, rfl, ite2 (fun c => ?_) (fun c => ?_)⟩⟩
    · have c' : ¬ ds.length = 2 := fun z => by rw [ll, z] at c; exact absurd c (by decide)
      rw [row_len c'] at q
      exact q H (Same.refl H)
    have c' : ds.length = 2 := Classical.byContradiction fun z => c (by
      have : ¬ ((xs.length : Int) = 2) := by omega
      simp [this])
    match ds, c', ha with
    | [d0, d1], _, .cons h0 (.cons h1 .nil) =>
    rename_i v0 v1
    have eW : rowB tops st (.tuple [d0, d1]) = (placeD ((tops.length : Int) - 1) d0 && (placeD (tops.getD (natD d0) 0) d1 && !decide (numP d1 = plc st (natD d0)))) := rfl
    rw [eW] at q
    refine ⟨.ref x, rfl, x, C, dx, _, _, rfl, ex, T.cl, T.nT, look_tops _ _, t, _, rfl, .inr (.inl (.inl et)), _, 1, rfl, rfl, _, rfl, p, _, 0, v0, rfl, rfl, .inl (.inl e), rfl, n, _, _, d0, rfl, h0, fun H1 s1 => ⟨_, rfl, ?_⟩⟩
    rw [List.length_map]
    cases hp0 : placeD ((tops.length : Int) - 1) d0 with
    | false =>
      rw [hp0, Bool.false_and] at q
      exact iteT (q H1 s1)
    | true =>
    rw [hp0, Bool.true_and] at q
    obtain ⟨i, rfl, hi⟩ := place_int hp0
    cases h0
    have li : i < tops.length := by omega
    rw [show natD (.int (i : Int)) = i from Int.toNat_natCast i] at q
    refine iteF ⟨_, rfl, p, _, rfl, .inl (.inl (s1 _ _ e)), rfl, _, _, rfl, _, _, rfl, rfl, ?_⟩
    refine ⟨.ref x, rfl, x, C, dx, _, _, rfl, s1 _ _ ex, T.cl, T.nT, look_tops _ _, _, rfl, t, _, (i : Int), _, rfl, rfl, .inl (.inl (s1 _ _ et)), atI_nat (by rw [List.getElem?_map, List.getElem?_eq_getElem li]; rfl), _, rfl, n, _, _, d1, rfl, h1.same s1, fun H2 s2 => ⟨_, rfl, ?_⟩⟩
    rw [← getD_at li]
    have s12 := s1.trans s2
    cases hp1 : placeD (tops.getD i 0) d1 with
    | false =>
      rw [hp1, Bool.false_and] at q
      exact iteF (q H2 s12)
    | true =>
    rw [hp1, Bool.true_and] at q
    obtain ⟨e1, rfl, he⟩ := place_int hp1
    cases h1
    refine iteT ⟨_, rfl, .ref a, rfl, _, rfl, a, _, (i : Int), _, rfl, rfl, .inl (.inl (s12 _ _ ea)), atI_nat (by rw [List.getElem?_map, List.getElem?_eq_getElem (show i < st.length by omega)]; rfl), rfl, ?_⟩
    have q' := q H2 s12
    rw [show numP (.int (e1 : Int)) = (e1 : Int) from rfl, plc_get (show i < st.length by omega)] at q'
    have eB : (!decide (V.int (e1 : Int) = V.int st[i])) = !decide ((e1 : Int) = st[i]) := by
      congr 1
      exact decide_eq_decide.mpr ⟨fun z => by injection z, fun z => by rw [z]⟩
    rw [eB]
    exact q'
end
end K21

set_option Elab.async false
set_option linter.all false
set_option maxRecDepth 100000
set_option maxHeartbeats 2000000
/-! An exception that is kept behind its handler. -/
namespace NB
open PySem PySem.Spec PyProof.Rows L2

/-- an exception that was caught: its class, its dict -/
def xo (a : Addr) (cls : Value) (d : Option Addr) : HO := .ext fun h => ∃ oe vs, h.get? a = some oe ∧ Zc cls d oe ∧ oe.data = .fields vs
theorem xo_ok {P : Program} {w : World} {H : Hp} {h : Heap} {a : Addr} {cls : Value} {d : Option Addr} {oe : Obj} {vs : Array Value} (e : h.get? a = some oe) (z : Zc cls d oe) (f : oe.data = .fields vs) : ObjOk P w H h a (xo a cls d) :=
  ⟨⟨oe, vs, e, z, f⟩, ⟨oe, e⟩, fun _ _ ⟨o1, v1, e1, z1, f1⟩ k => ⟨o1, v1, k _ e1, z1, f1⟩⟩
theorem xo_at {P : Program} {w : World} {H : Hp} {h : Heap} {a : Addr} {cls : Value} {d : Option Addr} (ok : HOk P w H h) (e : H a = some (xo a cls d)) : ∃ oe vs, h.get? a = some oe ∧ Zc cls d oe ∧ oe.data = .fields vs := (ok a _ e).1
section
variable {X : Cx} {pins : List (Addr × Obj)} {σ : L2.St} {H : Hp} {s : Shared}
/-- a thing of the heap that nobody tracks, new to the def, is tracked from here on -/
theorem Inv.adopt (I : Inv X pins σ H s) {a : Addr} {o : HO} (na : H a = none) (n0 : X.s_0.heap.get? a = none) (nL : a ≠ X.env.locals) (nC : ∀ x c, X.env.cells.lookup x = some c → c ≠ a) (nP : ∀ p ∈ X.pn ++ pins, p.1 ≠ a) (ok : ∀ H', ObjOk X.prog X.w H' s.heap a o) :
    Inv X pins σ (upd H a o) s where
  ok := I.ok
  os := I.os
  bare := I.bare
  base :=
    { keep := I.base.keep
      slot := I.base.slot
      free := fun b ob e n hx => by
        rw [upd_ne (fun z => by rw [z, n0] at e; cases e)]
        exact I.base.free b ob e n hx
      there := I.base.there
      tups := fun b xs e => by
        have q := I.base.tups b xs e
        rw [upd_ne (ne_of_none q na)]
        exact q
      frzs := fun b ob u e => by
        have q := I.base.frzs b ob u e
        rw [upd_ne (ne_of_none q na)]
        exact q
      tbls := fun b ps e => by
        obtain ⟨m, q⟩ := I.base.tbls b ps e
        exact ⟨m, by rw [upd_ne (ne_of_none q na)]; exact q⟩ }
  loc := I.loc
  cell := I.cell
  free := by rw [upd_ne nL.symm]; exact I.free
  freeC := fun x c e => by rw [upd_ne (nC x c e)]; exact I.freeC x c e
  pin := fun p hp => by
    obtain ⟨h1, h2, h3⟩ := I.pin p hp
    exact ⟨h1, by rw [upd_ne (nP p hp)]; exact h2, h3⟩
  hok := fun b u e => by
    by_cases hb : b = a
    · subst hb
      rw [upd_same] at e
      cases e
      exact ok _
    · rw [upd_ne hb] at e
      exact (I.hok b u e).stay (fun c v _ q => q) (fun c q => by rw [upd_ne (ne_of_none q na)]; exact q) fun c xs q => by rw [upd_ne (ne_of_none q na)]; exact q
  len := I.len
end
/-- the suite's exception stays pinned behind it -/
theorem unsuite_pin {X : Cx} {pins : List (Addr × Obj)} {σ : L2.St} {H : Hp} {s : Shared} {a : Addr} {oe : Obj} (I : L2.Inv (X.suite a ((a, oe) :: (X.pn ++ pins))) [] σ H s) (ok : X.Ok) : L2.Inv X ((a, oe) :: pins) σ H s :=
  ⟨ok, I.os, I.bare, I.base, I.loc, I.cell, I.free, I.freeC, fun p hp => I.pin p (by
    rw [List.append_nil]
    rcases List.mem_append.mp hp with h | h
    · exact List.mem_cons_of_mem _ (List.mem_append_left _ h)
    · rcases List.mem_cons.mp h with e | h
      · rw [e]
        exact List.mem_cons_self
      · exact List.mem_cons_of_mem _ (List.mem_append_right _ h)), I.hok, I.len⟩
theorem drop_pin {X : Cx} {pins : List (Addr × Obj)} {σ : L2.St} {H : Hp} {s : Shared} {q : Addr × Obj} (I : L2.Inv X (q :: pins) σ H s) : L2.Inv X pins σ H s :=
  ⟨I.ok, I.os, I.bare, I.base, I.loc, I.cell, I.free, I.freeC, fun p hp => I.pin p (by
    rcases List.mem_append.mp hp with h | h
    · exact List.mem_append_left _ h
    · exact List.mem_append_right _ (List.mem_cons_of_mem _ h)), I.hok, I.len⟩
/-- what the clause wishes: as wAs, but behind its suite the exception is known -/
def wKeep (K : PySem.W.Frag) (c : Value) (i : Nat) (ts : Addr → Value → Option Addr → TS) (Wout : WX) (D : Ends) : WX := fun cls d σ H =>
  ∃ b, PySem.W.exmOne K cls c = some b ∧ (b = true → ∀ a, H a = none → ts a cls d { nx := fun σ' H' => H' a = none → D.nx (σ'.set i none) (upd H' a (xo a cls d)), rt := D.rt, bk := fun σ' H' => D.bk (σ'.set i none) H', ct := fun σ' H' => D.ct (σ'.set i none) H' } (σ.set i (some (.ref a))) H) ∧
    (b = false → Wout cls d σ H)
section
variable {X : Cx} {x n : Str} {c : Value} {i : Nat} {body suite : List Stmt} {b₀ : Stmt} {np pos pos' : Pos} {tb : WX → TS} {ts : Addr → Value → Option Addr → TS} {Wout : WX}
theorem ps_try_keep (hs : X.stack = X.env :: X.outer) (hf : X.env.frame = some X.env.locals) (hN : X.N.Nodup) (hi : X.N[i]? = some n) (hln : X.env.kindOf n = some .local) (hc : Names X x c) (hex : X.ex = []) (tk : Takes X Wout)
    (hb : ∀ (W : WX) (pn : List (Addr × Obj)) (xe : Value → Shared → Prop), Takes (X.tr pn xe) W → PassesOwn (model X.prog X.w) X.A X.env xe → PSs (X.tr pn xe) body (tb W))
    (hsu : ∀ (a : Addr) (oe : Obj) (cls : Value) (d : Option Addr) (pn : List (Addr × Obj)), Zc cls d oe → (∃ vs, oe.data = .fields vs) → PSs (X.suite a ((a, oe) :: pn)) (b₀ :: suite) (ts a cls d)) :
    PS X (.Try body [.ExceptHandler (some (.Name x np)) (some n) (b₀ :: suite) pos'] [] [] pos) (fun D σ H => tb (wKeep X.K c i ts Wout D) D σ H) := by
  refine ⟨fun pins s σ H D I h => wpAny_Try_except ?_⟩
  have ok := I.ok
  have hfr : X.A.frames = some (X.env :: X.outer) := by rw [ok.frames, hs]
  have catch_ : ∀ u s', XE (X.tr (X.pn ++ pins) (fun e s₁ => wpAny (model X.prog X.w) X.A (noteFrame e X.env) (fun _ s₂ => wpAny (model X.prog X.w) X.A (setFlight e none) (fun _ s₃ =>
      wpAny (model X.prog X.w) X.A (handleBy e X.env [.ExceptHandler (some (.Name x np)) (some n) (b₀ :: suite) pos']) (SP X pins D) X.xe s₃) X.xe s₂) X.xe s₁)) (wKeep X.K c i ts Wout D) u s' →
      wpAny (model X.prog X.w) X.A (noteFrame u X.env) (fun _ s₂ => wpAny (model X.prog X.w) X.A (setFlight u none) (fun _ s₃ =>
      wpAny (model X.prog X.w) X.A (handleBy u X.env [.ExceptHandler (some (.Name x np)) (some n) (b₀ :: suite) pos']) (SP X pins D) X.xe s₃) X.xe s₂) X.xe s' := by
    rintro u s' ⟨a, B, sI, pins', σ', H', cls, d, rfl, J', nb, up, sky, na, os, ag, b, hb1, hyes, hno⟩
    have J : L2.Inv X pins σ' H' sI := J'.ofTry ok
    have sky' : Sky B (X.env :: X.outer) a (Zc cls d) X.env.locals s'.heap := by rw [← hs]; exact sky
    refine Sky.land Zc.steady hfr hf sky' fun h3 fl3 up3 => ?_
    have J3 : L2.Inv X pins σ' H' { s' with heap := h3 } := J.landed nb fl3.1 (up.trans up3) os ag
    obtain ⟨oe3, vs3, he3, hz3, hd3⟩ := fl3.there
    have nfr : a ∉ frs (X.env :: X.outer) := fun hm => by
      obtain ⟨_, o', e', hnf⟩ := fl3.2.2.1.mem hm
      have e' : h3.get? a = some o' := e'
      rw [he3] at e'
      cases e'
      exact hnf _ hd3
    have nL : a ≠ X.env.locals := fun z => nfr (List.mem_filterMap.mpr ⟨X.env, List.mem_cons_self, by rw [hf, z]⟩)
    have nF : a ∉ X.fs := fun hm => by
      obtain ⟨e, he, q⟩ := List.mem_filterMap.mp hm
      exact nfr (List.mem_filterMap.mpr ⟨e, List.mem_cons_of_mem _ he, q⟩)
    have nI : sI.heap.get? a = none := by
      cases e : sI.heap.get? a with
      | none => rfl
      | some o =>
        have z := nb a o e (by
          show a ∉ frs X.stack
          rw [hs]
          exact nfr)
        rw [fl3.2.1] at z
        cases z
    have n0 : X.s_0.heap.get? a = none := by
      cases e : X.s_0.heap.get? a with
      | none => rfl
      | some o =>
        obtain ⟨o', z⟩ := J.base.there a o e (by rw [hex]; exact List.not_mem_nil)
        rw [nI] at z
        cases z
    have nP : ∀ p ∈ X.pn ++ pins, p.1 ≠ a := fun p hp z => by
      have q := (J.pin p hp).1
      rw [z, nI] at q
      cases q
    have S3 := J3.suite he3 hd3 na nL nF
    refine wpAny_handleBy_cons (codeAny_handlers_test ?_) (by intro q; cases q)
    have LT : PySem.W.Looks (model X.prog X.w) h3 (typeOf (.ref a)) cls := fun A Q E s k q => wpAny_typeOf_ref (k _ _ he3) (by rw [hz3.1]; exact q)
    have LM := PySem.W.exm_one (M := model X.prog X.w) (J3.kIn) LT hb1
    have test : ∀ {Q : Value → Shared → Prop} {E : Value → Shared → Prop}, Q c { s' with heap := h3 } → wpAny (model X.prog X.w) (X.A.mark (some (.ref a))) (eval (.Name x np) X.env) Q E { s' with heap := h3 } := fun {Q E} q => by
      obtain ⟨hg, hdbg, hm | ⟨hm, hv, hnn⟩⟩ := hc
      · exact ld_glob (X := X.suite a ((a, oe3) :: (X.pn ++ pins))) S3 hg hm q hdbg
      · exact ld_blt (X := X.suite a ((a, oe3) :: (X.pn ++ pins))) S3 hg hm hv q hnn hdbg
    refine test (LM.here ?_)
    cases b with
    | true =>
      refine codeAny_handlers_suite_as (HandSPX.lands_againZ fl3 fun h4 fl4 up4 => ?_)
      have J4 : L2.Inv X pins σ' H' { s' with heap := h4 } := J.landed nb fl4.1 ((up.trans up3).trans up4) os ag
      obtain ⟨oe4, vs4, he4, hz4, hd4⟩ := fl4.there
      have S4 := J4.suite he4 hd4 na nL nF
      refine store_ok (X := X.suite a ((a, oe4) :: (X.pn ++ pins))) (v := .ref a) S4 hN hi (.inl hln) rfl (fun s5 S5 => ?_) (.inr hln)
      refine wpAny_mono ((hsu a oe4 cls d (X.pn ++ pins) hz4 ⟨_, hd4⟩).run [] s5 _ H' _ S5 (hyes rfl a na)) (fun f s6 hsp => ?_) (fun _ _ z => False.elim z)
      cases f with
      | next =>
        obtain ⟨σ6, H6, S6, q6⟩ := hsp
        refine gone_ok (unsuite_pin S6 ok) hN hi hln fun s7 J7 => ?_
        obtain ⟨ea, naH, _⟩ := J7.pin (a, oe4) (List.mem_append_right _ List.mem_cons_self)
        refine ⟨_, _, Inv.adopt (drop_pin J7) naH n0 nL (fun y cc e z => ?_) nP (fun _ => xo_ok ea hz4 hd4), q6 naH⟩
        obtain ⟨v, oc, ec, dc⟩ := J7.cell y cc e
        have ea' : s7.heap.get? a = some oe4 := ea
        rw [z, ea'] at ec
        cases ec
        rw [hd4] at dc
        cases dc
      | brk =>
        obtain ⟨σ6, H6, S6, q6⟩ := hsp
        exact gone_ok (S6.unsuite ok) hN hi hln fun s7 J7 => ⟨_, _, J7, q6⟩
      | cont =>
        obtain ⟨σ6, H6, S6, q6⟩ := hsp
        exact gone_ok (S6.unsuite ok) hN hi hln fun s7 J7 => ⟨_, _, J7, q6⟩
      | ret u =>
        obtain ⟨v6, σ6, H6, S6, r6, q6⟩ := hsp
        exact gone_ok (S6.unsuite ok) hN hi hln fun s7 J7 => ⟨_, _, _, J7, r6, q6⟩
    | false =>
      show wpAny _ X.A (handleBy (.ref a) X.env []) _ _ _
      refine wpAny_handleBy_nil ?_
      obtain ⟨k1, k2, k3, oe, vs, T, oT, ts', he, hz, hd, h1, hr⟩ := id fl3
      unfold PySem.passOn
      refine wpAny_bind (wpAny_field he hd h1 ?_)
      rw [if_neg (show ¬ ((Value.ref T == Value.none) = true) from by simp)]
      have fin : wpAny (model X.prog X.w) X.A (setFlight (.ref a) X.env.frame) (fun _ s4 => wpAny (model X.prog X.w) X.A (throw (.ref a) : Sem Flow) (SP X pins D) X.xe s4) X.xe { s' with heap := h3 } := by
        rw [hf]
        exact HandSPX.setFlight_upZ fl3 fun h4 hh4 up4 => wpAny_throw (tk _ _ ⟨a, B, sI, pins, σ', H', cls, d, rfl, J, nb, (up.trans up3).trans up4, .inr (.inr (by rw [hs]; exact hh4)), na, os, ag, hno rfl⟩)
      first
        | exact wpAny_bind (wpAny_pure (wpAny_bind fin))
        | exact wpAny_bind fin
  refine wpAny_mono ((hb (wKeep X.K c i ts Wout D) (X.pn ++ pins) _ catch_ PassesOwn.looking).run [] s σ H D (I.toTry _) h) (fun f s1 hsp => ?_) (fun e s1 he => he)
  cases f with
  | next =>
    obtain ⟨σ', H', J', q⟩ := hsp
    exact wpAny_execs_nil ⟨σ', H', J'.ofTry ok, q⟩
  | brk =>
    obtain ⟨σ', H', J', q⟩ := hsp
    exact ⟨σ', H', J'.ofTry ok, q⟩
  | cont =>
    obtain ⟨σ', H', J', q⟩ := hsp
    exact ⟨σ', H', J'.ofTry ok, q⟩
  | ret u =>
    obtain ⟨v, σ', H', J', r, q⟩ := hsp
    exact ⟨v, σ', H', J'.ofTry ok, r, q⟩
end
end NB

set_option Elab.async false
set_option linter.all false
set_option maxRecDepth 100000
set_option maxHeartbeats 4000000
/-! A kept exception: its field read, isinstance of it. -/
namespace NB
open PySem PySem.Spec PySem.Calls PyProof.Rows
section
variable {K : PySem.W.Frag} {x D : Addr} {ox : Obj} {od : Option Obj}
/-- a data descriptor of the class goes ahead of the instance's own dict -/
theorem find_data {C : Addr} {name : Str} {a g : Value} (hc : (PySem.W.clsIn K C).isSome = true) (ha : PySem.W.findIn K (.ref C) name = some (some a)) (hg : PySem.W.specialIn K a "__get__" = some (some g)) (ht : PySem.W.takesIn K a = some true) : PySem.W.findObj K C od name = some (.bind g a) := by
  obtain ⟨cd, hc⟩ := Option.isSome_iff_exists.mp hc
  unfold PySem.W.findObj
  rw [hc, Option.bind_some, ha, Option.bind_some]
  simp [hg, ht]
/-- e.__class__, e an own exception with or without a dict -/
theorem class_of_exc {prog : Program} {w : World} {A : Around} {E : Value → Shared → Prop} {s : Shared} {Q : Option Value → Shared → Prop} (T : L2.ExcC K D) (X : K.In s.heap) (I : PySem.W.InstAt s.heap x ox D od) (h : Q (some (.ref D)) { s with toks := s.toks + 1 }) :
    wpAny (model prog w) A (getAttr? (.ref x) "__class__") Q E s := by
  have hf : PySem.W.findObj K D od "__class__" = some (.bind (.builtin "getset_descriptor.__get__") (.builtin "object.__class__")) := find_data (by obtain ⟨cd, hc, _⟩ := PySem.W.any_some T.hd; rw [hc]; rfl) T.ha T.hn T.ht
  obtain ⟨hp, g, d, t, os⟩ := s
  have LT := I.type (M := model prog w)
  have LG := PySem.W.looks_findIn (M := model prog w) X T.hg
  have LK := PySem.W.looks_findIn (M := model prog w) X T.hk
  have LF := PySem.W.looks_find (M := model prog w) X I hf
  have sub : PySem.W.Looks (model prog w) hp (isInstance (.ref x) (.type "BaseException")) true := LT.andThen (PySem.W.looks_subIn X T.hs)
  have no2 : (onTheHeap (Value.ref D) && Value.builtin "BaseException.__getattribute__" == Value.builtin "object.__getattribute__") = false := by
    have : (Value.builtin "BaseException.__getattribute__" == Value.builtin "object.__getattribute__") = false := by decide +kernel
    rw [this, Bool.and_false]
  unfold getAttr? getAttrBy? getAttrBy
  refine wpAny_bind (wpAny_mkText (wpAny_bind (wpAny_attempt (wpAny_holding (wpAny_bind (LT.at (wpAny_bind (LG.at ?_))))))))
  show wpAny _ _ (if (onTheHeap (Value.ref D) && Value.builtin "BaseException.__getattribute__" == Value.builtin "object.__getattribute__") = true then _ else _) _ _ _
  rw [no2, if_neg Bool.false_ne_true]
  unfold getAttrByItsOwn hookBefore
  refine wpAny_bind ?_
  rw [if_pos (show onTheHeap (Value.ref D) = true from rfl)]
  refine LK.at (wpAny_bind (wpAny_attempt (wpAny_holding ?_)))
  unfold callGetattribute
  rw [show (false && onTheHeap (Value.builtin "BaseException.__getattribute__")) = false from rfl, if_neg Bool.false_ne_true]
  unfold boundAndCalled
  rw [PySem.F.excAttr_ValueError.ga.bind (.ref x)]
  refine wpAny_bind (wpAny_pure ?_)
  show wpAny _ _ (call (.builtin "BaseException.__getattribute__") [.ref x, .str "__class__" t]) _ _ _
  refine wpAny_call (codeAny_call_builtin PySem.F.excAttr_ValueError.ga.plain PySem.F.entry_bexc_ga ?_)
  refine @PySem.W.check_slot (model prog w) _ _ ⟨hp, g, d, t + 1, os⟩ "BaseException.__getattribute__" "BaseException" "__getattribute__" (.ref x) [.str "__class__" t] [] _ (by decide +kernel) (by decide +kernel) sub (PySem.F.args_bexc_ga (.ref x) (.str "__class__" t)) ?_
  unfold Builtin.«object.__getattribute__»
  refine wpAny_bind (wpAny_of_eq (a := ((Value.ref x : Value), [Value.str "__class__" t])) (by first | rfl | (simp only [slotArgs]; rfl)) ?_)
  refine wpAny_bind (wpAny_pure (wpAny_bind (LT.at (wpAny_bind (LF.at ?_)))))
  show wpAny _ _ (holding [Value.builtin "object.__class__"] (call (.builtin "getset_descriptor.__get__") [.builtin "object.__class__", .ref x, .ref D]) >>= ret) _ _ _
  refine wpAny_bind (wpAny_holding (wpAny_call (PySem.W.class_get (s := ⟨hp, g, d, t + 1, os⟩) (ox := ox) (od := od) X I T.hm ?_)))
  refine wpAny_pure ?_
  show wpAny _ _ (handedOut (.ref D)) _ _ _
  rw [PySem.W.handedOut_of (v := .ref D) rfl]
  first
    | exact wpAny_pure (wpAny_pure h)
    | exact wpAny_pure h
    | exact wpAny_pure (wpAny_bind (wpAny_pure (wpAny_pure h)))
theorem kit_exc (T : L2.ExcC K D) : PySem.W.KitX K (.ref x) (.ref D) (fun h => ∃ ox od, PySem.W.InstAt h x ox D od) where
  ty := fun _ _ _ ⟨_, _, I⟩ => I.type
  it := fun M h X _ => by
    obtain ⟨cdD, hcD, _⟩ := PySem.W.any_some T.hd
    unfold PySem.W.clsIn at hcD
    split at hcD
    · rename_i c' d' cd' sl' ho
      intro A' Q' E' s' k q
      unfold isType loadHead
      exact wpAny_bind (wpAny_loadPart (k _ _ (X _ _ ho)) (wpAny_pure q))
    · cases hcD
  ne := fun h tp dd its n sl X htp => by
    obtain ⟨cdD, hcD, _⟩ := PySem.W.any_some T.hd
    refine Bool.eq_false_iff.mpr fun q => ?_
    have e : D = tp := Value.ref.inj (beq_iff_eq.mp q)
    subst e
    unfold PySem.W.clsIn at hcD
    split at hcD
    · rename_i c' d' cd' sl' ho
      have z := (X _ _ ho).symm.trans htp
      cases z
    · cases hcD
  ca := fun X ⟨_, _, I⟩ k => class_of_exc T X I k
end
open L2
section
variable {X : Cx} {C : Addr}
/-- a kept exception, its dict told -/
def KpAt (H : Hp) (a C : Addr) (fs : List (Str × V)) : Prop := ∃ dd : Addr, H a = some (xo a (.ref C) (some dd)) ∧ H dd = some (.xd fs)
theorem KpAt.same {H H' : Hp} {a C : Addr} {fs : List (Str × V)} (h : KpAt H a C fs) (s : ∀ b o, H b = some o → H' b = some o) : KpAt H' a C fs := by
  obtain ⟨dd, h1, h2⟩ := h
  exact ⟨dd, s _ _ h1, s _ _ h2⟩
theorem KpAt.inst {pins : List (Addr × Obj)} {σ : L2.St} {H : Hp} {s : Shared} {a : Addr} {fs : List (Str × V)} (I : L2.Inv X pins σ H s) (h : KpAt H a C fs) : ∃ oe od, PySem.W.InstAt s.heap a oe C (some od) ∧ ∃ mA : Str → Option Value, (∀ f, RelO (fs.lookup f) (mA f)) ∧ ∀ f, PySem.W.lookIn f od = some (mA f) := by
  obtain ⟨dd, h1, h2⟩ := h
  obtain ⟨oe, vs, ha, hz, hd⟩ := xo_at I.hok h1
  have hx : ObjOk X.prog X.w H s.heap dd (.xd fs) := I.hok dd _ h2
  obtain ⟨mA, hns, hr⟩ := hx
  obtain ⟨od, ho, hl⟩ := lookIn_ns hns
  exact ⟨oe, od, ⟨ha, hz.1, by unfold PySem.W.notCls; rw [hd] <;> rfl, by rw [hz.2]; exact ho⟩, mA, hr, hl⟩
/-- its field read -/
def tKf (C : Addr) (f : Str) (te : TE) : TE := fun σ H Q => te σ H fun x H1 => ∃ (a : Addr) (fs : List (Str × V)) (v : V), x = .ref a ∧ KpAt H1 a C fs ∧ fs.lookup f = some v ∧ Q v H1
theorem pe_kf {e : Expr} {te : TE} {pos : Pos} {n : Str} (T : XfC X.K C) (hno : PySem.W.findIn X.K (.ref C) n = some none) (he : PE X e te) (hb : attributeBase e n X.env (eval e X.env) = eval e X.env := by rfl) :
    PE X (.Attribute e n pos) (tKf C n te) := by
  refine ⟨fun pins s σ H Q I h => ?_⟩
  refine attr_of hb (thn (he.run pins s σ H _ I h) fun u s1 hh => ?_)
  obtain ⟨x, H1, I1, rx, a, fs, v, ex, kp, l, q⟩ := hh
  subst ex
  obtain rfl : u = Value.ref a := rx
  obtain ⟨oe, od, J, mA, hr, hl⟩ := kp.inst I1
  obtain ⟨u, hu, ru⟩ := RelO.some_of (v := v) (o := mA n) (by rw [← l]; exact hr n)
  exact HandSPX.exc_get I1.kIn J T.ga T.gg T.exC (PySem.W.findObj_own T.hdC hno rfl (by rw [hl, hu])) (handed_of ru) ⟨v, H1, I1.tok _, ru, q⟩
/-- isinstance of it, of one class -/
def rIsKp (K : PySem.W.Frag) : List V → Hp → VK → Prop := fun xs H Q => ∃ (a D : Addr) (fs : List (Str × V)) (c : V) (cv : Value) (b : Bool), xs = [.ref a, c] ∧ KpAt H a D fs ∧ ExcC K D ∧ (∀ u, RelV c u → u = cv) ∧ PySem.W.kitOne K (.ref D) cv = some b ∧ Q (.bl b) H
theorem call_isKp : CallR X (.builtin "isinstance") (rIsKp X.K) := by
  intro pins s σ H xs us Q I r h
  obtain ⟨a, D, fs, c, cv, b, rfl, kp, T, hcv, e, q⟩ := h
  cases r with
  | cons rx rr =>
    cases rr with
    | cons rt rr =>
      cases rr
      cases rx
      have ec := hcv _ rt
      subst ec
      obtain ⟨oe, od, J, _⟩ := kp.inst I
      exact PySem.W.kia_one (kit_exc T) I.kIn ⟨oe, some od, J⟩ e (fun z => nomatch z) fun tk => ⟨.bl b, H, I.kept (t' := tk) fun _ _ z => z, rfl, q⟩
end
end NB

set_option Elab.async false
set_option linter.all false
set_option maxRecDepth 100000
namespace K21
open PySem PySem.Spec PyProof.Rows L2 NB

/-! ### rows walked, of anything -/
def mvD (st : List Int) : PyData → List Int
  | .tuple [d0, d1] => st.set (natD d0) (numP d1)
  | _ => st
def goD (tops : List Int) (rs : List Rl) (st : List Int) (d : PyData) : Bool := rowB tops st d && match d with
  | .tuple [d0, d1] => canB tops rs st (natD d0) (numP d1)
  | _ => false
def wkL (tops : List Int) (rs : List Rl) : List PyData → Nat → List Int → Nat ⊕ List Int
  | [], _, st => .inr st
  | d :: ds, k, st => if goD tops rs st d then wkL tops rs ds (k + 1) (mvD st d) else .inl k
def wkD (tops : List Int) (rs : List Rl) (st : List Int) : PyData → Nat ⊕ List Int
  | .tuple ds => wkL tops rs ds 0 st
  | _ => .inl 0
theorem wk_no {tops : List Int} {rs : List Rl} {st : List Int} {d : PyData} (h : isTupD d = false) : wkD tops rs st d = .inl 0 := by
  cases d with
  | tuple _ => cases h
  | _ => rfl
theorem mvD_len {st : List Int} (d : PyData) : (mvD st d).length = st.length := by
  unfold mvD
  split
  · exact List.length_set
  · rfl
section
variable {P : Program} {w : World} {K : PySem.W.Frag} {mg : Str → Option Value} {base : Heap}
def spWkX (C CW : Addr) : Sp := fun vs H Q E => ∃ (n x a : Addr) (tops st : List Int) (rs : List Rl) (v : V) (d : PyData), vs = [.ref x, .ref a, v] ∧ PlanAt C H x tops rs ∧ H a = some (.tup (st.map V.int)) ∧ st.length = tops.length ∧ tops.length ≤ 12 ∧ rs.length ≤ 40 ∧ (∀ q ∈ rs, RuleOk tops q) ∧ Da n H v d ∧
  (∀ H' p m, Same H H' → wkD tops rs st d = .inr m → H' p = some (.tup (m.map V.int)) → Q (.ref p) H') ∧
  ∀ H' dd k, Same H H' → H dd = none → wkD tops rs st d = .inl k → H' dd = some (.xd [("at", .int (k : Int))]) → E (.ref CW) (some dd) H'
abbrev a_walked : Stmt := topS 25
abbrev n_walked : List Str := ["plan", "standing", "way", "here", "at", "row"]
theorem sc_walked : FnScope n_walked ["plan", "standing", "way"] (defScope a_walked) := ⟨rfl, rfl, rfl, by decide +kernel, rfl, by decide +kernel, by decide +kernel⟩
set_option maxHeartbeats 8000000 in
theorem ok_walked {f fRo fCa fMo : Addr} {fd fdRo fdCa fdMo : FuncData} {k : Nat} {C CW fN : Addr} {fdN : FuncData} (F : Fun K "walked" "walked" a_walked f fd) (Ro : Kn P w K mg base 3 "is_row" ["plan", "standing", "thing"] (spRowD C) fRo fdRo) (Ca : Kn P w K mg base 4 "can_go" ["plan", "standing", "thing", "place"] (spCanD C) fCa fdCa) (Mo : Kn P w K mg base 1 "moved" ["standing", "thing", "place"] spMoved fMo fdMo) (TN : ExT K mg "NoWay" "at" CW fN fdN) (GN : FnOk P w K mg base CX0 1 fN fdN ["self", "at"] (spXI CW "at")) (m_enumerate : mg "enumerate" = none) (m_isinstance : mg "isinstance" = none) (m_tuple : mg "tuple" = none) : FnOk P w K mg base (L2.CX P w) (k + 5) f fd ["plan", "standing", "way"] (spWkX C CW) := by
  refine F.okX sc_walked (fun vs H Q E h => ?_) (fun cdv A outer s H vs Q E hr h => ?_)
  · obtain ⟨n, x, a, tops, st, rs, v, d, rfl, _⟩ := h
    rfl
  · obtain ⟨n, x, a, tops, st, rs, v, d, rfl, hp, ea, lst, l12, l40, rok, hd, q, qE⟩ := h
    refine ⟨_, (pss_cons (ps_if (pt_not (pt_val (pe_callB call_isiD (by rfl) m_isinstance (by decide +kernel) (pa_cons (pv 2) (pa_cons (pe_bltn (v := .ty "tuple") (u := .type "tuple") (by rfl) m_tuple (by decide +kernel) rfl) pa_nil))))) (pss_one (ps_raise rfl (takes_of rfl rfl rfl rfl) (pmk_x TN GN hr (by omega) (pa_cons pe_int pa_nil)))) pss_nil)
      (pss_cons (ps_set (i := 3) sc_walked.nd rfl (.inl rfl) (pv 1))
      (pss_cons (ps_for (passes_of rfl) rfl (pi_enumT (by rfl) m_enumerate (pa_cons (pv 2) pa_nil)) (pg_tup rfl (pgs_cons (pg_name (i := 4) sc_walked.nd rfl (.inl rfl)) (pgs_cons (pg_name (i := 5) sc_walked.nd rfl (.inl rfl)) pgs_nil)))
        (pss_cons (ps_if (PW.pt (pw_or (pt_not (pt_val (pe_kn Ro hr (by omega) (pa_cons (pv 0) (pa_cons (pv 3) (pa_cons (pv 5) pa_nil)))))) (pw_or1 (pt_not (pt_val (pe_kn Ca hr (by omega) (pa_cons (pv 0) (pa_cons (pv 3) (pa_cons (pe_ix ix_tup (pv 5) pe_int (fun _ _ => rfl)) (pa_cons (pe_ix ix_tup (pv 5) pe_int (fun _ _ => rfl)) pa_nil)))))))))) (pss_one (ps_raise rfl (takes_of rfl rfl rfl rfl) (pmk_x TN GN hr (by omega) (pa_cons (pv 4) pa_nil)))) pss_nil)
      (pss_one (ps_set (i := 3) sc_walked.nd rfl (.inl rfl) (pe_kn Mo hr (by omega) (pa_cons (pv 3) (pa_cons (pe_ix ix_tup (pv 5) pe_int (fun _ _ => rfl)) (pa_cons (pe_ix ix_tup (pv 5) pe_int (fun _ _ => rfl)) pa_nil))))))))
      (pss_one (ps_ret (pv 3)))))), ?_⟩
    rcases tup_or d with ⟨ds, rfl⟩ | hn
    rotate_left
    · refine ⟨_, rfl, n, _, d, "tuple", _, rfl, hd, kit_tup d, _, rfl, ?_⟩
      rw [hn]
      refine iteT (mkX fun dd nd => ?_)
      exact qE _ dd 0 (same_new nd) nd (wk_no hn) upd_same
    have hd0 := hd
    cases hd with
    | tup e ha =>
    rename_i p xs
    have ll := ha.len
    refine ⟨_, rfl, n, _, _, "tuple", _, rfl, hd0, kit_tup _, _, rfl, iteF ⟨_, rfl, _, rfl, p, _, rfl, .inl (.inl e), for_it (walk_enumT (xs := xs)) (fun j σ H' => ∃ (b : Addr) (cur : List Int), (∃ u4 u5, σ = [some (.ref x), some (.ref a), some (.ref p), some (.ref b), u4, u5]) ∧ Same H H' ∧ H' b = some (.tup (cur.map V.int)) ∧ cur.length = tops.length ∧ wkD tops rs st (.tuple ds) = wkL tops rs (ds.drop j) j cur) ⟨a, st, ⟨_, _, rfl⟩, Same.refl _, ea, lst, rfl⟩ (fun j σ H' _ y => by obtain ⟨_, _, _, s, _⟩ := y; exact .inl (.inl (s _ _ e))) (fun j v σ H2 H3 hj y z => ?_) (fun σ H2 y => ?_)⟩⟩
    · obtain ⟨b, cur, ⟨u4, u5, rfl⟩, s2, eb, lc, wk⟩ := y
      obtain ⟨T', x1, x2, rfl, nT, rfl, g1, g2⟩ := z
      obtain rfl : x1 = .int (j : Nat) := (Option.some.inj g1).symm
      obtain ⟨dj, edj, hdj⟩ := ha.get j x2 g2
      have sT := same_new (o := HO.tup [V.int (j : Nat), x2]) nT
      have s3 := s2.trans sT
      have dj0 : ds.drop j = dj :: ds.drop (j + 1) := by
        rw [List.drop_eq_getElem_cons (List.getElem?_eq_some_iff.mp edj).1]
        congr 1
        exact (List.getElem?_eq_some_iff.mp edj).2
      rw [dj0] at wk
      refine ⟨T', _, rfl, .inl (.inl upd_same), rfl, _, _, rfl, _, _, rfl, rfl, ?_⟩
      have eb3 := sT _ _ eb
      generalize upd H2 T' (.tup [V.int (j : Nat), x2]) = H4 at s3 eb3 ⊢
      have hdj4 := hdj.same s3
      have ft : ∀ q ∈ rs, Fit cur q := fun q hq => fit_of (rok q hq) lc
      have no : goD tops rs cur dj = false → wkD tops rs st (.tuple ds) = .inl j := fun h => by
        rw [wk]
        show (if goD tops rs cur dj = true then _ else _) = _
        rw [h]
        rfl
      refine ⟨_, rfl, _, rfl, _, rfl, n, x, b, tops, cur, rs, x2, dj, rfl, hp.keep (.same s3), eb3, lc, hdj4, fun H5 s5 => ⟨_, rfl, ?_⟩⟩
      have s35 := s3.trans s5
      cases rb : rowB tops cur dj with
      | false =>
        refine iteT ⟨_, rfl, mkX fun dd nd => ?_⟩
        exact qE _ dd j (s35.trans (same_new nd)) (s35.free nd) (no (by unfold goD; rw [rb]; rfl)) upd_same
      | true =>
      obtain ⟨i, e1, rfl, li, e10, e11, ne⟩ := row_at rb
      cases hdj4 with
      | tup er hr =>
      rename_i r vs
      cases hr with
      | cons h0 hr =>
      cases h0
      cases hr with
      | cons h1 hr =>
      cases h1
      cases hr
      have er5 := s5 _ _ er
      refine iteF ⟨_, rfl, _, rfl, _, rfl, r, _, 0, _, rfl, rfl, .inl (.inl er5), atI_nat (j := 0) rfl, _, rfl, r, _, 1, _, rfl, rfl, .inl (.inl er5), atI_nat (j := 1) rfl, x, b, tops, cur, rs, i, e1, rfl, hp.keep (.same s35), s5 _ _ eb3, l40, ft, lc, li, fun H6 s6 => ⟨_, rfl, ?_⟩⟩
      have s36 := s35.trans s6
      have gd : goD tops rs cur (.tuple [.int (i : Int), .int e1]) = canB tops rs cur i e1 := by
        unfold goD
        rw [rb, Bool.true_and]
        show canB tops rs cur (natD (.int (i : Int))) (numP (.int e1)) = _
        rw [show natD (.int (i : Int)) = i from Int.toNat_natCast i]
        rfl
      cases cb : canB tops rs cur i e1 with
      | false =>
        refine iteT ⟨_, rfl, mkX fun dd nd => ?_⟩
        exact qE _ dd j (s36.trans (same_new nd)) (s36.free nd) (no (by rw [gd, cb])) upd_same
      | true =>
      have er6 := s6 _ _ er5
      refine iteF ⟨_, rfl, _, rfl, r, _, 0, _, rfl, rfl, .inl (.inl er6), atI_nat (j := 0) rfl, _, rfl, r, _, 1, _, rfl, rfl, .inl (.inl er6), atI_nat (j := 1) rfl, b, i, e1, cur, rfl, (s5.trans s6) _ _ eb3, by omega, by omega, fun g H7 s7 eg => ⟨g, cur.set i e1, ⟨_, _, rfl⟩, s36.trans s7, eg, by rw [List.length_set]; exact lc, ?_⟩⟩
      rw [wk]
      show (if goD tops rs cur _ = true then wkL tops rs (ds.drop (j + 1)) (j + 1) (mvD cur _) else _) = _
      rw [gd, cb]
      show wkL tops rs (ds.drop (j + 1)) (j + 1) (cur.set (natD (.int (i : Int))) (numP (.int e1))) = _
      rw [show natD (.int (i : Int)) = i from Int.toNat_natCast i]
      rfl
    · obtain ⟨b, cur, ⟨u4, u5, rfl⟩, s2, eb, lc, wk⟩ := y
      rw [ll, List.drop_length] at wk
      exact ⟨_, rfl, q H2 b cur s2 wk eb⟩
end

/-! ### what is told of rows: the law -/
section
variable {P : Program} {w : World} {K : PySem.W.Frag} {mg : Str → Option Value} {base : Heap}
/-- (None, where one is), or (the number, None) -/
def ToldAt (H : Hp) (p : Addr) : Nat ⊕ List Int → Prop
  | .inl k => H p = some (.tup [.int (k : Int), .non])
  | .inr m => ∃ b : Addr, H p = some (.tup [.non, .ref b]) ∧ H b = some (.tup (m.map V.int))
def spTold21 (C : Addr) : Sp := fun vs H Q _ => ∃ (n x a : Addr) (tops st : List Int) (rs : List Rl) (v : V) (d : PyData), vs = [.ref x, .ref a, v] ∧ PlanAt C H x tops rs ∧ H a = some (.tup (st.map V.int)) ∧ st.length = tops.length ∧ tops.length ≤ 12 ∧ rs.length ≤ 40 ∧ (∀ q ∈ rs, RuleOk tops q) ∧ Da n H v d ∧
  ∀ H' p, Same H H' → ToldAt H' p (wkD tops rs st d) → Q (.ref p) H'
abbrev a__law_told : Stmt := topS 54
abbrev n__law_told : List Str := ["_law_plan_here", "_law_one", "_law_rows_here", "_law_caught", "_law_found", "e"]
theorem sc__law_told : FnScope n__law_told ["_law_plan_here", "_law_one", "_law_rows_here"] (defScope a__law_told) := ⟨rfl, rfl, rfl, by decide +kernel, rfl, by decide +kernel, by decide +kernel⟩
set_option maxHeartbeats 8000000 in
theorem ok__law_told {f fWa : Addr} {fd fdWa : FuncData} {k : Nat} {C CW CB CS fN : Addr} {fdN : FuncData} (F : Fun K "_law_told" "_law_told" a__law_told f fd) (Wa : KnX P w K mg base 5 "walked" ["plan", "standing", "way"] (spWkX C CW) fWa fdWa) (TN : ExT K mg "NoWay" "at" CW fN fdN) (XC : ExcC K CW) (gB : mg "BothError" = some (.ref CB)) (gS : mg "NoStanding" = some (.ref CS)) (EM : PySem.W.exmOne K (.ref CW) (.ref CB) = some true) (KW : PySem.W.kitOne K (.ref CW) (.ref CW) = some true) (KN : PySem.W.kitOne K (.ref CW) (.ref CS) = some false) (m_isinstance : mg "isinstance" = none) : FnOk P w K mg base CX0 (k + 6) f fd ["_law_plan_here", "_law_one", "_law_rows_here"] (spTold21 C) := by
  refine F.ok sc__law_told (fun vs H Q E h => ?_) (fun cdv A outer s H vs Q E hr h => ?_)
  · obtain ⟨n, x, a, tops, st, rs, v, d, rfl, _⟩ := h
    rfl
  · obtain ⟨n, x, a, tops, st, rs, v, d, rfl, hp, ea, lst, l12, l40, rok, hd, q⟩ := h
    refine ⟨_, (pss_cons (ps_asg (pe_tup (pa_cons pe_non (pa_cons pe_non pa_nil))) (pg_tup rfl (pgs_cons (pg_name (i := 3) sc__law_told.nd rfl (.inl rfl)) (pgs_cons (pg_name (i := 4) sc__law_told.nd rfl (.inl rfl)) pgs_nil))))
      (pss_cons (ps_try_keep (i := 5) (tb := fun W => tAsg (tCallS (spWkX C CW) (WE W) (tCons (tVar 0) (tCons (tVar 1) (tCons (tVar 2) tNil)))) (gName 4)) (ts := fun a cls d => tAsg (tVar 5) (gName 3)) (Wout := fun _ _ _ _ => False) rfl rfl sc__law_told.nd rfl rfl ⟨rfl, by decide, Or.inl gB⟩ rfl takes0 (fun W pn xe tk _ => pss_one (ps_set (i := 4) sc__law_told.nd rfl (Or.inl rfl) (by exact (pe_knS Wa hr (by omega) tk (by exact (pa_cons (pv 0) (pa_cons (pv 1) (pa_cons (pv 2) pa_nil)))))))) (fun a oe cls d pn hz hf => pss_one (ps_set (i := 3) sc__law_told.nd rfl (Or.inl rfl) (by exact (pv 5)))))
      (pss_cons (ps_if (pt_cmpR op_isN (pv 3) pe_non (nomark _)) (pss_one (ps_ret (pe_tup (pa_cons pe_non (pa_cons (pv 4) pa_nil))))) pss_nil)
      (pss_one (ps_ret (pe_ifExp (PW.pt (pw_and (pt_val (pe_callB call_isKp (by rfl) m_isinstance (by decide +kernel) (pa_cons (pv 3) (pa_cons (pe_glob (v := .ref CW) rfl TN.gC rfl) pa_nil)))) (pw_and1 (pt_not (pt_val (pe_callB call_isKp (by rfl) m_isinstance (by decide +kernel) (pa_cons (pv 3) (pa_cons (pe_glob (v := .ref CS) rfl gS rfl) pa_nil)))))))) (pe_tup (pa_cons (pe_kf TN.xf TN.noN (pv 3)) (pa_cons pe_non pa_nil))) (pe_tup (pa_cons pe_str (pa_cons pe_non pa_nil))))))))), ?_⟩
    have w2 : (2 : Nat) ≤ sizeLine := by decide
    refine ⟨w2, fun T nT => ?_⟩
    have sT := same_new (o := HO.tup [V.non, V.non]) nT
    refine ⟨T, _, rfl, .inl (.inl upd_same), rfl, _, _, rfl, _, _, rfl, rfl, ?_⟩
    generalize upd H T (.tup [V.non, V.non]) = H1 at sT ⊢
    refine ⟨_, rfl, _, rfl, _, rfl, n, x, a, tops, st, rs, v, d, rfl, hp.keep (.same sT), sT _ _ ea, lst, l12, l40, rok, hd.same sT, fun H2 p m s2 wk ep => ?_, fun H2 dd k s2 nd wk ed => ?_⟩
    · refine ⟨_, rfl, rfl, _, rfl, iteTrue rfl ⟨_, rfl, w2, fun r nr => ?_⟩⟩
      have sr := same_new (o := HO.tup [V.non, V.ref p]) nr
      exact q _ r ((sT.trans s2).trans sr) (by rw [wk]; exact ⟨p, upd_same, sr _ _ ep⟩)
    · refine ⟨true, EM, fun _ a na => ⟨.ref a, rfl, fun nH => ?_⟩, fun z => Bool.noConfusion z⟩
      have s3 := same_new (o := xo a (.ref CW) (some dd)) nH
      have ea' : (upd H2 a (xo a (.ref CW) (some dd))) a = some (xo a (.ref CW) (some dd)) := upd_same
      have ed3 := s3 _ _ ed
      generalize upd H2 a (xo a (.ref CW) (some dd)) = H3 at s3 ea' ed3 ⊢
      have kp : KpAt H3 a CW [("at", .int (k : Int))] := ⟨dd, ea', ed3⟩
      refine ⟨_, rfl, rfl, _, rfl, iteFalse (decide_eq_false fun z => by cases z) ?_⟩
      refine ⟨_, rfl, a, CW, _, _, .ref CW, true, rfl, kp, XC, (fun u r => r), KW, _, rfl, iteT ?_⟩
      refine ⟨_, rfl, a, CW, _, _, .ref CS, false, rfl, kp, XC, (fun u r => r), KN, _, rfl, iteT ?_⟩
      refine ⟨_, rfl, a, _, _, rfl, kp, rfl, w2, fun r nr => ?_⟩
      have s4 := same_new (o := HO.tup [V.int (k : Int), V.non]) nr
      exact q _ r (((sT.trans s2).trans s3).trans s4) (by rw [wk]; exact upd_same)
end
end K21

set_option Elab.async false
set_option linter.all false
set_option maxRecDepth 100000
namespace NB
open PySem PySem.Spec PyProof.Rows L2
section
variable {X : Cx}
/-- x in t, x not in t, t a tuple of data of any depth -/
def rInT (K : PySem.W.Frag) (neg : Bool) : R2 := fun x y H Q => ∃ d ds, Dp K H x d ∧ Dp K H y (.tuple ds) ∧ SeqAt.shaped d = true ∧ SeqAt.shaped (.tuple ds) = true ∧ Q (.bl (if neg then !ds.any fun z => PyData.eqv z d else ds.any fun z => PyData.eqv z d)) H
theorem inT (hu : X.A.units + 65 < cLine) : OpR X (compareOp .In) (rInT X.K false) := by
  intro pins s σ H x y v u Q I rx ry h
  obtain ⟨d, ds, h1, h2, sh1, sh2, q⟩ := h
  obtain ⟨as, r1⟩ := Dp.reads I d x v h1 rx
  obtain ⟨bs, r2⟩ := Dp.reads I (.tuple ds) y u h2 ry
  exact SeqAt.in_tuple_reads r2 r1 (SeqAt.canLay_of_shaped sh2) (SeqAt.canLay_of_shaped sh1) (room_in_shaped sh1 hu) ⟨.bl _, H, I, rfl, q⟩
theorem notInT (hu : X.A.units + 65 < cLine) : OpR X (compareOp .NotIn) (rInT X.K true) := by
  intro pins s σ H x y v u Q I rx ry h
  obtain ⟨d, ds, h1, h2, sh1, sh2, q⟩ := h
  obtain ⟨as, r1⟩ := Dp.reads I d x v h1 rx
  obtain ⟨bs, r2⟩ := Dp.reads I (.tuple ds) y u h2 ry
  exact SeqAt.notIn_tuple_reads r2 r1 (SeqAt.canLay_of_shaped sh2) (SeqAt.canLay_of_shaped sh1) (room_in_shaped sh1 hu) ⟨.bl _, H, I, rfl, q⟩
end
end NB

set_option Elab.async false
set_option linter.all false
set_option maxRecDepth 100000
namespace K21
open PySem PySem.Spec PyProof.Rows L2 NB
theorem tand_join {c x : Bool} {tb : TE} {σ : L2.St} {H : Hp} {K : VK} (hb : ∀ Q : VK, Q (.bl x) H → tb σ H Q) (q : K (.bl (c && x)) H) : if c = true then tb σ H K else K (.bl false) H := by
  cases c with
  | true => exact hb K q
  | false => exact q
theorem tif_join {c : Bool} {v : V} {ta tb : TE} {σ : L2.St} {H : Hp} {K : VK} (ha : c = true → ∀ Q : VK, Q v H → ta σ H Q) (hb : ¬ c = true → ∀ Q : VK, Q v H → tb σ H Q) (q : K v H) : if c = true then ta σ H K else tb σ H K := by
  cases c with
  | true => exact ha rfl K q
  | false => exact hb (by simp) K q
theorem tand_joinT {c x : Bool} {u : TT} {σ : L2.St} {H : Hp} {Q : Bool → Hp → Prop} (hu : ∀ Q : Bool → Hp → Prop, Q x H → u σ H Q) (q : Q (c && x) H) : if c = true then u σ H Q else Q false H := by
  cases c with
  | true => exact hu Q q
  | false => exact q
theorem tor_join {c x : Bool} {u : TT} {σ : L2.St} {H : Hp} {Q : Bool → Hp → Prop} (hu : ∀ Q : Bool → Hp → Prop, Q x H → u σ H Q) (q : Q (c || x) H) : if c = true then Q true H else u σ H Q := by
  cases c with
  | true => exact q
  | false => exact hu Q q

/-! ### the law: which sides are in, which rules are broken -/
abbrev aIn : Stmt := topS 39
theorem scLIn : FnScope ["_law_side", "_law_standing_here", "_law_thing", "_law_word", "_law_place"] ["_law_side", "_law_standing_here"] (defScope aIn) := ⟨rfl, rfl, rfl, by decide +kernel, rfl, by decide +kernel, by decide +kernel⟩
section
variable {P : Program} {w : World} {K : PySem.W.Frag} {mg : Str → Option Value} {base : Heap}
theorem ok_lin {f : Addr} {fd : FuncData} {k : Nat} (F : Fun K "_law_is_in" "_law_is_in" aIn f fd) : FnOk P w K mg base CX0 (k + 1) f fd ["_law_side", "_law_standing_here"] spIn := by
  refine F.ok scLIn (fun vs H Q E h => ?_) (fun cdv A outer s H vs Q E hr h => ?_)
  · obtain ⟨p, t, sd, xs, rfl, _⟩ := h
    rfl
  · obtain ⟨p, t, ⟨n, b, pl⟩, xs, rfl, ep, et, ln, q⟩ := h
    have ep' : H p = some (.tup [.int (n : Int), .str (word b), .int pl]) := ep
    have ln' : n < xs.length := ln
    have eg := at_int ln'
    have eb : inB xs (n, b, pl) = if b then decide (pl ≤ xs[n]) else decide (xs[n] ≤ pl) := by
      unfold inB
      simp only [List.getElem?_eq_getElem ln']
    rw [eb] at q
    refine ⟨_, pss_cons (ps_asg (pv 0) (pg_tup (by rfl) (pgs_cons (pg_name (i := 2) scLIn.nd rfl (.inl rfl)) (pgs_cons (pg_name (i := 3) scLIn.nd rfl (.inl rfl)) (pgs_cons (pg_name (i := 4) scLIn.nd rfl (.inl rfl)) pgs_nil)))))
      (pss_one (ps_ret (pe_ifExp (pt_cmpR op_eq (pv 3) pe_str (nomark _)) (pe_cmpR op_ge (pe_ix ix_tup (pv 1) (pv 2) (fun _ _ => rfl)) (pv 4) (nomark _)) (pe_cmpR op_le (pe_ix ix_tup (pv 1) (pv 2) (fun _ _ => rfl)) (pv 4) (nomark _))))), ?_⟩
    refine ⟨.ref p, rfl, p, _, rfl, .inl (.inl ep'), rfl, _, _, rfl, _, _, rfl, _, _, rfl, rfl, ?_⟩
    cases b with
    | true =>
      refine ⟨_, rfl, rfl, true, congrArg V.bl w_from, iteT ?_⟩
      exact ⟨.ref t, rfl, .int n, rfl, t, _, n, _, rfl, rfl, .inl (.inl et), eg, .int pl, rfl, _, pl, rfl, rfl, q⟩
    | false =>
      refine ⟨_, rfl, rfl, false, congrArg V.bl w_to, iteF ?_⟩
      exact ⟨.ref t, rfl, .int n, rfl, t, _, n, _, rfl, rfl, .inl (.inl et), eg, .int pl, rfl, _, pl, rfl, rfl, q⟩
end
abbrev aBrk : Stmt := topS 40
abbrev nBrk : List Str := ["_law_rules_here", "_law_standing_here", "_law_found", "_law_number", "_law_one", "_law_two"]
theorem scBrk : FnScope nBrk ["_law_rules_here", "_law_standing_here"] (defScope aBrk) := ⟨rfl, rfl, rfl, by decide +kernel, rfl, by decide +kernel, by decide +kernel⟩
section
variable {P : Program} {w : World} {K : PySem.W.Frag} {mg : Str → Option Value} {base : Heap}
def spBrk : Sp := fun vs H Q _ => ∃ (R t : Addr) (rs : List Rl) (xs : List Int), vs = [.ref R, .ref t] ∧ RulesAt H R rs ∧ H t = some (.tup (xs.map V.int)) ∧ rs.length ≤ 40 ∧ (∀ q ∈ rs, Fit xs q) ∧
  ∀ H' p, Same H H' → H p = none → H' p = some (.lst ((brok xs rs).map V.int)) → Q (.ref p) H'
set_option maxHeartbeats 2000000 in
theorem ok_brk {f fL : Addr} {fd fdL : FuncData} {k : Nat} (F : Fun K "_law_broken" "_law_broken" aBrk f fd) (Ln : Kn P w K mg base 1 "_law_is_in" ["_law_side", "_law_standing_here"] spIn fL fdL) (me : mg "enumerate" = none) : FnOk P w K mg base CX0 (k + 2) f fd ["_law_rules_here", "_law_standing_here"] spBrk := by
  refine F.ok scBrk (fun vs H Q E h => ?_) (fun cdv A outer s H vs Q E hr h => ?_)
  · obtain ⟨R, t, rs, xs, rfl, _⟩ := h
    rfl
  · obtain ⟨R, t, rs, xs, rfl, ⟨as, eR, la, ha⟩, et, l40, ft, q⟩ := h
    refine ⟨_, pss_cons (ps_set (i := 2) scBrk.nd rfl (.inl rfl) (pe_lst pa_nil))
      (pss_cons (ps_for PassesOwn.never rfl (pi_enumT (by rfl) me (pa_cons (pv 0) pa_nil)) (pg_tup rfl (pgs_cons (pg_name (i := 3) scBrk.nd rfl (.inl rfl)) (pgs_cons (pg_tup rfl (pgs_cons (pg_name (i := 4) scBrk.nd rfl (.inl rfl)) (pgs_cons (pg_name (i := 5) scBrk.nd rfl (.inl rfl)) pgs_nil))) pgs_nil)))
        (pss_one (ps_if (PW.pt (pw_and (pt_not (pt_val (pe_kn Ln hr (by omega) (pa_cons (pv 4) (pa_cons (pv 1) pa_nil))))) (pw_and1 (pt_not (pt_val (pe_kn Ln hr (by omega) (pa_cons (pv 5) (pa_cons (pv 1) pa_nil))))))))
          (pss_one (ps_expr (pe_bm PySem.F.plainAttrs_list PySem.F.slot_list_append PySem.F.type_list_append mt_append (pv 2) (pa_cons (pv 3) pa_nil)))) pss_nil)))
      (pss_one (ps_ret (pv 2)))), ?_⟩
    refine ⟨Nat.zero_le _, fun l nl => ?_⟩
    have sl := same_new (o := HO.lst []) nl
    refine ⟨.ref R, rfl, R, _, rfl, .inl (.inl (sl _ _ eR)), for_it (walk_enumT (xs := as.map V.ref)) (fun i σ H' => (∃ u3 u4 u5, σ = [some (.ref R), some (.ref t), some (.ref l), u3, u4, u5]) ∧ Same H H' ∧ H' l = some (.lst ((brok xs (rs.take i)).map V.int)))
      ⟨⟨none, none, none, rfl⟩, sl, upd_same⟩ (fun i σ H' _ p => .inl (.inl (p.2.1 _ _ eR))) (fun i v σ H2 H3 hi p y => ?_) (fun σ H2 p => ?_)⟩
    · obtain ⟨⟨u5, u6, u7, rfl⟩, s2, el⟩ := p
      obtain ⟨T', x1, x2, rfl, nT, rfl, g1, g2⟩ := y
      have e1 : x1 = .int (i : Nat) := (Option.some.inj g1).symm
      subst e1
      obtain ⟨r, er, rfl⟩ := mapGet g2
      have hi' : i < as.length := by simpa using hi
      have hr' : i < rs.length := by omega
      have eq : rs[i]? = some rs[i] := List.getElem?_eq_getElem hr'
      have nTl : l ≠ T' := ne_of_none el nT
      have smT : Same H (upd H2 T' (.tup [V.int (i : Nat), V.ref r])) := same_over s2 (s2.free nT)
      have elT : (upd H2 T' (.tup [V.int (i : Nat), V.ref r])) l = some (.lst ((brok xs (rs.take i)).map V.int)) := (upd_ne nTl).trans el
      obtain ⟨p1, p2, e3, h1, h2⟩ := (ha i r _ er eq).keep (.same smT)
      have fi := ft _ (List.getElem_mem hr')
      have et3 := smT _ _ et
      have bt := brok_take xs rs i _ eq
      refine ⟨T', _, rfl, .inl (.inl upd_same), rfl, _, _, rfl, _, _, rfl, ⟨r, _, rfl, .inl (.inl e3), rfl, _, _, rfl, _, _, rfl, rfl, ?_⟩⟩
      refine ⟨rfl, .ref p1, rfl, .ref t, rfl, p1, t, rs[i].1, xs, rfl, h1, et3, fi.1, _, rfl, ?_⟩
      cases c1 : inB xs rs[i].1 with
      | true =>
        refine iteF (iteF ⟨⟨_, _, _, rfl⟩, smT, ?_⟩)
        rw [bt]
        simp only [kept, c1, Bool.true_or, if_true, List.append_nil]
        exact elT
      | false =>
        refine iteT ⟨.ref p2, rfl, .ref t, rfl, p2, t, rs[i].2, xs, rfl, h2, et3, fi.2, _, rfl, ?_⟩
        cases c2 : inB xs rs[i].2 with
        | true =>
          refine iteF ⟨⟨_, _, _, rfl⟩, smT, ?_⟩
          rw [bt]
          simp only [kept, c1, c2, Bool.or_true, if_true, List.append_nil]
          exact elT
        | false =>
          refine iteT ⟨.ref l, rfl, .inl ⟨rfl, _, .inl (.inl elT)⟩, .int (i : Nat), rfl, l, _, _, rfl, rfl, elT, ?_, ⟨_, _, _, rfl⟩, same_over smT nl, ?_⟩
          · rw [List.length_map]
            refine Nat.lt_of_le_of_lt (brok_len _ _) ?_
            rw [List.length_take]
            exact small1000 (by omega)
          · rw [upd_same, bt]
            simp only [kept, c1, c2, Bool.or_false, Bool.false_eq_true, if_false, List.map_append]
            rfl
    · obtain ⟨⟨u5, u6, u7, rfl⟩, s2, el⟩ := p
      rw [List.length_map, List.take_of_length_le (by omega)] at el
      exact ⟨_, rfl, q _ l s2 nl el⟩
end
end K21

set_option Elab.async false
set_option linter.all false
set_option maxRecDepth 100000
namespace K21
open PySem PySem.Spec PyProof.Rows L2 NB

/-! ### whether a thing goes there, by the spots of the rules: both answers -/
def Sp1 (i : Nat) (ss : List Int) (sd : Sd) : Prop := sd.1 = i → sd.2.2 - 1 ∈ ss ∧ sd.2.2 ∈ ss ∧ sd.2.2 + 1 ∈ ss
theorem Sp1.more {i : Nat} {ss : List Int} {sd : Sd} (h : Sp1 i ss sd) (zs : List Int) : Sp1 i (ss ++ zs) sd := fun e => ⟨List.mem_append_left _ (h e).1, List.mem_append_left _ (h e).2.1, List.mem_append_left _ (h e).2.2⟩
def lowS (i : Nat) (lo : Int) (sd : Sd) : Int := if sd.1 = i then (if sd.2.1 then lo else max lo (sd.2.2 + 1)) else lo
/-- a side that is out at a place is out at the least one by which it is told -/
theorem low_out {xs : List Int} {sd : Sd} {i : Nat} {lo y z : Int} (hs : sd.1 < xs.length) (hi : i < xs.length) (h : inB (xs.set i y) sd = false) (ly : lo ≤ y) : lowS i lo sd ≤ y ∧ lo ≤ lowS i lo sd ∧ (lowS i lo sd ≤ z → z ≤ y → inB (xs.set i z) sd = false) := by
  rw [tst_in (by rw [List.length_set]; exact hs)] at h
  rw [tst_in (by rw [List.length_set]; exact hs)]
  unfold lowS
  by_cases c : sd.1 = i
  · rw [if_pos c]
    rw [c, plc_set_self hi] at h ⊢
    cases w : sd.2.1 with
    | true =>
      rw [w] at h
      simp at h ⊢
      omega
    | false =>
      rw [w] at h
      simp at h ⊢
      omega
  · rw [if_neg c]
    rw [plc_set_ne (fun e => c e.symm)] at h ⊢
    exact ⟨ly, Int.le_refl _, fun _ _ => h⟩
theorem spots_all {xs ss : List Int} {rs : List Rl} {i : Nat} {e : Int} (ft : ∀ q ∈ rs, Fit xs q) (hi : i < xs.length) (m1 : plc xs i ∈ ss) (m2 : e ∈ ss) (m3 : ∀ q ∈ rs, Sp1 i ss q.1 ∧ Sp1 i ss q.2) (al : ∀ z ∈ ss, min (plc xs i) e ≤ z → z ≤ max (plc xs i) e → rs.all (kept (xs.set i z)) = true) {y : Int} (hy : Btw (plc xs i) y e) : rs.all (kept (xs.set i y)) = true := by
  refine List.all_eq_true.mpr fun q hq => ?_
  cases k : kept (xs.set i y) q with
  | true => rfl
  | false =>
    have k' : (inB (xs.set i y) q.1 || inB (xs.set i y) q.2) = false := k
    rw [Bool.or_eq_false_iff] at k'
    unfold Btw at hy
    obtain ⟨f1, f2⟩ := ft q hq
    have a := low_out (z := max (lowS i (min (plc xs i) e) q.1) (lowS i (min (plc xs i) e) q.2)) f1 hi k'.1 hy.1
    have b := low_out (z := max (lowS i (min (plc xs i) e) q.1) (lowS i (min (plc xs i) e) q.2)) f2 hi k'.2 hy.1
    have h1 := a.2.2 (by omega) (by omega)
    have h2 := b.2.2 (by omega) (by omega)
    have one : ∀ sd : Sd, Sp1 i ss sd → lowS i (min (plc xs i) e) sd ∈ ss := fun sd h => by
      have m0 : min (plc xs i) e ∈ ss := by
        rcases Int.le_total (plc xs i) e with h | h
        · rw [Int.min_eq_left h]
          exact m1
        · rw [Int.min_eq_right h]
          exact m2
      unfold lowS
      split
      · rename_i c
        split
        · exact m0
        · rcases Int.le_total (min (plc xs i) e) (sd.2.2 + 1) with h' | h'
          · rw [Int.max_eq_right h']
            exact (h c).2.2
          · rw [Int.max_eq_left h']
            exact m0
      · exact m0
    have mz : max (lowS i (min (plc xs i) e) q.1) (lowS i (min (plc xs i) e) q.2) ∈ ss := by
      rcases Int.le_total (lowS i (min (plc xs i) e) q.1) (lowS i (min (plc xs i) e) q.2) with h | h
      · rw [Int.max_eq_right h]
        exact one _ (m3 q hq).2
      · rw [Int.max_eq_left h]
        exact one _ (m3 q hq).1
    have g := List.all_eq_true.mp (al _ mz (by omega) (by omega)) q hq
    have g' : (inB (xs.set i (max (lowS i (min (plc xs i) e) q.1) (lowS i (min (plc xs i) e) q.2))) q.1 || inB (xs.set i (max (lowS i (min (plc xs i) e) q.1) (lowS i (min (plc xs i) e) q.2))) q.2) = true := g
    rw [h1, h2] at g'
    cases g'
theorem eqv_nilL' (xs : List Int) : PyData.eqv (.list (xs.map PyData.int)) (.list []) = decide (xs = []) := by
  cases xs <;> rfl
section
variable {P : Program} {w : World} {K : PySem.W.Frag} {mg : Str → Option Value} {base : Heap}
def spGoesD : Sp := fun vs H Q _ => ∃ (R t : Addr) (rs : List Rl) (xs : List Int) (i : Nat) (e : Int), vs = [.ref R, .ref t, .int (i : Int), .int e] ∧ RulesAt H R rs ∧ H t = some (.tup (xs.map V.int)) ∧ rs.length ≤ 40 ∧ (∀ q ∈ rs, Fit xs q) ∧ i < xs.length ∧ xs.length ≤ 12 ∧
  ∀ H' b, Same H H' → (b = true ↔ e ≠ plc xs i ∧ ∀ y, Btw (plc xs i) y e → rs.all (kept (xs.set i y)) = true) → Q (.bl b) H'
abbrev a__law_goes : Stmt := topS 47
abbrev n__law_goes : List Str := ["_law_rules_here", "_law_standing_here", "_law_thing", "_law_place", "_law_low", "_law_high", "_law_spots", "_law_rule", "_law_other", "_law_word", "_law_spot", "_law_there"]
theorem sc__law_goes : FnScope n__law_goes ["_law_rules_here", "_law_standing_here", "_law_thing", "_law_place"] (defScope a__law_goes) := ⟨rfl, rfl, rfl, by decide +kernel, rfl, by decide +kernel, by decide +kernel⟩
set_option maxHeartbeats 8000000 in
theorem ok__law_goes {f fBr : Addr} {fd fdBr : FuncData} {k : Nat}  (F : Fun K "_law_goes" "_law_goes" a__law_goes f fd) (Br : Kn P w K mg base 2 "_law_broken" ["_law_rules_here", "_law_standing_here"] spBrk fBr fdBr)  (m_max : mg "max" = none) (m_min : mg "min" = none) : FnOk P w K mg base CX0 (k + 3) f fd ["_law_rules_here", "_law_standing_here", "_law_thing", "_law_place"] spGoesD := by
  refine F.ok sc__law_goes (fun vs H Q E h => ?_) (fun cdv A outer s H vs Q E hr h => ?_)
  · obtain ⟨R, t, rs, xs, i, e, rfl, _⟩ := h
    rfl
  · obtain ⟨R, t, rs, xs, i, e, rfl, hR, et, l40, ft, li, l12, q⟩ := h
    refine ⟨_, (pss_cons (ps_par3 (i := 4) (j := 5) (l := 6) (by rfl) sc__law_goes.nd rfl rfl rfl (by decide) (by decide) (by decide) rfl rfl rfl (pa_cons (pe_callB (call_min2 rfl) (by rfl) m_min (by decide +kernel) (pa_cons (pe_ix ix_tup (pv 1) (pv 2) (fun _ _ => rfl)) (pa_cons (pv 3) pa_nil))) (pa_cons (pe_callB (call_max2 rfl) (by rfl) m_max (by decide +kernel) (pa_cons (pe_ix ix_tup (pv 1) (pv 2) (fun _ _ => rfl)) (pa_cons (pv 3) pa_nil))) (pa_cons (pe_lst (pa_cons (pe_ix ix_tup (pv 1) (pv 2) (fun _ _ => rfl)) (pa_cons (pv 3) pa_nil))) pa_nil))) (by rfl))
      (pss_cons (ps_for PassesOwn.never rfl (pi_tup (pv 0)) (pg_name (i := 7) sc__law_goes.nd rfl (.inl rfl))
        (pss_one (ps_for PassesOwn.never rfl (pi_tup (pv 7)) (pg_tup rfl (pgs_cons (pg_name (i := 8) sc__law_goes.nd rfl (.inl rfl)) (pgs_cons (pg_name (i := 9) sc__law_goes.nd rfl (.inl rfl)) (pgs_cons (pg_name (i := 10) sc__law_goes.nd rfl (.inl rfl)) pgs_nil))))
        (pss_one (ps_expr (pe_bm PySem.F.plainAttrs_list PySem.F.slot_list_extend PySem.F.type_list_extend mt_extend (pv 6) (pa_cons (pe_ifExp (pt_cmpR op_eq (pv 8) (pv 2) (nomark _)) (pe_lst (pa_cons (pe_op op_sub (pv 10) pe_int) (pa_cons (pv 10) (pa_cons (pe_op op_add (pv 10) pe_int) pa_nil)))) (pe_lst pa_nil)) pa_nil)))))))
      (pss_cons (ps_for PassesOwn.never rfl (pi_list (pv 6)) (pg_name (i := 10) sc__law_goes.nd rfl (.inl rfl))
        (pss_cons (ps_set (i := 11) sc__law_goes.nd rfl (.inl rfl) (pe_op (r := rCatA K) op_catA (pe_op (r := rCatA K) op_catA (pe_slice (r := rSlA K) sl_tupA (pv 1) po_none (po_some (pv 2))) (pe_tup (pa_cons (pv 10) pa_nil))) (pe_slice (r := rSlA K) sl_tupA (pv 1) (po_some (pe_op op_add (pv 2) pe_int)) po_none)))
      (pss_one (ps_if (PW.pt (pw_and (pt_chain op_le op_le (pv 4) (pv 10) (pv 5)) (pw_and1 (pt_cmpR (op_neD hr.units) (pe_kn Br hr (by omega) (pa_cons (pv 0) (pa_cons (pv 11) pa_nil))) (pe_lst pa_nil) (nomark _))))) (pss_one (ps_ret pe_bl)) pss_nil))))
      (pss_one (ps_ret (pe_cmpR op_ne (pv 3) (pe_ix ix_tup (pv 1) (pv 2) (fun _ _ => rfl)) (nomark _))))))), ?_⟩
    obtain ⟨as, eR, la, ha⟩ := id hR
    have g1 : atI (xs.map V.int) (i : Int) = some (.int (plc xs i)) := by
      rw [plc_get li]
      exact at_int li
    refine ⟨.ref t, rfl, .int i, rfl, t, _, i, _, rfl, rfl, .inl (.inl et), g1, .int e, rfl, _, _, rfl, .ref t, rfl, .int i, rfl, t, _, i, _, rfl, rfl, .inl (.inl et), g1, .int e, rfl, _, _, rfl, .ref t, rfl, .int i, rfl, t, _, i, _, rfl, rfl, .inl (.inl et), g1, .int e, rfl, (show 2 ≤ sizeLine by decide), fun l nl => ⟨_, _, _, rfl, ?_⟩⟩
    have s0 := same_new (o := HO.lst [V.int (plc xs i), V.int e]) nl
    have el0 : (upd H l (.lst [V.int (plc xs i), V.int e])) l = some (.lst ([plc xs i, e].map V.int)) := upd_same
    generalize (upd H l (.lst [V.int (plc xs i), V.int e])) = H0 at s0 el0 ⊢
    generalize hlo : (if e < plc xs i then e else plc xs i) = lo
    generalize hhi : (if e > plc xs i then e else plc xs i) = hi
    refine ⟨.ref R, rfl, R, rfl, ⟨_, .inl (.inl (s0 _ _ eR))⟩, for_it (walk_tup (xs := as.map V.ref)) (fun m σ H' => (∃ u7 u8 u9 u10, σ = [some (.ref R), some (.ref t), some (.int i), some (.int e), some (.int lo), some (.int hi), some (.ref l), u7, u8, u9, u10, none]) ∧ Same H H' ∧ ∃ ss : List Int, H' l = some (.lst (ss.map V.int)) ∧ ss.length ≤ 2 + 6 * m ∧ plc xs i ∈ ss ∧ e ∈ ss ∧ ∀ q ∈ rs.take m, Sp1 i ss q.1 ∧ Sp1 i ss q.2)
      ⟨⟨none, none, none, none, rfl⟩, s0, _, el0, Nat.le_refl _, List.mem_cons_self, List.mem_cons_of_mem _ List.mem_cons_self, fun q hq => by simp at hq⟩ (fun m σ H' _ p => .inl (.inl (p.2.1 _ _ eR))) (fun m v σ H1 H2 hm p y => ?_) (fun σ H1 p => ?_)⟩
    · obtain ⟨⟨u7, u8, u9, u10, rfl⟩, s1, ss, el, lss, m1, m2, m3⟩ := p
      obtain ⟨rfl, gv⟩ := y
      obtain ⟨r, er, rfl⟩ := mapGet gv
      have hm' : m < as.length := by simpa using hm
      have hr' : m < rs.length := by omega
      obtain ⟨p1, p2, e3, h1, h2⟩ := (ha m r _ er (List.getElem?_eq_getElem hr')).keep (.same s1)
      refine ⟨.ref r, rfl, r, rfl, ⟨_, .inl (.inl e3)⟩, for_it (walk_tup (xs := [V.ref p1, V.ref p2])) (fun j σ H' => (∃ u8 u9 u10, σ = [some (.ref R), some (.ref t), some (.int i), some (.int e), some (.int lo), some (.int hi), some (.ref l), some (.ref r), u8, u9, u10, none]) ∧ Same H H' ∧ H' r = some (.tup [V.ref p1, V.ref p2]) ∧ ∃ ss : List Int, H' l = some (.lst (ss.map V.int)) ∧ ss.length ≤ 2 + 6 * m + 3 * j ∧ plc xs i ∈ ss ∧ e ∈ ss ∧ (∀ q ∈ rs.take m, Sp1 i ss q.1 ∧ Sp1 i ss q.2) ∧ ∀ k sd, k < j → [rs[m].1, rs[m].2][k]? = some sd → Sp1 i ss sd)
        ⟨⟨_, _, _, rfl⟩, s1, e3, ss, el, by omega, m1, m2, m3, fun k sd hk => absurd hk (Nat.not_lt_zero _)⟩ (fun j σ H' _ p => .inl (.inl p.2.2.1)) (fun j v σ H3 H4 hj p y => ?_) (fun σ H3 p => ?_)⟩
      · obtain ⟨⟨u8, u9, u10, rfl⟩, s3, er3, ss3, el3, lss3, m1, m2, m3, m4⟩ := p
        obtain ⟨rfl, gv⟩ := y
        have j2 : j < 2 := hj
        obtain ⟨o, sd, rfl, eo, esd⟩ : ∃ o sd, v = .ref o ∧ SideAt H4 o sd ∧ [rs[m].1, rs[m].2][j]? = some sd := by
          have hR4 := (ha m r _ er (List.getElem?_eq_getElem hr')).keep (.same s3)
          obtain ⟨a1, a2, e5, k1, k2⟩ := hR4
          rw [er3] at e5
          injection e5 with e5
          injection e5 with e5
          injection e5 with e6 e7
          injection e6 with e6
          injection e7 with e7
          injection e7 with e7
          subst e6 e7
          match j, gv with
          | 0, gv => exact ⟨p1, _, (Option.some.inj gv).symm, k1, rfl⟩
          | 1, gv => exact ⟨p2, _, (Option.some.inj gv).symm, k2, rfl⟩
          | j + 2, gv => simp at gv
        obtain ⟨n, b, pl⟩ := sd
        have eo' : H4 o = some (.tup [.int (n : Int), .str (word b), .int pl]) := eo
        refine ⟨o, _, rfl, .inl (.inl eo'), rfl, _, _, rfl, _, _, rfl, _, _, rfl, rfl, ?_⟩
        have out : ∀ (l2 : Addr) (zs : List Int), H4 l2 = none → zs.length ≤ 3 → Sp1 i (ss3 ++ zs) (n, b, pl) → Same H (upd (upd H4 l2 (.lst (zs.map V.int))) l (.lst (ss3.map V.int ++ zs.map V.int))) ∧ (upd (upd H4 l2 (.lst (zs.map V.int))) l (.lst (ss3.map V.int ++ zs.map V.int))) r = some (.tup [V.ref p1, V.ref p2]) ∧ ∃ ss : List Int, (upd (upd H4 l2 (.lst (zs.map V.int))) l (.lst (ss3.map V.int ++ zs.map V.int))) l = some (.lst (ss.map V.int)) ∧ ss.length ≤ 2 + 6 * m + 3 * (j + 1) ∧ plc xs i ∈ ss ∧ e ∈ ss ∧ (∀ q ∈ rs.take m, Sp1 i ss q.1 ∧ Sp1 i ss q.2) ∧ ∀ k sd, k < j + 1 → [rs[m].1, rs[m].2][k]? = some sd → Sp1 i ss sd := fun l2 zs n2 lz cov => by
          have sl := same_new (o := HO.lst (zs.map V.int)) n2
          refine ⟨same_over (s3.trans sl) nl, (Keep.upd (sl _ _ el3)).tup (sl _ _ er3), ss3 ++ zs, by rw [upd_same, List.map_append], by rw [List.length_append]; omega, List.mem_append_left _ m1, List.mem_append_left _ m2, (fun q hq => ⟨(m3 q hq).1.more zs, (m3 q hq).2.more zs⟩), fun k sd' hk ek => ?_⟩
          by_cases ekj : k = j
          · subst ekj
            rw [esd] at ek
            cases ek
            exact cov
          · exact (m4 k sd' (by omega) ek).more zs
        refine ⟨.ref l, rfl, .inl ⟨rfl, _, .inl (.inl el3)⟩, _, rfl, _, rfl, rfl, _, rfl, ite2 (fun c => ?_) (fun c => ?_)⟩
        · refine ⟨_, rfl, _, 1, rfl, rfl, _, rfl, _, rfl, _, 1, rfl, rfl, (show 3 ≤ sizeLine by decide), fun l2 n2 => ?_⟩
          obtain ⟨o1, o2, o3⟩ := out l2 [pl - 1, pl, pl + 1] n2 (Nat.le_refl _) (fun _ => by simp)
          exact ⟨l, l2, _, _, rfl, rfl, same_new n2 _ _ el3, upd_same, by rw [List.length_map]; exact Nat.le_of_lt (small1000 (by simp only [List.length_cons, List.length_nil]; omega)), ⟨_, _, _, rfl⟩, o1, o2, o3⟩
        · refine ⟨Nat.zero_le _, fun l2 n2 => ?_⟩
          obtain ⟨o1, o2, o3⟩ := out l2 [] n2 (by decide) (fun z => absurd (decide_eq_true (by rw [show n = i from z])) c)
          exact ⟨l, l2, _, _, rfl, rfl, same_new n2 _ _ el3, upd_same, by rw [List.length_map]; exact Nat.le_of_lt (small1000 (by simp only [List.length_nil]; omega)), ⟨_, _, _, rfl⟩, o1, o2, o3⟩
      · obtain ⟨⟨u8, u9, u10, rfl⟩, s3, er3, ss3, el3, lss3, m1, m2, m3, m4⟩ := p
        refine ⟨⟨_, _, _, _, rfl⟩, s3, ss3, el3, by simp only [List.length_cons, List.length_nil] at lss3; omega, m1, m2, fun q hq => ?_⟩
        rw [List.take_add_one, List.getElem?_eq_getElem hr'] at hq
        rcases List.mem_append.mp hq with h | h
        · exact m3 q h
        · have : q = rs[m] := by simpa using h
          rw [this]
          exact ⟨m4 0 _ (show 0 < 2 by decide) rfl, m4 1 _ (show 1 < 2 by decide) rfl⟩
    · obtain ⟨⟨u7, u8, u9, u10, rfl⟩, s1, ss, el, lss, m1, m2, m3⟩ := p
      rw [List.length_map, la, List.take_length] at m3
      refine ⟨.ref l, rfl, l, rfl, ⟨_, .inl (.inl el)⟩, for_it (walk_list (xs := ss.map V.int)) (fun m σ H' => (∃ u10 u11, σ = [some (.ref R), some (.ref t), some (.int i), some (.int e), some (.int lo), some (.int hi), some (.ref l), u7, u8, u9, u10, u11]) ∧ Same H1 H' ∧ ∀ y ∈ ss.take m, lo ≤ y → y ≤ hi → rs.all (kept (xs.set i y)) = true) ⟨⟨_, _, rfl⟩, Same.refl _, fun y hy => by simp at hy⟩ (fun m σ H' _ p => .inl (.inl (p.2.1 _ _ el))) (fun m v σ H2 H3 hm p y => ?_) (fun σ H2 p => ?_)⟩
      · obtain ⟨⟨u10, u11, rfl⟩, s2, al⟩ := p
        obtain ⟨rfl, gv⟩ := y
        obtain ⟨x, ex, rfl⟩ := mapGet gv
        have s12 := s1.trans s2
        have more : (lo ≤ x → x ≤ hi → rs.all (kept (xs.set i x)) = true) → ∀ y ∈ ss.take (m + 1), lo ≤ y → y ≤ hi → rs.all (kept (xs.set i y)) = true := fun h y hy => by
          rw [List.take_add_one, ex] at hy
          rcases List.mem_append.mp hy with h' | h'
          · exact al y h'
          · have : y = x := by simpa using h'
            rw [this]
            exact h
        refine moved_val (K := K) (a := 1) (i := 2) (x := 10) rfl rfl rfl (s12 _ _ et) li l12 fun g H4 s4 e4 => ?_
        have s14 := s12.trans s4
        refine ⟨_, rfl, _, rfl, _, _, rfl, rfl, _, rfl, ite2 (fun c => ?_) (fun c => ?_)⟩
        · refine ⟨_, rfl, _, _, rfl, rfl, _, rfl, ite2 (fun c2 => ?_) (fun c2 => ?_)⟩
          · have b1 := of_decide_eq_true c
            have b2 := of_decide_eq_true c2
            refine ⟨.ref R, rfl, .ref g, rfl, R, g, rs, xs.set i x, rfl, hR.keep (.same s14), e4, l40, fun y hy => ?_, fun H5 p5 s5 np5 ep5 => ?_⟩
            · have := ft y hy
              unfold Fit at this ⊢
              rw [List.length_set]
              exact this
            refine ⟨Nat.zero_le _, fun z nz => ?_⟩
            have s45 := (s14.trans s5).trans (same_new (o := HO.lst []) nz)
            refine ⟨_, _, .lst (.inl (.inl (same_new nz _ _ ep5))) (dps _), .lst (.inl (.inl upd_same)) .nil, shaped_ints_l _, rfl, _, rfl, ?_⟩
            rw [eqv_nilL']
            by_cases gd : brok (xs.set i x) rs = []
            · rw [decide_eq_true gd]
              exact iteF ⟨⟨_, _, rfl⟩, ((s2.trans s4).trans s5).trans (same_new nz), more fun _ _ => (brok_nil _ _).mp gd⟩
            · rw [decide_eq_false gd]
              refine iteT (q _ false s45 ⟨fun z => Bool.noConfusion z, fun ⟨_, h⟩ => absurd ((brok_nil _ _).mpr (h x ?_)) gd⟩)
              unfold Btw
              rw [← hlo] at b1
              rw [← hhi] at b2
              split at b1 <;> split at b2 <;> omega
          · exact iteF ⟨⟨_, _, rfl⟩, s2.trans s4, more fun _ h => absurd (decide_eq_true h) c2⟩
        · have more' := more fun h _ => absurd (decide_eq_true h) c
          first | exact ⟨false, rfl, iteF (iteF ⟨⟨_, _, rfl⟩, s2.trans s4, more'⟩)⟩ | exact iteF ⟨false, rfl, iteF ⟨⟨_, _, rfl⟩, s2.trans s4, more'⟩⟩ | exact ⟨false, rfl, iteF ⟨⟨_, _, rfl⟩, s2.trans s4, more'⟩⟩
      · obtain ⟨⟨u10, u11, rfl⟩, s2, al⟩ := p
        rw [List.length_map, List.take_length] at al
        have s12 := s1.trans s2
        refine ⟨_, rfl, .ref t, rfl, _, rfl, t, _, i, _, rfl, rfl, .inl (.inl (s12 _ _ et)), g1, rfl, ?_⟩
        refine q H2 _ s12 ?_
        have allg : ∀ y, Btw (plc xs i) y e → rs.all (kept (xs.set i y)) = true := fun y hy => by
          refine spots_all ft li m1 m2 m3 (fun z hz h1 h2 => al z hz ?_ ?_) hy
          · rw [← hlo]
            split <;> omega
          · rw [← hhi]
            split <;> omega
        constructor
        · intro h
          refine ⟨fun z => ?_, allg⟩
          rw [z, decide_eq_true rfl] at h
          cases h
        · rintro ⟨h, _⟩
          rw [decide_eq_false (show ¬ V.int e = V.int (plc xs i) from fun z => h (by injection z))]
          rfl
end
end K21

set_option Elab.async false
set_option linter.all false
set_option maxRecDepth 100000
namespace K21
open PySem PySem.Spec PyProof.Rows L2 NB

theorem moved_gen {K : PySem.W.Frag} {σ : L2.St} {H : Hp} {Q : VK} {n : Nat} {p : Addr} {v : Int} {xs : List Int} {ta ti tx : TE} (ha : ∀ H', Same H H' → ∀ Q : VK, Q (.ref p) H' → ta σ H' Q) (hi : ∀ H', Same H H' → ∀ Q : VK, Q (.int (n : Int)) H' → ti σ H' Q) (hx : ∀ H', Same H H' → ∀ Q : VK, Q (.int v) H' → tx σ H' Q) (e : H p = some (.tup (xs.map V.int))) (hn : n < xs.length) (l12 : xs.length ≤ 12)
    (q : ∀ g H', Same H H' → H' g = some (.tup ((xs.set n v).map V.int)) → Q (.ref g) H') : (tOp (rCatA K) (tOp (rCatA K) (tSl (rSlA K) ta tNoPart (tPart ti)) (tTup (tCons tx tNil))) (tSl (rSlA K) ta (tPart (tOp (rI0 fun i j => .int (i + j)) ti (tC (.int 1)))) tNoPart)) σ H Q := by
  have lm : (xs.map V.int).length = xs.length := List.length_map _
  refine ha H (Same.refl H) _ ?_
  show tNoPart _ _ _
  unfold tNoPart
  refine hi H (Same.refl H) _ ⟨n, rfl, cut_to e (by omega) fun g1 H1 s1 e1 => ?_⟩
  refine hx H1 s1 _ ⟨(show 1 ≤ sizeLine by decide), fun g2 n2 => ?_⟩
  have s2 := same_new (o := HO.tup [V.int v]) n2
  refine cat_tups (s2 _ _ e1) upd_same (Nat.le_of_lt (small1000 (by rw [List.length_take]; simp only [List.length_cons, List.length_nil]; omega))) fun g3 H3 s3 e3 => ?_
  have s03 := (s1.trans s2).trans s3
  refine ha H3 s03 _ (hi H3 s03 _ ⟨n, 1, rfl, rfl, n + 1, by rfl, ?_⟩)
  show rSlA _ _ (some ((n : Int) + 1)) none _ _
  have ec : ((n : Int) + 1) = ((n + 1 : Nat) : Int) := by omega
  rw [ec]
  refine cut_from (s03 _ _ e) (by omega) fun g4 H4 s4 e4 => ?_
  refine cat_tups (s4 _ _ e3) e4 (Nat.le_of_lt (small1000 (by rw [List.length_append, List.length_take, List.length_drop]; simp only [List.length_cons, List.length_nil]; omega))) fun g5 H5 s5 e5 => ?_
  refine q g5 H5 ((s03.trans s4).trans s5) ?_
  rw [e5, set_cut (by omega), List.map_set]

/-! ### how many steps, what is due: the law -/
def ab1 (st : List Int) : PyData → Int
  | .tuple [d0, d1] => if numP d1 - plc st (natD d0) < 0 then -(numP d1 - plc st (natD d0)) else numP d1 - plc st (natD d0)
  | _ => 0
def stA : Int → List Int → List PyData → Int
  | acc, _, [] => acc
  | acc, st, d :: ds => stA (acc + ab1 st d) (mvD st d) ds
theorem go_at {tops st : List Int} {rs : List Rl} {d : PyData} (h : goD tops rs st d = true) : ∃ (i : Nat) (e : Int), d = .tuple [.int (i : Int), .int e] ∧ i < tops.length ∧ 0 ≤ e ∧ e ≤ plc tops i ∧ e ≠ plc st i ∧ canB tops rs st i e = true := by
  unfold goD at h
  rw [Bool.and_eq_true] at h
  obtain ⟨i, e, rfl, h1, h2, h3, h4⟩ := row_at h.1
  refine ⟨i, e, rfl, h1, h2, h3, h4, ?_⟩
  have := h.2
  have h' : canB tops rs st (natD (.int (i : Int))) (numP (.int e)) = true := this
  rw [show natD (.int (i : Int)) = i from Int.toNat_natCast i] at h'
  exact h'
theorem mv_at (st : List Int) (i : Nat) (e : Int) : mvD st (.tuple [.int (i : Int), .int e]) = st.set i e := by
  show st.set (natD (.int (i : Int))) (numP (.int e)) = _
  rw [show natD (.int (i : Int)) = i from Int.toNat_natCast i]
  rfl
theorem ab_at (st : List Int) (i : Nat) (e : Int) : ab1 st (.tuple [.int (i : Int), .int e]) = if e - plc st i < 0 then -(e - plc st i) else e - plc st i := by
  show (if numP (.int e) - plc st (natD (.int (i : Int))) < 0 then -(numP (.int e) - plc st (natD (.int (i : Int)))) else numP (.int e) - plc st (natD (.int (i : Int)))) = _
  rw [show natD (.int (i : Int)) = i from Int.toNat_natCast i]
  rfl
theorem wk_cons {tops : List Int} {rs : List Rl} {d : PyData} {ds : List PyData} {k : Nat} {st m : List Int} (h : wkL tops rs (d :: ds) k st = .inr m) : goD tops rs st d = true ∧ wkL tops rs ds (k + 1) (mvD st d) = .inr m := by
  unfold wkL at h
  cases g : goD tops rs st d with
  | true =>
    rw [g] at h
    exact ⟨rfl, h⟩
  | false =>
    rw [g] at h
    cases h
theorem drop_at {α : Type} {ds : List α} {j : Nat} {d : α} (h : ds[j]? = some d) : ds.drop j = d :: ds.drop (j + 1) := by
  rw [List.drop_eq_getElem_cons (List.getElem?_eq_some_iff.mp h).1]
  congr 1
  exact (List.getElem?_eq_some_iff.mp h).2
section
variable {P : Program} {w : World} {K : PySem.W.Frag} {mg : Str → Option Value} {base : Heap}
def spStD : Sp := fun vs H Q _ => ∃ (n a p : Addr) (tops st m : List Int) (rs : List Rl) (xs : List V) (ds : List PyData), vs = [.ref a, .ref p] ∧ H a = some (.tup (st.map V.int)) ∧ st.length = tops.length ∧ tops.length ≤ 12 ∧ H p = some (.tup xs) ∧ DaAll n H xs ds ∧ wkL tops rs ds 0 st = .inr m ∧ ∀ H', Same H H' → Q (.int (stA 0 st ds)) H'
abbrev a_steps : Stmt := topS 26
abbrev n_steps : List Str := ["standing", "way", "many", "here", "thing", "place"]
theorem sc_steps : FnScope n_steps ["standing", "way"] (defScope a_steps) := ⟨rfl, rfl, rfl, by decide +kernel, rfl, by decide +kernel, by decide +kernel⟩
set_option maxHeartbeats 8000000 in
theorem ok_steps {f fMo : Addr} {fd fdMo : FuncData} {k : Nat}  (F : Fun K "steps" "steps" a_steps f fd) (Mo : Kn P w K mg base 1 "moved" ["standing", "thing", "place"] spMoved fMo fdMo)  (m_abs : mg "abs" = none) : FnOk P w K mg base CX0 (k + 2) f fd ["standing", "way"] spStD := by
  refine F.ok sc_steps (fun vs H Q E h => ?_) (fun cdv A outer s H vs Q E hr h => ?_)
  · obtain ⟨n, a, p, tops, st, m, rs, xs, ds, rfl, _⟩ := h
    rfl
  · obtain ⟨n, a, p, tops, st, m, rs, xs, ds, rfl, ea, lst, l12, ep, ha, wk, q⟩ := h
    refine ⟨_, (pss_cons (ps_set (i := 2) sc_steps.nd rfl (.inl rfl) pe_int)
      (pss_cons (ps_set (i := 3) sc_steps.nd rfl (.inl rfl) (pv 0))
      (pss_cons (ps_for PassesOwn.never rfl (pi_tup (pv 1)) (pg_tup rfl (pgs_cons (pg_name (i := 4) sc_steps.nd rfl (.inl rfl)) (pgs_cons (pg_name (i := 5) sc_steps.nd rfl (.inl rfl)) pgs_nil)))
        (pss_cons (ps_aug (i := 2) sc_steps.nd rfl (.inl rfl) (pe_callB call_abs (by rfl) m_abs (by decide +kernel) (pa_cons (pe_op op_sub (pv 5) (pe_ix ix_tup (pv 3) (pv 4) (fun _ _ => rfl))) pa_nil)) ip_add)
      (pss_one (ps_set (i := 3) sc_steps.nd rfl (.inl rfl) (pe_kn Mo hr (by omega) (pa_cons (pv 3) (pa_cons (pv 4) (pa_cons (pv 5) pa_nil))))))))
      (pss_one (ps_ret (pv 2)))))), ?_⟩
    have ll := ha.len
    refine ⟨.ref a, rfl, .ref p, rfl, p, rfl, ⟨_, .inl (.inl ep)⟩, for_it (walk_tup (xs := xs)) (fun j σ H' => ∃ (b : Addr) (cur : List Int) (acc : Int), (∃ u4 u5, σ = [some (.ref a), some (.ref p), some (.int acc), some (.ref b), u4, u5]) ∧ Same H H' ∧ H' b = some (.tup (cur.map V.int)) ∧ cur.length = tops.length ∧ wkL tops rs (ds.drop j) j cur = .inr m ∧ stA 0 st ds = stA acc cur (ds.drop j)) ⟨a, st, 0, ⟨_, _, rfl⟩, Same.refl _, ea, lst, wk, rfl⟩ (fun j σ H' _ y => by obtain ⟨_, _, _, _, s, _⟩ := y; exact .inl (.inl (s _ _ ep))) (fun j v σ H2 H3 hj y z => ?_) (fun σ H2 y => ?_)⟩
    · obtain ⟨b, cur, acc, ⟨u4, u5, rfl⟩, s2, eb, lc, wkj, es⟩ := y
      obtain ⟨rfl, gv⟩ := z
      obtain ⟨dj, edj, hdj⟩ := ha.get j v gv
      rw [drop_at edj] at wkj es
      obtain ⟨gd, wk'⟩ := wk_cons wkj
      obtain ⟨i, e, rfl, li, e0, e1, ne, _⟩ := go_at gd
      rw [mv_at] at wk'
      have es' : stA 0 st ds = stA (acc + ab1 cur (.tuple [.int (i : Int), .int e])) (mvD cur (.tuple [.int (i : Int), .int e])) (ds.drop (j + 1)) := es
      rw [mv_at, ab_at] at es'
      have h2 := hdj.same s2
      cases h2 with
      | tup er hr =>
      rename_i r vs
      cases hr with
      | cons h0 hr =>
      cases h0
      cases hr with
      | cons h1 hr =>
      cases h1
      cases hr
      have lcu : i < cur.length := by omega
      refine ⟨r, _, rfl, .inl (.inl er), rfl, _, _, rfl, _, _, rfl, rfl, ?_⟩
      refine ⟨_, rfl, .int e, rfl, .ref b, rfl, _, rfl, b, _, i, _, rfl, rfl, .inl (.inl eb), atI_nat (by rw [List.getElem?_map, List.getElem?_eq_getElem lcu]; rfl), _, _, rfl, rfl, _, rfl, ?_⟩
      refine ⟨_, _, rfl, rfl, .ref b, rfl, _, rfl, .int e, rfl, b, i, e, cur, rfl, eb, lcu, by omega, fun g H5 s5 e5 => ⟨g, cur.set i e, _, ⟨_, _, rfl⟩, s2.trans s5, e5, by rw [List.length_set]; exact lc, wk', ?_⟩⟩
      rw [es', plc_get lcu]
    · obtain ⟨b, cur, acc, ⟨u4, u5, rfl⟩, s2, eb, lc, wkj, es⟩ := y
      rw [ll, List.drop_length] at es
      refine ⟨_, rfl, ?_⟩
      have := q H2 s2
      rw [es] at this
      exact this
/-- what is due of rows -/
def DueAt (H : Hp) (p : Addr) (k : Int) : Nat ⊕ List Int → Prop
  | .inl j => H p = some (.tup [.int (j : Int), .non, .non])
  | .inr m => ∃ b : Addr, H p = some (.tup [.non, .ref b, .int k]) ∧ H b = some (.tup (m.map V.int))
def spDue : Sp := fun vs H Q _ => ∃ (n t R a l : Addr) (tops st : List Int) (rs : List Rl) (xs : List V) (ds : List PyData), vs = [.ref t, .ref R, .ref a, .ref l] ∧ H t = some (.tup (tops.map V.int)) ∧ RulesAt H R rs ∧ H a = some (.tup (st.map V.int)) ∧ st.length = tops.length ∧ tops.length ≤ 12 ∧ (∀ i, i < tops.length → 0 ≤ plc st i ∧ plc st i ≤ plc tops i) ∧ rs.length ≤ 40 ∧ (∀ q ∈ rs, RuleOk tops q) ∧ H l = some (.lst xs) ∧ DaAll n H xs ds ∧
  ∀ H' p, Same H H' → DueAt H' p (stA 0 st ds) (wkL tops rs ds 0 st) → Q (.ref p) H'
abbrev a__law_due : Stmt := topS 53
abbrev n__law_due : List Str := ["_law_tops_here", "_law_rules_here", "_law_one", "_law_rows_here", "_law_here", "_law_many", "_law_at", "_law_row", "_law_part"]
theorem sc__law_due : FnScope n__law_due ["_law_tops_here", "_law_rules_here", "_law_one", "_law_rows_here"] (defScope a__law_due) := ⟨rfl, rfl, rfl, by decide +kernel, rfl, by decide +kernel, by decide +kernel⟩
set_option maxHeartbeats 8000000 in
theorem ok__law_due {f fIw fGo : Addr} {fd fdIw fdGo : FuncData} {k : Nat}  (F : Fun K "_law_due" "_law_due" a__law_due f fd) (Iw : Kn P w K mg base 1 "_law_is_whole" ["_law_thing"] (spLook wholeD) fIw fdIw) (Go : Kn P w K mg base 3 "_law_goes" ["_law_rules_here", "_law_standing_here", "_law_thing", "_law_place"] spGoesD fGo fdGo)  (m_abs : mg "abs" = none) (m_all : mg "all" = none) (m_enumerate : mg "enumerate" = none) (m_isinstance : mg "isinstance" = none) (m_len : mg "len" = none) (m_tuple : mg "tuple" = none) : FnOk P w K mg base CX0 (k + 4) f fd ["_law_tops_here", "_law_rules_here", "_law_one", "_law_rows_here"] spDue := by
  refine F.ok sc__law_due (fun vs H Q E h => ?_) (fun cdv A outer s H vs Q E hr h => ?_)
  · obtain ⟨n, t, R, a, l, tops, st, rs, xs, ds, rfl, _⟩ := h
    rfl
  · obtain ⟨n, t, R, a, l, tops, st, rs, xs, ds, rfl, et, hR, ea, lst, l12, bd, l40, rok, el, ha, q⟩ := h
    refine ⟨_, (pss_cons (ps_par (i := 4) (j := 5) (by rfl) sc__law_due.nd rfl rfl (by decide) rfl rfl (pa_cons (pv 2) (pa_cons pe_int pa_nil)) (by rfl))
      (pss_cons (ps_for PassesOwn.never rfl (pi_enum (by rfl) m_enumerate (pa_cons (pv 3) pa_nil)) (pg_tup rfl (pgs_cons (pg_name (i := 6) sc__law_due.nd rfl (.inl rfl)) (pgs_cons (pg_name (i := 7) sc__law_due.nd rfl (.inl rfl)) pgs_nil)))
        (pss_cons (ps_if (PW.pt (pw_or (pt_not (pt_val (pe_callB call_isiD (by rfl) m_isinstance (by decide +kernel) (pa_cons (pv 7) (pa_cons (pe_bltn (v := .ty "tuple") (u := .type "tuple") (by rfl) m_tuple (by decide +kernel) rfl) pa_nil))))) (pw_or (pt_cmpR op_ne (pe_callB call_len_seq (by rfl) m_len (by decide +kernel) (pa_cons (pv 7) pa_nil)) pe_int (nomark _)) (pw_or1 (pt_not (pt_val (pe_callB (cr_all rfl) (by rfl) m_all (by decide +kernel) (pa_cons (
        pe_lc (own := [("_law_part", 8)]) (g := (gName 8)) (tt := tYes) (te := (tCall (spLook wholeD) [] E0 (tCons (tVar 8) tNil))) rfl sc__law_due.nd (pi_tup (pv 7)) (blkOk_by (N := n__law_due) (sc := defScope a__law_due) (by decide +kernel))
          (fun _ _ _ _ _ => (pg_name (i := 8) sc__law_due.nd rfl (.inl rfl) (hf := .inr rfl))) (fun _ _ _ _ _ => pts_nil) (fun _ _ _ _ _ => (pe_kn Iw hr (by omega) (pa_cons (pv 8) pa_nil)))) pa_nil)))))))) (pss_one (ps_ret (pe_tup (pa_cons (pv 6) (pa_cons pe_non (pa_cons pe_non pa_nil)))))) pss_nil)
      (pss_cons (ps_if (PW.pt (pw_or (pt_not (pt_chain op_le op_lt pe_int (pe_ix ix_tup (pv 7) pe_int (fun _ _ => rfl)) (pe_callB call_len_seq (by rfl) m_len (by decide +kernel) (pa_cons (pv 0) pa_nil)))) (pw_or1 (pt_not (pt_chain op_le op_le pe_int (pe_ix ix_tup (pv 7) pe_int (fun _ _ => rfl)) (pe_ix ix_tup (pv 0) (pe_ix ix_tup (pv 7) pe_int (fun _ _ => rfl)) (fun _ _ => rfl))))))) (pss_one (ps_ret (pe_tup (pa_cons (pv 6) (pa_cons pe_non (pa_cons pe_non pa_nil)))))) pss_nil)
      (pss_cons (ps_if (pt_not (pt_val (pe_kn Go hr (by omega) (pa_cons (pv 1) (pa_cons (pv 4) (pa_cons (pe_ix ix_tup (pv 7) pe_int (fun _ _ => rfl)) (pa_cons (pe_ix ix_tup (pv 7) pe_int (fun _ _ => rfl)) pa_nil))))))) (pss_one (ps_ret (pe_tup (pa_cons (pv 6) (pa_cons pe_non (pa_cons pe_non pa_nil)))))) pss_nil)
      (pss_cons (ps_set (i := 5) sc__law_due.nd rfl (.inl rfl) (pe_op op_add (pv 5) (pe_callB call_abs (by rfl) m_abs (by decide +kernel) (pa_cons (pe_op op_sub (pe_ix ix_tup (pv 7) pe_int (fun _ _ => rfl)) (pe_ix ix_tup (pv 4) (pe_ix ix_tup (pv 7) pe_int (fun _ _ => rfl)) (fun _ _ => rfl))) pa_nil))))
      (pss_one (ps_set (i := 4) sc__law_due.nd rfl (.inl rfl) (pe_op (r := rCatA K) op_catA (pe_op (r := rCatA K) op_catA (pe_slice (r := rSlA K) sl_tupA (pv 4) po_none (po_some (pe_ix ix_tup (pv 7) pe_int (fun _ _ => rfl)))) (pe_tup (pa_cons (pe_ix ix_tup (pv 7) pe_int (fun _ _ => rfl)) pa_nil))) (pe_slice (r := rSlA K) sl_tupA (pv 4) (po_some (pe_op op_add (pe_ix ix_tup (pv 7) pe_int (fun _ _ => rfl)) pe_int)) po_none)))))))))
      (pss_one (ps_ret (pe_tup (pa_cons pe_non (pa_cons (pv 4) (pa_cons (pv 5) pa_nil)))))))), ?_⟩
    have w3 : (3 : Nat) ≤ sizeLine := by decide
    have ll := ha.len
    refine ⟨_, rfl, _, _, rfl, _, rfl, l, _, rfl, .inl (.inl el), for_it (walk_enum (xs := xs)) (fun j σ H' => ∃ (b : Addr) (cur : List Int) (acc : Int), (∃ u6 u7, σ = [some (.ref t), some (.ref R), some (.ref a), some (.ref l), some (.ref b), some (.int acc), u6, u7, none]) ∧ Same H H' ∧ H' b = some (.tup (cur.map V.int)) ∧ cur.length = tops.length ∧ (∀ i, i < tops.length → 0 ≤ plc cur i ∧ plc cur i ≤ plc tops i) ∧ wkL tops rs ds 0 st = wkL tops rs (ds.drop j) j cur ∧ stA 0 st ds = stA acc cur (ds.drop j)) ⟨a, st, 0, ⟨_, _, rfl⟩, Same.refl _, ea, lst, bd, rfl, rfl⟩ (fun j σ H' _ y => by obtain ⟨_, _, _, _, s, _⟩ := y; exact .inl (.inl (s _ _ el))) (fun j v σ H2 H3 hj y z => ?_) (fun σ H2 y => ?_)⟩
    · obtain ⟨b, cur, acc, ⟨u6, u7, rfl⟩, s2, eb, lc, bc, wk, es⟩ := y
      obtain ⟨T', x1, x2, rfl, nT, rfl, g1, g2⟩ := z
      obtain rfl : x1 = .int (j : Nat) := (Option.some.inj g1).symm
      obtain ⟨dj, edj, hdj⟩ := ha.get j x2 g2
      rw [drop_at edj] at wk es
      have sT := same_new (o := HO.tup [V.int (j : Nat), x2]) nT
      have s3 := s2.trans sT
      refine ⟨T', _, rfl, .inl (.inl upd_same), rfl, _, _, rfl, _, _, rfl, rfl, ?_⟩
      have eb3 := sT _ _ eb
      generalize upd H2 T' (.tup [V.int (j : Nat), x2]) = H4 at s3 eb3 ⊢
      have hd4 := hdj.same s3
      have ret : goD tops rs cur dj = false → ∀ (H5 : Hp) (r : Addr), Same H4 H5 → H5 r = none → Q (.ref r) (upd H5 r (.tup [.int (j : Int), .non, .non])) := fun h H5 r s5 nr => by
        refine q _ r ((s3.trans s5).trans (same_new nr)) ?_
        rw [wk]
        show DueAt _ _ _ (if goD tops rs cur dj = true then _ else _)
        rw [h]
        exact upd_same
      have noR : rowB tops cur dj = false → goD tops rs cur dj = false := fun h => by
        unfold goD
        rw [h, Bool.false_and]
      rcases tup_or dj with ⟨es', rfl⟩ | hn
      rotate_left
      · refine ⟨_, rfl, n, _, dj, "tuple", _, rfl, hd4, kit_tup dj, _, rfl, ?_⟩
        rw [hn]
        exact iteT ⟨_, rfl, w3, fun r nr => ret (noR (row_no hn)) _ r (Same.refl _) nr⟩
      have hd40 := hd4
      cases hd4 with
      | tup er hr =>
      rename_i r vs
      have lr := hr.len
      refine ⟨_, rfl, n, _, _, "tuple", _, rfl, hd40, kit_tup _, _, rfl, iteF ⟨_, rfl, r, vs, rfl, .inr (.inl (.inl er)), rfl, _, rfl, ite2 (fun c => ?_) (fun c => ?_)⟩⟩
      · have c' : ¬ es'.length = 2 := fun z => by rw [lr, z] at c; exact absurd c (by decide)
        exact ⟨_, rfl, w3, fun r nr => ret (noR (row_len c')) _ r (Same.refl _) nr⟩
      have c' : es'.length = 2 := Classical.byContradiction fun z => c (by
        have : ¬ ((vs.length : Int) = 2) := by omega
        simp [this])
      refine ⟨_, rfl, r, rfl, ⟨_, .inl (.inl er)⟩, fun D nD => lc_it (walk_tup (xs := vs)) (fun k H' => Same H4 H' ∧ H' D = some (.lst (((es'.take k).map wholeD).map V.bl))) ⟨same_new nD, upd_same⟩ (fun k H' _ y => .inl (.inl (y.1 _ _ er))) (fun k v Jx J hk y z => ?_) (fun J y => ?_)⟩
      · obtain ⟨sJ, eD⟩ := y
        obtain ⟨rfl, gv⟩ := z
        obtain ⟨dk, edk, hdk⟩ := hr.get k v gv
        refine ⟨wipe_one, _, rfl, n, v, dk, rfl, hdk.same sJ, fun J2 s => ⟨_, s _ _ eD, ?_, same_over (sJ.trans s) nD, ?_⟩⟩
        · rw [List.length_map, List.length_map, List.length_take]
          exact small1000 (by omega)
        · rw [upd_same, all_take wholeD _ k dk edk]
      obtain ⟨sJ, eD⟩ := y
      rw [lr, List.take_length] at eD
      refine ⟨D, _, rfl, .inl (.inl eD), ?_⟩
      rw [all_id]
      refine ⟨_, rfl, ?_⟩
      have s4J := s3.trans sJ
      have erJ := sJ _ _ er
      have ebJ := sJ _ _ eb3
      match es', c', hr with
      | [d0, d1], _, .cons h0 (.cons h1 .nil) =>
      rename_i v0 v1
      have eR0 : rowB tops cur (.tuple [d0, d1]) = (placeD ((tops.length : Int) - 1) d0 && (placeD (tops.getD (natD d0) 0) d1 && !decide (numP d1 = plc cur (natD d0)))) := rfl
      cases hw : [d0, d1].all wholeD with
      | false =>
        refine iteT ⟨_, rfl, w3, fun r nr => ret (noR ?_) _ r sJ nr⟩
        rw [eR0]
        have : (wholeD d0 && wholeD d1) = false := by simpa using hw
        cases d0 <;> first | rfl | skip
        all_goals cases d1 <;> first | rfl | exact Bool.and_false _ | (simp [wholeD] at this) | skip
        all_goals (rw [Bool.and_eq_false_iff]; right; rfl)
      | true =>
      have hw' : wholeD d0 = true ∧ wholeD d1 = true := by simpa using hw
      obtain ⟨a0, rfl⟩ : ∃ i, d0 = .int i := by
        cases d0 <;> first | exact ⟨_, rfl⟩ | cases hw'.1
      obtain ⟨b0, rfl⟩ : ∃ i, d1 = .int i := by
        cases d1 <;> first | exact ⟨_, rfl⟩ | cases hw'.2
      cases h0
      cases h1
      have et4 := s4J _ _ et
      have g0 : atI [V.int a0, V.int b0] 0 = some (.int a0) := atI_nat (j := 0) rfl
      have g1' : atI [V.int a0, V.int b0] 1 = some (.int b0) := atI_nat (j := 1) rfl
      have pl0 : placeD ((tops.length : Int) - 1) (.int a0) = (decide (0 ≤ a0) && decide (a0 ≤ (tops.length : Int) - 1)) := rfl
      refine iteF ⟨_, rfl, r, _, 0, _, rfl, rfl, .inl (.inl erJ), g0, _, _, rfl, rfl, _, rfl, ite2 (fun c0 => ?_) (fun c0 => ?_)⟩
      rotate_left
      · refine ⟨_, rfl, iteT ⟨_, rfl, w3, fun r nr => ret (noR ?_) _ r sJ nr⟩⟩
        rw [eR0, pl0, decide_eq_false (fun z => c0 (decide_eq_true z)), Bool.false_and, Bool.false_and]
      refine ⟨_, rfl, t, _, rfl, .inr (.inl (.inl et4)), _, _, rfl, rfl, _, rfl, ite2 (fun c1 => ?_) (fun c1 => ?_)⟩
      · refine ⟨_, rfl, w3, fun r nr => ret (noR ?_) _ r sJ nr⟩
        have : ¬ a0 ≤ (tops.length : Int) - 1 := fun z => by
          rw [decide_eq_true (by rw [List.length_map]; omega)] at c1
          cases c1
        rw [eR0, pl0, decide_eq_false this, Bool.and_false, Bool.false_and]
      have p0 := of_decide_eq_true c0
      have p1 : a0 < ((tops.map V.int).length : Int) := Classical.byContradiction fun z => c1 (by rw [decide_eq_false z]; rfl)
      rw [List.length_map] at p1
      obtain ⟨i, rfl⟩ : ∃ i : Nat, a0 = (i : Int) := ⟨a0.toNat, by omega⟩
      have li : i < tops.length := by omega
      have ht : atI (tops.map V.int) (i : Int) = some (.int tops[i]) := atI_nat (by rw [List.getElem?_map, List.getElem?_eq_getElem li]; rfl)
      have pt0 : placeD ((tops.length : Int) - 1) (.int (i : Int)) = true := by
        show (decide (0 ≤ (i : Int)) && decide ((i : Int) ≤ (tops.length : Int) - 1)) = true
        rw [decide_eq_true p0, decide_eq_true (by omega)]
        rfl
      have pl1 : placeD (tops.getD i 0) (.int b0) = (decide (0 ≤ b0) && decide (b0 ≤ tops.getD i 0)) := rfl
      rw [pt0, Bool.true_and, show natD (.int (i : Int)) = i from Int.toNat_natCast i, pl1] at eR0
      refine ⟨_, rfl, r, _, 1, _, rfl, rfl, .inl (.inl erJ), g1', _, _, rfl, rfl, _, rfl, ite2 (fun c2 => ?_) (fun c2 => ?_)⟩
      rotate_left
      · refine ⟨_, rfl, iteT ⟨_, rfl, w3, fun r nr => ret (noR ?_) _ r sJ nr⟩⟩
        rw [eR0, decide_eq_false (fun z => c2 (decide_eq_true z)), Bool.false_and, Bool.false_and]
      refine ⟨_, rfl, _, rfl, r, _, 0, _, rfl, rfl, .inl (.inl erJ), g0, t, _, i, _, rfl, rfl, .inl (.inl et4), ht, _, _, rfl, rfl, _, rfl, ite2 (fun c3 => ?_) (fun c3 => ?_)⟩
      · refine ⟨_, rfl, w3, fun r nr => ret (noR ?_) _ r sJ nr⟩
        have : ¬ b0 ≤ tops.getD i 0 := fun z => by
          rw [decide_eq_true (by rw [getD_at li] at z; exact z)] at c3
          cases c3
        rw [eR0, decide_eq_false this, Bool.and_false, Bool.false_and]
      have q0 := of_decide_eq_true c2
      have q1 : b0 ≤ tops[i] := Classical.byContradiction fun z => c3 (by rw [decide_eq_false z]; rfl)
      have q1' : b0 ≤ plc tops i := by rw [plc_get li]; exact q1
      have lcu : i < cur.length := by omega
      have ft : ∀ q ∈ rs, Fit cur q := fun q hq => fit_of (rok q hq) lc
      refine ⟨_, rfl, _, rfl, _, rfl, r, _, 0, _, rfl, rfl, .inl (.inl erJ), g0, _, rfl, r, _, 1, _, rfl, rfl, .inl (.inl erJ), g1', R, b, rs, cur, i, b0, rfl, hR.keep (.same s4J), ebJ, l40, ft, lcu, by omega, fun J2 g sG iffg => ⟨_, rfl, ?_⟩⟩
      have cz := bc i li
      have ci := can_iff (tops := tops) ft lcu cz.1 cz.2 q0 q1'
      have gg : goD tops rs cur (.tuple [.int (i : Int), .int b0]) = g := by
        have e1 : goD tops rs cur (.tuple [.int (i : Int), .int b0]) = (rowB tops cur (.tuple [.int (i : Int), .int b0]) && canB tops rs cur i b0) := by
          show (_ && canB tops rs cur (natD (.int (i : Int))) (numP (.int b0))) = _
          rw [show natD (.int (i : Int)) = i from Int.toNat_natCast i]
          rfl
        rw [e1, eR0, decide_eq_true q0, decide_eq_true (show b0 ≤ tops.getD i 0 by rw [getD_at li]; exact q1), Bool.true_and, Bool.true_and, Bool.eq_iff_iff, Bool.and_eq_true, ci, iffg]
        refine and_congr ?_ Iff.rfl
        rw [Bool.not_eq_true', decide_eq_false_iff_not]
        exact Iff.rfl
      have sJ2 := sJ.trans sG
      cases g with
      | false => exact iteT ⟨_, rfl, w3, fun r nr => ret gg _ r sJ2 nr⟩
      | true =>
      have s42 := s4J.trans sG
      have er2 := sG _ _ erJ
      have eb2 := sG _ _ ebJ
      have wk' : wkL tops rs ds 0 st = wkL tops rs (ds.drop (j + 1)) (j + 1) (cur.set i b0) := by
        rw [wk]
        show (if goD tops rs cur _ = true then wkL tops rs (ds.drop (j + 1)) (j + 1) (mvD cur _) else _) = _
        rw [gg, mv_at]
        rfl
      have es2 : stA 0 st ds = stA (acc + ab1 cur (.tuple [.int (i : Int), .int b0])) (mvD cur (.tuple [.int (i : Int), .int b0])) (ds.drop (j + 1)) := es
      rw [mv_at, ab_at] at es2
      refine iteF ⟨_, rfl, _, rfl, r, _, 1, _, rfl, rfl, .inl (.inl er2), g1', _, rfl, _, rfl, r, _, 0, _, rfl, rfl, .inl (.inl er2), g0, b, _, i, _, rfl, rfl, .inl (.inl eb2), atI_nat (by rw [List.getElem?_map, List.getElem?_eq_getElem lcu]; rfl), _, _, rfl, rfl, _, rfl, _, _, rfl, rfl, ?_⟩
      show tOp (rCatA K) (tOp (rCatA K) (tSl (rSlA K) (tVar 4) tNoPart (tPart (tOp (rIxT K) (tVar 7) (tC (.int 0))))) (tTup (tCons (tOp (rIxT K) (tVar 7) (tC (.int 1))) tNil))) (tSl (rSlA K) (tVar 4) (tPart (tOp (rI0 fun i j => .int (i + j)) (tOp (rIxT K) (tVar 7) (tC (.int 0))) (tC (.int 1)))) tNoPart) _ _ _
      refine moved_gen (K := K) (n := i) (v := b0) (xs := cur) (p := b) (fun H' s Q' hq => ⟨_, rfl, hq⟩) (fun H' s Q' hq => ⟨_, rfl, r, _, 0, _, rfl, rfl, .inl (.inl (s _ _ er2)), g0, hq⟩) (fun H' s Q' hq => ⟨_, rfl, r, _, 1, _, rfl, rfl, .inl (.inl (s _ _ er2)), g1', hq⟩) eb2 lcu (by omega) fun g' J3 s5 e5 => ?_
      refine ⟨g', cur.set i b0, _, ⟨_, _, rfl⟩, s42.trans s5, e5, by rw [List.length_set]; exact lc, fun k hk => ?_, wk', ?_⟩
      · by_cases e : k = i
        · subst e
          rw [plc_set_self lcu]
          exact ⟨q0, q1'⟩
        · rw [plc_set_ne (fun z => e z.symm)]
          exact bc k hk
      · rw [es2, plc_get lcu]
    · obtain ⟨b, cur, acc, ⟨u6, u7, rfl⟩, s2, eb, lc, bc, wk, es⟩ := y
      rw [ll, List.drop_length] at wk es
      refine ⟨_, rfl, _, rfl, w3, fun r nr => ?_⟩
      have sr := same_new (o := HO.tup [V.non, V.ref b, V.int acc]) nr
      refine q _ r (s2.trans sr) ?_
      rw [wk, es]
      exact ⟨b, upd_same, sr _ _ eb⟩
end
end K21

set_option Elab.async false
set_option linter.all false
set_option maxRecDepth 100000
namespace K21
open PySem PySem.Spec PyProof.Rows L2 NB

/-! ### data and pots -/
theorem PotAt.lst {H : Hp} {a : Addr} {c : Nat} (h : PotAt H a c) : ∃ zs, H a = some (.lst zs) := by
  obtain ⟨p, q, r, e, _⟩ := h
  exact ⟨_, e⟩
theorem da_but {a : Addr} {H H' : Hp} {c : Nat} {v : V} {d : PyData} (h : Da a H v d) (p : PotAt H a c) (b : But a H H') : Da a H' v d := Da.keep p.lst b d v h
theorem daAll_but {a : Addr} {H H' : Hp} {c : Nat} {vs : List V} {ds : List PyData} (h : DaAll a H vs ds) (p : PotAt H a c) (b : But a H H') : DaAll a H' vs ds := DaAll.keep p.lst b ds vs h
theorem new_tup {n t : Addr} {H : Hp} {xs : List V} {ds : List PyData} (nt : H t = none) (h : DaAll n H xs ds) : Same H (upd H t (.tup xs)) ∧ Da n (upd H t (.tup xs)) (.ref t) (.tuple ds) := ⟨same_new nt, .tup upd_same (h.same (same_new nt))⟩
theorem new_lst {n t : Addr} {H : Hp} {xs : List V} {ds : List PyData} {c : Nat} (nt : H t = none) (ns : t ≠ sysModules) (p : PotAt H n c) (h : DaAll n H xs ds) : Same H (upd H t (.lst xs)) ∧ Da n (upd H t (.lst xs)) (.ref t) (.list ds) := ⟨same_new nt, .lst upd_same ns (p.ne nt) (h.same (same_new nt))⟩
theorem new_dct {n t : Addr} {H : Hp} (nt : H t = none) : Same H (upd H t (.dK [])) ∧ Da n (upd H t (.dK [])) (.ref t) (.dict []) := ⟨same_new nt, .dct upd_same .nil⟩
theorem but_same {a : Addr} {H H' H'' : Hp} (b : But a H H') (s : Same H' H'') : But a H H'' := b.trans (But.of s)
theorem wt_at {ds : List PyData} {i : Nat} {d : PyData} (h : ds[i]? = some d) : PyData.weightAll ds = PyData.weightAll (ds.take i) + (d.weight + 1) + PyData.weightAll (ds.drop (i + 1)) := by
  have hi := (List.getElem?_eq_some_iff.mp h).1
  have e : ds = ds.take i ++ (d :: ds.drop (i + 1)) := by
    have e2 := (List.getElem?_eq_some_iff.mp h).2
    rw [← e2, ← List.drop_eq_getElem_cons hi, List.take_append_drop]
  have := wt_app (ds.take i) (d :: ds.drop (i + 1))
  rw [← e] at this
  simp only [PyData.weightAll] at this
  omega
theorem wt_two (ds : List PyData) (i : Nat) : PyData.weightAll ds = PyData.weightAll (ds.take i) + PyData.weightAll (ds.drop i) := by
  have := wt_app (ds.take i) (ds.drop i)
  rw [List.take_append_drop] at this
  exact this
theorem SmE.mono {ds : List PyData} {k m : Nat} (h : SmE ds k) (le : k ≤ m) : SmE ds m := fun d hd => ⟨(h d hd).1, Nat.le_trans (h d hd).2.1 le, (h d hd).2.2⟩
theorem SmE.app {ds es : List PyData} {k : Nat} (h : SmE ds k) (h' : SmE es k) : SmE (ds ++ es) k := fun d hd => by
  rcases List.mem_append.mp hd with q | q
  · exact h d q
  · exact h' d q
theorem SmE.take {ds : List PyData} {k : Nat} (h : SmE ds k) (i : Nat) : SmE (ds.take i) k := fun d hd => h d (List.mem_of_mem_take hd)
theorem SmE.drop {ds : List PyData} {k : Nat} (h : SmE ds k) (i : Nat) : SmE (ds.drop i) k := fun d hd => h d (List.mem_of_mem_drop hd)
theorem SmE.one {d : PyData} {w k : Nat} (h : Sm d w k) : SmE [d] k := fun x hx => by
  rw [List.mem_singleton.mp hx]
  exact h.e
theorem SmE.ints {xs : List Int} (h : ∀ x ∈ xs, x.natAbs < 10 ^ 90) : SmE (xs.map PyData.int) 0 := fun d hd => by
  obtain ⟨x, hx, rfl⟩ := List.mem_map.mp hd
  exact (Sm.int (h x hx)).e
theorem wt_ints : ∀ {xs : List Int}, (∀ x ∈ xs, x.natAbs < 10 ^ 90) → PyData.weightAll (xs.map PyData.int) ≤ 311 * xs.length
  | [], _ => Nat.le_refl _
  | x :: xs, h => by
    have a := (Sm.int (h x List.mem_cons_self)).wt
    have b := wt_ints fun y hy => h y (List.mem_cons_of_mem _ hy)
    simp only [List.map_cons, PyData.weightAll, List.length_cons]
    omega

/-! ### data whose lists stand apart from all of E -/
mutual
inductive Db (E : Addr → Prop) (H : Hp) : V → PyData → Prop
  | non : Db E H .non .none
  | bl (b : Bool) : Db E H (.bl b) (.bool b)
  | int (i : Int) : Db E H (.int i) (.int i)
  | str (x : Str) : Db E H (.str x) (.str x)
  | lst {a : Addr} {xs : List V} {ds : List PyData} : H a = some (.lst xs) → a ≠ sysModules → ¬ E a → DbAll E H xs ds → Db E H (.ref a) (.list ds)
  | tup {a : Addr} {xs : List V} {ds : List PyData} : H a = some (.tup xs) → DbAll E H xs ds → Db E H (.ref a) (.tuple ds)
  | dct {a : Addr} : H a = some (.dK []) → Db E H (.ref a) (.dict [])
inductive DbAll (E : Addr → Prop) (H : Hp) : List V → List PyData → Prop
  | nil : DbAll E H [] []
  | cons {v : V} {vs : List V} {d : PyData} {ds : List PyData} : Db E H v d → DbAll E H vs ds → DbAll E H (v :: vs) (d :: ds)
end
mutual
theorem Db.keepD {E : Addr → Prop} {H H' : Hp} (k : ∀ b o, (∀ xs, o = .lst xs → ¬ E b) → H b = some o → H' b = some o) : ∀ (d : PyData) (v : V), Db E H v d → Db E H' v d
  | .none, _, h => by cases h; exact .non
  | .bool b, _, h => by cases h; exact .bl b
  | .int i, _, h => by cases h; exact .int i
  | .str x, _, h => by cases h; exact .str x
  | .list ds, _, h => by
    cases h with
    | lst e n1 n2 ha => exact .lst (k _ _ (fun _ _ => n2) e) n1 n2 (DbAll.keepD k ds _ ha)
  | .tuple ds, _, h => by
    cases h with
    | tup e ha => exact .tup (k _ _ (fun _ z => by cases z) e) (DbAll.keepD k ds _ ha)
  | .dict ds, _, h => by
    cases h with
    | dct e => exact .dct (k _ _ (fun _ z => by cases z) e)
theorem DbAll.keepD {E : Addr → Prop} {H H' : Hp} (k : ∀ b o, (∀ xs, o = .lst xs → ¬ E b) → H b = some o → H' b = some o) : ∀ (ds : List PyData) (vs : List V), DbAll E H vs ds → DbAll E H' vs ds
  | [], _, h => by cases h; exact .nil
  | d :: ds, _, h => by
    cases h with
    | cons h1 h2 => exact .cons (Db.keepD k d _ h1) (DbAll.keepD k ds _ h2)
end
mutual
theorem Db.daD {E : Addr → Prop} {H : Hp} {n : Addr} (En : E n) : ∀ (d : PyData) (v : V), Db E H v d → Da n H v d
  | .none, _, h => by cases h; exact .non
  | .bool b, _, h => by cases h; exact .bl b
  | .int i, _, h => by cases h; exact .int i
  | .str x, _, h => by cases h; exact .str x
  | .list ds, _, h => by
    cases h with
    | lst e n1 n2 ha => exact .lst e n1 (fun z => n2 (by rw [z]; exact En)) (DbAll.daD En ds _ ha)
  | .tuple ds, _, h => by
    cases h with
    | tup e ha => exact .tup e (DbAll.daD En ds _ ha)
  | .dict ds, _, h => by
    cases h with
    | dct e => exact .dct e .nil
theorem DbAll.daD {E : Addr → Prop} {H : Hp} {n : Addr} (En : E n) : ∀ (ds : List PyData) (vs : List V), DbAll E H vs ds → DaAll n H vs ds
  | [], _, h => by cases h; exact .nil
  | d :: ds, _, h => by
    cases h with
    | cons h1 h2 => exact .cons (Db.daD En d _ h1) (DbAll.daD En ds _ h2)
end
mutual
theorem Db.weakD {E E' : Addr → Prop} {H : Hp} (k : ∀ n, E' n → E n) : ∀ (d : PyData) (v : V), Db E H v d → Db E' H v d
  | .none, _, h => by cases h; exact .non
  | .bool b, _, h => by cases h; exact .bl b
  | .int i, _, h => by cases h; exact .int i
  | .str x, _, h => by cases h; exact .str x
  | .list ds, _, h => by
    cases h with
    | lst e n1 n2 ha => exact .lst e n1 (fun z => n2 (k _ z)) (DbAll.weakD k ds _ ha)
  | .tuple ds, _, h => by
    cases h with
    | tup e ha => exact .tup e (DbAll.weakD k ds _ ha)
  | .dict ds, _, h => by
    cases h with
    | dct e => exact .dct e
theorem DbAll.weakD {E E' : Addr → Prop} {H : Hp} (k : ∀ n, E' n → E n) : ∀ (ds : List PyData) (vs : List V), DbAll E H vs ds → DbAll E' H vs ds
  | [], _, h => by cases h; exact .nil
  | d :: ds, _, h => by
    cases h with
    | cons h1 h2 => exact .cons (Db.weakD k d _ h1) (DbAll.weakD k ds _ h2)
end
def only (p : Addr) : Addr → Prop := fun n => n = p
def twoA (p D : Addr) : Addr → Prop := fun n => n = p ∨ n = D
theorem Db.same {E : Addr → Prop} {H H' : Hp} {v : V} {d : PyData} (h : Db E H v d) (k : Same H H') : Db E H' v d := Db.keepD (fun b o _ e => k b o e) d v h
theorem DbAll.same {E : Addr → Prop} {H H' : Hp} {vs : List V} {ds : List PyData} (h : DbAll E H vs ds) (k : Same H H') : DbAll E H' vs ds := DbAll.keepD (fun b o _ e => k b o e) ds vs h
theorem Db.da {E : Addr → Prop} {H : Hp} {n : Addr} {v : V} {d : PyData} (h : Db E H v d) (En : E n) : Da n H v d := Db.daD En d v h
theorem but_keep {E : Addr → Prop} {H H' : Hp} {a : Addr} {c : Nat} (Ea : E a) (p : PotAt H a c) (b : But a H H') : ∀ z o, (∀ xs, o = .lst xs → ¬ E z) → H z = some o → H' z = some o := fun z o n e => b z o (fun za => by
  obtain ⟨p1, p2, p3, ea, _⟩ := p
  rw [za, ea] at e
  cases e
  exact n _ rfl (by rw [za]; exact Ea)) e
theorem db_but {E : Addr → Prop} {a : Addr} {H H' : Hp} {c : Nat} {v : V} {d : PyData} (h : Db E H v d) (Ea : E a) (p : PotAt H a c) (b : But a H H') : Db E H' v d := Db.keepD (but_keep Ea p b) d v h
theorem dbAll_but {E : Addr → Prop} {a : Addr} {H H' : Hp} {c : Nat} {vs : List V} {ds : List PyData} (h : DbAll E H vs ds) (Ea : E a) (p : PotAt H a c) (b : But a H H') : DbAll E H' vs ds := DbAll.keepD (but_keep Ea p b) ds vs h
/-- a list of E may be changed -/
theorem db_upd {E : Addr → Prop} {D : Addr} {H : Hp} {xs : List V} {o : HO} {v : V} {d : PyData} (h : Db E H v d) (ED : E D) (e : H D = some (.lst xs)) : Db E (upd H D o) v d := Db.keepD (fun z u n q => (upd_ne (fun zD => by
  rw [zD, e] at q
  cases q
  exact n _ rfl (by rw [zD]; exact ED))).trans q) d v h
theorem DbAll.len {E : Addr → Prop} {H : Hp} {vs : List V} {ds : List PyData} (h : DbAll E H vs ds) : vs.length = ds.length := by
  induction ds generalizing vs with
  | nil => cases h; rfl
  | cons d ds ih =>
    cases h with
    | cons h1 h2 => rw [List.length_cons, List.length_cons, ih h2]
theorem DbAll.get {E : Addr → Prop} {H : Hp} {vs : List V} {ds : List PyData} (h : DbAll E H vs ds) (i : Nat) (v : V) (e : vs[i]? = some v) : ∃ d, ds[i]? = some d ∧ Db E H v d := by
  induction ds generalizing vs i with
  | nil => cases h; simp at e
  | cons d ds ih =>
    cases h with
    | cons h1 h2 =>
      cases i with
      | zero => exact ⟨d, rfl, by cases e; exact h1⟩
      | succ i => exact ih h2 i e
theorem DbAll.app {E : Addr → Prop} {H : Hp} {vs us : List V} {ds es : List PyData} (h : DbAll E H vs ds) (h' : DbAll E H us es) : DbAll E H (vs ++ us) (ds ++ es) := by
  induction ds generalizing vs with
  | nil => cases h; exact h'
  | cons d ds ih =>
    cases h with
    | cons h1 h2 => exact .cons h1 (ih h2)
theorem DbAll.take {E : Addr → Prop} {H : Hp} {vs : List V} {ds : List PyData} (h : DbAll E H vs ds) (i : Nat) : DbAll E H (vs.take i) (ds.take i) := by
  induction ds generalizing vs i with
  | nil => cases h; simp only [List.take_nil]; exact .nil
  | cons d ds ih =>
    cases h with
    | cons h1 h2 =>
      cases i with
      | zero => simp only [List.take_zero]; exact .nil
      | succ i => simp only [List.take_succ_cons]; exact .cons h1 (ih h2 i)
theorem DbAll.drop {E : Addr → Prop} {H : Hp} {vs : List V} {ds : List PyData} (h : DbAll E H vs ds) (i : Nat) : DbAll E H (vs.drop i) (ds.drop i) := by
  induction ds generalizing vs i with
  | nil => cases h; simp only [List.drop_nil]; exact .nil
  | cons d ds ih =>
    cases h with
    | cons h1 h2 =>
      cases i with
      | zero => simp only [List.drop_zero]; exact .cons h1 h2
      | succ i => simp only [List.drop_succ_cons]; exact ih h2 i
theorem DbAll.rev {E : Addr → Prop} {H : Hp} {vs : List V} {ds : List PyData} (h : DbAll E H vs ds) : DbAll E H vs.reverse ds.reverse := by
  induction ds generalizing vs with
  | nil => cases h; exact .nil
  | cons d ds ih =>
    cases h with
    | cons h1 h2 =>
      rw [List.reverse_cons, List.reverse_cons]
      exact (ih h2).app (.cons h1 .nil)
/-- the lists of E are there -/
def There (E : Addr → Prop) (H : Hp) : Prop := ∀ n, E n → ∃ o, H n = some o
theorem There.keep {E : Addr → Prop} {H H' : Hp} (h : There E H) (k : ∀ n o, H n = some o → ∃ o', H' n = some o') : There E H' := fun n hn => by
  obtain ⟨o, e⟩ := h n hn
  exact k n o e
theorem There.same {E : Addr → Prop} {H H' : Hp} (h : There E H) (s : Same H H') : There E H' := h.keep fun n o e => ⟨o, s n o e⟩
theorem There.but {E : Addr → Prop} {H H' : Hp} {a : Addr} {c : Nat} (h : There E H) (b : But a H H') (p : PotAt H' a c) : There E H' := h.keep fun n o e => by
  by_cases z : n = a
  · obtain ⟨_, _, _, ea, _⟩ := p
    exact ⟨_, by rw [z]; exact ea⟩
  · exact ⟨o, b n o z e⟩
theorem newb_tup {E : Addr → Prop} {t : Addr} {H : Hp} {xs : List V} {ds : List PyData} (nt : H t = none) (h : DbAll E H xs ds) : Same H (upd H t (.tup xs)) ∧ Db E (upd H t (.tup xs)) (.ref t) (.tuple ds) := ⟨same_new nt, .tup upd_same (h.same (same_new nt))⟩
theorem newb_lst {E : Addr → Prop} {t : Addr} {H : Hp} {xs : List V} {ds : List PyData} (nt : H t = none) (ns : t ≠ sysModules) (th : There E H) (h : DbAll E H xs ds) : Same H (upd H t (.lst xs)) ∧ Db E (upd H t (.lst xs)) (.ref t) (.list ds) := ⟨same_new nt, .lst upd_same ns (fun z => by
  obtain ⟨o, e⟩ := th t z
  rw [nt] at e
  cases e) (h.same (same_new nt))⟩
theorem newb_dct {E : Addr → Prop} {t : Addr} {H : Hp} (nt : H t = none) : Same H (upd H t (.dK [])) ∧ Db E (upd H t (.dK [])) (.ref t) (.dict []) := ⟨same_new nt, .dct upd_same⟩
theorem there_one {p : Addr} {H : Hp} {c : Nat} (h : PotAt H p c) : There (only p) H := fun n hn => by
  obtain ⟨_, _, _, ea, _⟩ := h
  exact ⟨_, by rw [show n = p from hn]; exact ea⟩
theorem there_two {p D : Addr} {H : Hp} {c : Nat} {o : HO} (h : PotAt H p c) (e : H D = some o) : There (twoA p D) H := fun n hn => by
  rcases hn with hn | hn
  · exact there_one h n hn
  · exact ⟨_, by rw [hn]; exact e⟩

/-! ### data cut and put together -/
theorem slD {K : PySem.W.Frag} {E : Addr → Prop} {p : Addr} {H : Hp} {xs : List V} {ds : List PyData} {lo hi : Option Int} {Q : VK} (h : H p = some (.tup xs)) (ha : DbAll E H xs ds)
    (q : ∀ g H' ys i j, Same H H' → H' g = some (.tup ys) → DbAll E H' ys ((ds.drop i).take j) → Q (.ref g) H') : rSlA K (.ref p) lo hi H Q := by
  have key : ∀ H', Same H H' → DbAll E H' (cutV xs lo hi) ((ds.drop (HT.sIx xs.length 0 lo)).take (HT.sIx xs.length xs.length hi - HT.sIx xs.length 0 lo)) := fun H' s => by
    unfold cutV
    exact ((ha.same s).drop _).take _
  refine ⟨p, _, rfl, .inl (.inl h), fun w => ?_, fun w g ng => ?_⟩
  · refine q p H xs 0 ds.length (Same.refl H) h ?_
    rw [List.drop_zero, List.take_length]
    exact ha
  · exact q g _ _ _ _ (same_new ng) upd_same (key _ (same_new ng))
theorem wt_take (ds : List PyData) (i : Nat) : PyData.weightAll (ds.take i) ≤ PyData.weightAll ds := by
  have := wt_two ds i
  omega
theorem wt_drop (ds : List PyData) (i : Nat) : PyData.weightAll (ds.drop i) ≤ PyData.weightAll ds := by
  have := wt_two ds i
  omega
theorem wt_cut (ds : List PyData) (i j : Nat) : PyData.weightAll ((ds.drop i).take j) ≤ PyData.weightAll ds := Nat.le_trans (wt_take _ _) (wt_drop _ _)
theorem SmE.cut {ds : List PyData} {k : Nat} (h : SmE ds k) (i j : Nat) : SmE ((ds.drop i).take j) k := SmE.take (SmE.drop h i) j
theorem len_cut (ds : List PyData) (i j : Nat) : ((ds.drop i).take j).length ≤ ds.length := by
  rw [List.length_take, List.length_drop]
  omega
theorem wt_rev : ∀ ds : List PyData, PyData.weightAll ds.reverse = PyData.weightAll ds
  | [] => rfl
  | d :: ds => by
    rw [List.reverse_cons, wt_app, wt_rev ds]
    simp only [PyData.weightAll]
    omega
theorem SmE.rev {ds : List PyData} {k : Nat} (h : SmE ds k) : SmE ds.reverse k := fun d hd => h d (List.mem_reverse.mp hd)
theorem line_of {n : Nat} (h : n ≤ 300000) : n ≤ sizeLine := by
  rw [sizeLine_eq]
  omega
/-- tuples of data put together -/
theorem catD {K : PySem.W.Frag} {E : Addr → Prop} {a b : Addr} {H : Hp} {xs ys : List V} {ds es : List PyData} {Q : VK} (ea : H a = some (.tup xs)) (ha : DbAll E H xs ds) (eb : H b = some (.tup ys)) (hb : DbAll E H ys es) (l : ds.length + es.length ≤ 300000)
    (q : ∀ g H' zs, Same H H' → H' g = some (.tup zs) → DbAll E H' zs (ds ++ es) → Q (.ref g) H') : rCatA K (.ref a) (.ref b) H Q :=
  cat_tups ea eb (line_of (by rw [ha.len, hb.len]; exact l)) fun g H' s e => q g H' _ s e ((ha.same s).app (hb.same s))
theorem PotAt.tupD {H H' : Hp} {a g : Addr} {c : Nat} {xs : List V} (p : PotAt H a c) (b : But a H H') (e : H g = some (.tup xs)) : H' g = some (.tup xs) := (Keep.but b p).tup e
theorem Sm.tupD {ds : List PyData} {w k : Nat} (h : SmE ds k) (hw : PyData.weightAll ds ≤ w) : Sm (.tuple ds) w (k + 1) := Sm.tup h hw
end K21

set_option Elab.async false
set_option linter.all false
set_option maxRecDepth 100000
namespace K21
open PySem PySem.Spec PyProof.Rows L2 NB

/-! ### drawn rows -/
def RwOk (tops : List Int) (d : PyData) : Prop := ∃ (i : Nat) (e : Int), d = .tuple [.int (i : Int), .int e] ∧ i < tops.length ∧ 0 ≤ e ∧ e ≤ plc tops i
theorem rows_any {E E' : Addr → Prop} {H : Hp} {tops : List Int} : ∀ {xs : List V} {ds : List PyData}, (∀ d ∈ ds, RwOk tops d) → DbAll E H xs ds → DbAll E' H xs ds
  | _, [], _, h => by
    cases h
    exact .nil
  | _, d :: ds, ok, h => by
    obtain ⟨i, e, rfl, _⟩ := ok d List.mem_cons_self
    cases h with
    | cons h1 h2 =>
      refine .cons ?_ (rows_any (fun y hy => ok y (List.mem_cons_of_mem _ hy)) h2)
      cases h1 with
      | tup e1 ha =>
        cases ha with
        | cons a1 ha =>
          cases a1
          cases ha with
          | cons a2 ha =>
            cases a2
            cases ha
            exact .tup e1 (.cons (.int _) (.cons (.int _) .nil))
section
variable {P : Program} {w : World} {K : PySem.W.Frag} {mg : Str → Option Value} {base : Heap}
def spRw : Sp := fun vs H Q _ => ∃ (p t R a : Addr) (tops st : List Int) (rs : List Rl) (c : Nat), vs = [.ref p, .ref t, .ref R, .ref a] ∧ PotAt H p c ∧ c < 800000 ∧ H t = some (.tup (tops.map V.int)) ∧ Pl tops ∧ 1 ≤ tops.length ∧ tops.length ≤ 12 ∧ RulesAt H R rs ∧ rs.length ≤ 40 ∧ (∀ q ∈ rs, RuleOk tops q) ∧ H a = some (.tup (st.map V.int)) ∧ st.length = tops.length ∧
  ∀ H' l xs ds, But p H H' → PotAt H' p (c + 50) → H' l = some (.lst xs) → l ≠ p → l ≠ sysModules → DbAll (only p) H' xs ds → (∀ d ∈ ds, RwOk tops d) → ds.length ≤ 8 → Q (.ref l) H'
abbrev a__law_rows : Stmt := topS 51
abbrev n__law_rows : List Str := ["_law_pot_here", "_law_tops_here", "_law_rules_here", "_law_one", "_law_found", "_law_here", "_law_turn", "_law_thing", "_law_spots", "_law_rule", "_law_place", "_law_side"]
theorem sc__law_rows : FnScope n__law_rows ["_law_pot_here", "_law_tops_here", "_law_rules_here", "_law_one"] (defScope a__law_rows) := ⟨rfl, rfl, rfl, by decide +kernel, rfl, by decide +kernel, by decide +kernel⟩
set_option maxHeartbeats 8000000 in
theorem ok__law_rows {f fT fOf fGo : Addr} {fd fdT fdOf fdGo : FuncData} {k : Nat}  (F : Fun K "_law_rows" "_law_rows" a__law_rows f fd) (T : Kn P w K mg base 1 "_law_take" ["_law_pot_here", "_law_many"] spTake fT fdT) (Of : Kn P w K mg base 2 "_law_of" ["_law_pot_here", "_law_some"] (spOf K) fOf fdOf) (Go : Kn P w K mg base 3 "_law_goes" ["_law_rules_here", "_law_standing_here", "_law_thing", "_law_place"] spGoesD fGo fdGo)  (m_len : mg "len" = none) (m_range : mg "range" = none) : FnOk P w K mg base CX0 (k + 4) f fd ["_law_pot_here", "_law_tops_here", "_law_rules_here", "_law_one"] spRw := by
  refine F.ok sc__law_rows (fun vs H Q E h => ?_) (fun cdv A outer s H vs Q E hr h => ?_)
  · obtain ⟨p, t, R, a, tops, st, rs, c, rfl, _⟩ := h
    rfl
  · obtain ⟨p, t, R, a, tops, st, rs, c, rfl, pp, hc, et, pl, l1, l12, hR, l40, rok, ea, lst, q⟩ := h
    refine ⟨_, (pss_cons (ps_par (i := 4) (j := 5) (by rfl) sc__law_rows.nd rfl rfl (by decide) rfl rfl (pa_cons (pe_lstN pa_nil) (pa_cons (pv 3) pa_nil)) (by rfl))
      (pss_cons (ps_for PassesOwn.never rfl (pi_range1 (by rfl) m_range (pa_cons (pe_kn T hr (by omega) (pa_cons (pv 0) (pa_cons pe_int pa_nil))) pa_nil)) (pg_name (i := 6) sc__law_rows.nd rfl (.inl rfl))
        (pss_cons (ps_set (i := 7) sc__law_rows.nd rfl (.inr rfl) (pe_kn T hr (by omega) (pa_cons (pv 0) (pa_cons (pe_callB call_len_seq (by rfl) m_len (by decide +kernel) (pa_cons (pv 1) pa_nil)) pa_nil))))
      (pss_cons (ps_set (i := 8) sc__law_rows.nd rfl (.inl rfl) (pe_lstN (pa_cons pe_int (pa_cons (pe_ix ix_tup (pv 1) (pv 7) (fun _ _ => rfl)) (pa_cons (pe_kn T hr (by omega) (pa_cons (pv 0) (pa_cons (pe_op op_add (pe_ix ix_tup (pv 1) (pv 7) (fun _ _ => rfl)) pe_int) pa_nil))) pa_nil)))))
      (pss_cons (ps_for PassesOwn.never rfl (pi_tup (pv 2)) (pg_name (i := 9) sc__law_rows.nd rfl (.inl rfl))
        (pss_one (ps_expr (pe_bm PySem.F.plainAttrs_list PySem.F.slot_list_extend PySem.F.type_list_extend mt_extend (pv 8) (pa_cons (
        pe_lc (own := [("_law_side", 11)]) (g := (gName 11)) (tt := (tTest (tOp rEq (tOp (rIxT K) (tVar 11) (tC (.int 0))) (tVar 7)))) (te := (tOp (rIxT K) (tVar 11) (tC (.int 2)))) rfl sc__law_rows.nd (pi_tup (pv 9)) (blkOk_by (N := n__law_rows) (sc := defScope a__law_rows) (by decide +kernel))
          (fun _ _ _ _ _ => (pg_name (i := 11) sc__law_rows.nd rfl (.inl rfl) (hf := .inr rfl))) (fun _ _ _ _ _ => pts_one (pt_cmpR op_eq (pe_ix (r := rIxT K) ix_tup (pv 11) pe_int (fun _ _ => rfl)) (pv 7) (nomark _))) (fun _ _ _ _ _ => (pe_ix (r := rIxT K) ix_tup (pv 11) pe_int (fun _ _ => rfl)))) pa_nil)))))
      (pss_cons (ps_set (i := 10) sc__law_rows.nd rfl (.inl rfl) (pe_kn Of hr (by omega) (pa_cons (pv 0) (pa_cons (pv 8) pa_nil))))
      (pss_one (ps_if (pt_val (pe_kn Go hr (by omega) (pa_cons (pv 2) (pa_cons (pv 5) (pa_cons (pv 7) (pa_cons (pv 10) pa_nil)))))) (pss_cons (ps_expr (pe_bm PySem.F.plainAttrs_list PySem.F.slot_list_append PySem.F.type_list_append mt_append (pv 4) (pa_cons (pe_tup (pa_cons (pv 7) (pa_cons (pv 10) pa_nil))) pa_nil)))
      (pss_one (ps_set (i := 5) sc__law_rows.nd rfl (.inl rfl) (pe_op (r := rCatA K) op_catA (pe_op (r := rCatA K) op_catA (pe_slice (r := rSlA K) sl_tupA (pv 5) po_none (po_some (pv 7))) (pe_tup (pa_cons (pv 10) pa_nil))) (pe_slice (r := rSlA K) sl_tupA (pv 5) (po_some (pe_op op_add (pv 7) pe_int)) po_none))))) (pss_one (ps_if (pt_cmpR op_eq (pe_kn T hr (by omega) (pa_cons (pv 0) (pa_cons pe_int pa_nil))) pe_int (nomark _)) (pss_one (ps_expr (pe_bm PySem.F.plainAttrs_list PySem.F.slot_list_append PySem.F.type_list_append mt_append (pv 4) (pa_cons (pe_tup (pa_cons (pv 7) (pa_cons (pv 10) pa_nil))) pa_nil)))) pss_nil)))))))))
      (pss_one (ps_ret (pv 4))))), ?_⟩
    have w2 : (2 : Nat) ≤ sizeLine := by decide
    have w3 : (3 : Nat) ≤ sizeLine := by decide
    have pl0 : ∀ i, i < tops.length → 0 ≤ plc tops i := fun i hi => by
      rw [plc_get hi]
      exact (pl _ (List.getElem_mem hi)).1
    refine ⟨Nat.zero_le _, fun l nl nls => ⟨_, rfl, _, _, rfl, ?_⟩⟩
    have sl := same_new (o := HO.lst []) nl
    have nlp := pp.ne nl
    have p1 := pp.keep sl
    have el0 : (upd H l (.lst [])) l = some (.lst []) := upd_same
    have b0 : But p H (upd H l (.lst [])) := But.of sl
    generalize upd H l (.lst []) = H0 at sl p1 el0 b0 ⊢
    refine ⟨.ref p, rfl, p, 9, _, rfl, p1, by decide, by decide, by omega, fun n H1 b1 p1' n0 n9 => ⟨_, rfl, by omega, by omega, ?_⟩⟩
    have el1 := b1 _ _ nlp el0
    have k01 := (Keep.same sl).trans (Keep.but b1 p1)
    refine for_it walk_range (fun k σ H' => ∃ (b : Addr) (cur : List Int) (xs : List V) (ds : List PyData), (∃ u6 u7 u8 u9 u10, σ = [some (.ref p), some (.ref t), some (.ref R), some (.ref a), some (.ref l), some (.ref b), u6, u7, u8, u9, u10, none]) ∧ But p H H' ∧ PotAt H' p (c + 1 + 5 * k) ∧ H' b = some (.tup (cur.map V.int)) ∧ cur.length = tops.length ∧ H' l = some (.lst xs) ∧ DbAll (only p) H' xs ds ∧ (∀ d ∈ ds, RwOk tops d) ∧ ds.length ≤ k) ⟨a, st, [], [], ⟨_, _, _, _, _, rfl⟩, b0.trans b1, p1'.mono (by omega), k01.tup ea, lst, el1, .nil, (fun _ h => absurd h List.not_mem_nil), Nat.le_refl _⟩ (fun _ _ _ _ _ => trivial) (fun k v σ Jx J hk y z => ?_) (fun σ H2 y => ?_)
    · obtain ⟨b, cur, xs, ds, ⟨u6, u7, u8, u9, u10, rfl⟩, bJ, pJ, eb, lc, el, hds, okd, lds⟩ := y
      obtain ⟨rfl, rfl⟩ := z
      have k9 : k < 9 := by omega
      have kJ := Keep.but bJ pp
      have etJ := kJ.tup et
      refine ⟨.ref p, rfl, .ref t, rfl, t, _, rfl, .inr (.inl (.inl etJ)), p, _, _, rfl, pJ, by rw [List.length_map]; omega, by rw [List.length_map]; omega, by omega, fun d J1 c1 r1 d0 d1 => ?_⟩
      rw [List.length_map] at d1
      obtain ⟨i, rfl⟩ : ∃ i : Nat, d = (i : Int) := ⟨d.toNat, by omega⟩
      have li : i < tops.length := by omega
      have ht : atI (tops.map V.int) (i : Int) = some (.int (plc tops i)) := by
        rw [plc_get li]
        exact at_int li
      have kJ1 := Keep.but c1 pJ
      have et1 := kJ1.tup etJ
      have b30 := pl _ (List.getElem_mem li)
      rw [← plc_get li] at b30
      refine ⟨.ref t, rfl, _, rfl, t, _, i, _, rfl, rfl, .inl (.inl et1), ht, .ref p, rfl, .ref t, rfl, _, rfl, t, _, i, _, rfl, rfl, .inl (.inl et1), ht, _, _, rfl, rfl, p, _, _, rfl, r1, by omega, Int.lt_of_le_of_lt (show plc tops i + 1 ≤ 10 ^ 30 by omega) (by decide), by omega, fun e0 J2 c2 r2 e00 e01 => ⟨w3, fun sp nsp _ => ?_⟩⟩
      have nspp := r2.ne nsp
      have ssp := same_new (o := HO.lst [V.int 0, V.int (plc tops i), V.int e0]) nsp
      have kJ3 := (kJ1.trans (Keep.but c2 r1)).trans (.same ssp)
      have c3 : But p J _ := (c1.trans c2).trans (But.of ssp)
      have r3 := r2.keep ssp
      have esp : (upd J2 sp (.lst [V.int 0, V.int (plc tops i), V.int e0])) sp = some (.lst ([0, plc tops i, e0].map V.int)) := upd_same
      have el3 := c3 _ _ nlp el
      generalize upd J2 sp (.lst [V.int 0, V.int (plc tops i), V.int e0]) = J3 at kJ3 c3 r3 esp el3 ⊢
      have nspl : sp ≠ l := fun z => by
        have h1 := (c1.trans c2) _ _ nlp el
        rw [← z, nsp] at h1
        cases h1
      have hR3 := hR.keep (kJ.trans kJ3)
      obtain ⟨as, eR, la, ha⟩ := id hR3
      have zl := pl0 i li
      refine ⟨.ref R, rfl, R, rfl, ⟨_, .inl (.inl eR)⟩, for_it (walk_tup (xs := as.map V.ref)) (fun m σ H' => (∃ u9, σ = [some (.ref p), some (.ref t), some (.ref R), some (.ref a), some (.ref l), some (.ref b), some (.int (0 + (k : Int))), some (.int (i : Int)), some (.ref sp), u9, u10, none]) ∧ Keep J3 H' ∧ H' l = some (.lst xs) ∧ (∀ o, J3 p = some o → H' p = some o) ∧ (∀ z o, z ≠ sp → J3 z = some o → H' z = some o) ∧ ∃ ss : List Int, H' sp = some (.lst (ss.map V.int)) ∧ 1 ≤ ss.length ∧ ss.length ≤ 3 + 2 * m ∧ ∀ y ∈ ss, 0 ≤ y ∧ y ≤ plc tops i) ⟨⟨_, rfl⟩, Keep.refl _, el3, (fun _ h => h), (fun _ _ _ h => h), _, esp, (show 1 ≤ 3 by decide), (show 3 ≤ 3 by decide), fun y hy => ?_⟩ (fun m σ H' _ y => .inl (.inl (y.2.1.tup eR))) (fun m v σ H5x H5 hm y z => ?_) (fun σ H4 y => ?_)⟩
      · simp only [List.mem_cons, List.not_mem_nil, or_false] at hy
        rcases hy with rfl | rfl | rfl <;> omega
      · obtain ⟨⟨u9, rfl⟩, kk, ell, kp, ko, ss, ess, ls1, ls2, oks⟩ := y
        obtain ⟨rfl, gv⟩ := z
        obtain ⟨r, er, rfl⟩ := mapGet gv
        have hm' : m < as.length := by simpa using hm
        have hmr : m < rs.length := by omega
        obtain ⟨q1, q2, er', h1, h2⟩ := (ha m r _ er (List.getElem?_eq_getElem hmr)).keep kk
        have rk := rok _ (List.getElem_mem hmr)
        refine ⟨.ref sp, rfl, .inl ⟨rfl, _, .inl (.inl ess)⟩, .ref r, rfl, r, rfl, ⟨_, .inl (.inl er')⟩, fun D nD => lc_it (walk_tup (xs := [V.ref q1, V.ref q2])) (fun j H' => Same H5 H' ∧ ∃ zs : List Int, H' D = some (.lst (zs.map V.int)) ∧ zs.length ≤ j ∧ ∀ y ∈ zs, 0 ≤ y ∧ y ≤ plc tops i) ⟨same_new nD, [], upd_same, Nat.le_refl _, fun _ h => absurd h List.not_mem_nil⟩ (fun j H' _ y => .inl (.inl (y.1 _ _ er'))) (fun j v Lx L hj y z => ?_) (fun L y => ?_)⟩
        · obtain ⟨sL, zs, eD, lz, okz⟩ := y
          obtain ⟨rfl, gv⟩ := z
          have hj2 : j < 2 := hj
          obtain ⟨o, sd, rfl, eo, oksd⟩ : ∃ o sd, v = .ref o ∧ SideAt L o sd ∧ SideOk tops sd := by
            match j, gv with
            | 0, gv => exact ⟨q1, _, (Option.some.inj gv).symm, h1.keep (.same sL), rk.1⟩
            | 1, gv => exact ⟨q2, _, (Option.some.inj gv).symm, h2.keep (.same sL), rk.2⟩
          obtain ⟨n', bb, pl'⟩ := sd
          have eo' : L o = some (.tup [.int (n' : Int), .str (word bb), .int pl']) := eo
          have bd : 0 ≤ pl' ∧ pl' ≤ plc tops n' := by
            obtain ⟨tt, e1, h0, h1⟩ := oksd
            have : plc tops n' = tt := by
              show tops.getD n' 0 = tt
              rw [List.getD_eq_getElem?_getD, show tops[n']? = some tt from e1]
              rfl
            exact ⟨h0, by rw [this]; exact h1⟩
          refine ⟨wipe_one, _, rfl, o, _, 0, _, rfl, rfl, .inl (.inl eo'), atI_nat (j := 0) rfl, _, rfl, rfl, _, rfl, ite2 (fun cc => ?_) (fun cc => ⟨sL, zs, eD, by omega, okz⟩)⟩
          have ei : n' = i := by
            have := of_decide_eq_true cc
            injection this with this
            omega
          subst ei
          refine ⟨_, rfl, o, _, 2, _, rfl, rfl, .inl (.inl eo'), atI_nat (j := 2) rfl, _, eD, by rw [List.length_map]; exact small1000 (by omega), same_over sL nD, zs ++ [pl'], by rw [upd_same, List.map_append]; rfl, by rw [List.length_append]; simp only [List.length_cons, List.length_nil]; omega, fun y hy => ?_⟩
          rcases List.mem_append.mp hy with h | h
          · exact okz y h
          · rw [List.mem_singleton.mp h]
            exact bd
        · obtain ⟨sL, zs, eD, lz, okz⟩ := y
          have lz2 : zs.length ≤ 2 := lz
          have essL := sL _ _ ess
          refine ⟨sp, D, _, _, rfl, rfl, essL, eD, by rw [List.length_map, List.length_map]; exact Nat.le_of_lt (small1000 (by omega)), ⟨_, rfl⟩, (kk.trans (.same sL)).trans (.upd essL), by rw [upd_ne nspl.symm]; exact sL _ _ ell, (fun o ho => by rw [upd_ne nspp.symm]; exact sL _ _ (kp o ho)), (fun z o hz ho => by rw [upd_ne hz]; exact sL _ _ (ko z o hz ho)), ss ++ zs, by rw [upd_same, List.map_append], by rw [List.length_append]; omega, by rw [List.length_append]; omega, fun y hy => ?_⟩
          rcases List.mem_append.mp hy with h | h
          · exact oks y h
          · exact okz y h
      · obtain ⟨⟨u9, rfl⟩, kk, ell, kp, ko, ss, ess, ls1, ls2, oks⟩ := y
        rw [List.length_map] at ls2
        have r4 : PotAt H4 p (c + 1 + 5 * k + 2) := by
          obtain ⟨x1, x2, x3, ex, h⟩ := r3
          exact ⟨x1, x2, x3, kp _ ex, h.1, h.2.1, by omega⟩
        have c4 : But p J H4 := fun z o hz ho => by
          by_cases e : z = sp
          · subst e
            have h1 := (c1.trans c2) _ _ hz ho
            rw [nsp] at h1
            cases h1
          · exact ko z o e (c3 z o hz ho)
        refine ⟨.ref p, rfl, .ref sp, rfl, p, sp, ss.map V.int, _, rfl, r4, nspp, .inl (.inl (.inl ess)), by rw [List.length_map]; exact ls1, by rw [List.length_map]; omega, by omega, fun v J5 mv c5 r5 => ?_⟩
        obtain ⟨e, me, rfl⟩ := List.mem_map.mp mv
        have oke := oks e me
        have c45 := c4.trans c5
        have kJ5 := (kJ3.trans kk).trans (Keep.but c5 r4)
        have el5 := c5 _ _ nlp ell
        have eb5 := kJ5.tup eb
        refine ⟨.ref R, rfl, .ref b, rfl, _, rfl, _, rfl, R, b, rs, cur, i, e, rfl, (hR.keep kJ).keep kJ5, eb5, l40, (fun q hq => fit_of (rok q hq) lc), by omega, by omega, fun J6 g s6 _ => ⟨_, rfl, ?_⟩⟩
        have dsJ : ∀ J', But p J J' → DbAll (only p) J' xs ds := fun J' bb => DbAll.keepD (but_keep (E := only p) rfl pJ bb) ds xs hds
        have fin : ∀ J7, But p J J7 → PotAt J7 p (c + 1 + 5 * (k + 1)) → H1 = H1 → ∀ (T : Addr), J7 T = none → J7 l = some (.lst xs) → DbAll (only p) (upd (upd J7 T (.tup [V.int (i : Int), V.int e])) l (.lst (xs ++ [V.ref T]))) (xs ++ [V.ref T]) (ds ++ [.tuple [.int (i : Int), .int e]]) ∧ (∀ d ∈ ds ++ [PyData.tuple [.int (i : Int), .int e]], RwOk tops d) ∧ (ds ++ [PyData.tuple [.int (i : Int), .int e]]).length ≤ k + 1 := fun J7 b7 p7 _ T nT el7 => by
          have sT := same_new (o := HO.tup [V.int (i : Int), V.int e]) nT
          have elT := sT _ _ el7
          have kd : ∀ z o, (∀ ys, o = HO.lst ys → ¬ (twoA p l) z) → J7 z = some o → (upd (upd J7 T (.tup [V.int (i : Int), V.int e])) l (.lst (xs ++ [V.ref T]))) z = some o := fun z o h ez => by
            have nz : z ≠ l := fun e' => by
              subst e'
              rw [el7] at ez
              injection ez with ez
              exact h _ ez.symm (.inr rfl)
            rw [upd_ne nz]
            exact sT _ _ ez
          refine ⟨?_, fun d hd => ?_, by rw [List.length_append]; simp only [List.length_cons, List.length_nil]; omega⟩
          · have rowsTup : DbAll (twoA p l) J7 xs ds := rows_any okd (dsJ J7 b7)
            have h1 := DbAll.weakD (E' := only p) (fun n hn => .inl hn) _ _ (DbAll.keepD kd ds xs rowsTup)
            have h2 : Db (only p) (upd (upd J7 T (.tup [V.int (i : Int), V.int e])) l (.lst (xs ++ [V.ref T]))) (.ref T) (.tuple [.int (i : Int), .int e]) := .tup (by rw [upd_ne (fun z => by rw [z, el7] at nT; cases nT)]; exact upd_same) (.cons (.int _) (.cons (.int _) .nil))
            exact h1.app (.cons h2 .nil)
          · rcases List.mem_append.mp hd with h | h
            · exact okd d h
            · rw [List.mem_singleton.mp h]
              exact ⟨i, e, rfl, li, oke.1, oke.2⟩
        have c46 := c45.trans (But.of s6)
        have r6 := r5.keep s6
        have el6 := s6 _ _ el5
        have lxs := hds.len
        cases g with
        | true =>
          refine iteT ⟨.ref l, rfl, .inl ⟨rfl, _, .inl (.inl el6)⟩, _, rfl, _, rfl, w2, fun T nT => ?_⟩
          obtain ⟨f1, f2, f3⟩ := fin J6 c46 (r6.mono (by omega)) rfl T nT el6
          have sT := same_new (o := HO.tup [V.int (i : Int), V.int e]) nT
          have elT := sT _ _ el6
          refine ⟨l, _, _, rfl, rfl, elT, small1000 (by omega), ?_⟩
          have kU : Keep J6 (upd (upd J6 T (.tup [V.int (i : Int), V.int e])) l (.lst (xs ++ [V.ref T]))) := (Keep.same sT).trans (.upd elT)
          have eb7 := kU.tup (s6 _ _ eb5)
          have p7 : PotAt (upd (upd J6 T (.tup [V.int (i : Int), V.int e])) l (.lst (xs ++ [V.ref T]))) p (c + 1 + 5 * (k + 1)) := pot_upd ((r6.keep sT).mono (by omega)) nlp
          have b7 : But p H (upd (upd J6 T (.tup [V.int (i : Int), V.int e])) l (.lst (xs ++ [V.ref T]))) := but_new ((bJ.trans c46).trans (But.of sT)) nl
          refine moved_val (K := K) (a := 5) (i := 7) (x := 10) rfl rfl rfl eb7 (by omega) (by omega) fun gg J8 s8 e8 => ?_
          exact ⟨gg, cur.set i e, _, _, ⟨_, _, _, _, _, rfl⟩, b7.trans (But.of s8), p7.keep s8, e8, by rw [List.length_set]; exact lc, s8 _ _ upd_same, f1.same s8, f2, f3⟩
        | false =>
          refine iteF ⟨.ref p, rfl, p, 5, _, rfl, r6, by decide, by decide, by omega, fun d' J7 c7 r7 _ _ => ⟨rfl, _, rfl, ite2 (fun _ => ?_) (fun _ => ?_)⟩⟩
          · have c47 := c46.trans c7
            have el7 := c7 _ _ nlp el6
            refine ⟨.ref l, rfl, .inl ⟨rfl, _, .inl (.inl el7)⟩, _, rfl, _, rfl, w2, fun T nT => ?_⟩
            obtain ⟨f1, f2, f3⟩ := fin J7 c47 (r7.mono (by omega)) rfl T nT el7
            have sT := same_new (o := HO.tup [V.int (i : Int), V.int e]) nT
            have elT := sT _ _ el7
            refine ⟨l, _, _, rfl, rfl, elT, small1000 (by omega), ?_⟩
            have kU : Keep J7 (upd (upd J7 T (.tup [V.int (i : Int), V.int e])) l (.lst (xs ++ [V.ref T]))) := (Keep.same sT).trans (.upd elT)
            exact ⟨b, cur, _, _, ⟨_, _, _, _, _, rfl⟩, but_new ((bJ.trans c47).trans (But.of sT)) nl, pot_upd ((r7.keep sT).mono (by omega)) nlp, kU.tup ((Keep.but c7 r6).tup (s6 _ _ eb5)), lc, upd_same, f1, f2, f3⟩
          · exact ⟨b, cur, xs, ds, ⟨_, _, _, _, _, rfl⟩, (bJ.trans c46).trans c7, r7.mono (by omega), (Keep.but c7 r6).tup (s6 _ _ eb5), lc, c7 _ _ nlp el6, dsJ _ (c46.trans c7), okd, by omega⟩
    · obtain ⟨b, cur, xs, ds, ⟨u6, u7, u8, u9, u10, rfl⟩, bJ, pJ, eb, lc, el, hds, okd, lds⟩ := y
      exact ⟨_, rfl, q H2 l xs ds bJ (pJ.mono (by omega)) el nlp nls hds okd (by omega)⟩
end
end K21

set_option Elab.async false
set_option linter.all false
set_option maxRecDepth 100000
namespace K21
open PySem PySem.Spec PyProof.Rows L2 NB

/-! ### a row that is none -/
def Bq (p : Addr) (H : Hp) (vs : List V) : Prop := ∀ v ∈ vs, ∃ d, Db (only p) H v d
theorem Bq.same {p : Addr} {H H' : Hp} {vs : List V} (h : Bq p H vs) (s : Same H H') : Bq p H' vs := fun v hv => by
  obtain ⟨d, D⟩ := h v hv
  exact ⟨d, D.same s⟩
theorem Bq.add {p : Addr} {H : Hp} {vs : List V} {v : V} {d : PyData} (h : Bq p H vs) (D : Db (only p) H v d) : Bq p H (v :: vs) := fun u hu => by
  rcases List.mem_cons.mp hu with rfl | hu
  · exact ⟨d, D⟩
  · exact h u hu
theorem bq_tup {p a : Addr} {H : Hp} {vs xs : List V} {ds : List PyData} (h : Bq p H vs) (n : H a = none) (D : DbAll (only p) H xs ds) : Same H (upd H a (.tup xs)) ∧ Bq p (upd H a (.tup xs)) (.ref a :: vs) := by
  obtain ⟨s, X⟩ := newb_tup (E := only p) n D
  exact ⟨s, (h.same s).add X⟩
section
variable {P : Program} {w : World} {K : PySem.W.Frag} {mg : Str → Option Value} {base : Heap}
def spOdd21 : Sp := fun vs H Q _ => ∃ (p t r : Addr) (tops : List Int) (i : Nat) (e : Int) (c : Nat), vs = [.ref p, .ref t, .ref r] ∧ PotAt H p c ∧ c < 800000 ∧ H t = some (.tup (tops.map V.int)) ∧ i < tops.length ∧ tops.length ≤ 12 ∧ H r = some (.tup [.int (i : Int), .int e]) ∧
  ∀ H' v d, But p H H' → PotAt H' p (c + 1) → Db (only p) H' v d → Q v H'
abbrev a__law_odd : Stmt := topS 52
abbrev n__law_odd : List Str := ["_law_pot_here", "_law_tops_here", "_law_row", "_law_thing", "_law_place", "_law_some"]
theorem sc__law_odd : FnScope n__law_odd ["_law_pot_here", "_law_tops_here", "_law_row"] (defScope a__law_odd) := ⟨rfl, rfl, rfl, by decide +kernel, rfl, by decide +kernel, by decide +kernel⟩
set_option maxHeartbeats 8000000 in
theorem ok__law_odd {f fOf : Addr} {fd fdOf : FuncData} {k : Nat}  (F : Fun K "_law_odd" "_law_odd" a__law_odd f fd) (Of : Kn P w K mg base 2 "_law_of" ["_law_pot_here", "_law_some"] (spOf K) fOf fdOf)  (m_len : mg "len" = none) (m_str : mg "str" = none) : FnOk P w K mg base CX0 (k + 3) f fd ["_law_pot_here", "_law_tops_here", "_law_row"] spOdd21 := by
  refine F.ok sc__law_odd (fun vs H Q E h => ?_) (fun cdv A outer s H vs Q E hr h => ?_)
  · obtain ⟨p, t, r, tops, i, e, c, rfl, _⟩ := h
    rfl
  · obtain ⟨p, t, r, tops, i, e, c, rfl, pp, hc, et, li, l12, er, q⟩ := h
    refine ⟨_, (pss_cons (ps_asg (pv 2) (pg_tup rfl (pgs_cons (pg_name (i := 3) sc__law_odd.nd rfl (.inl rfl)) (pgs_cons (pg_name (i := 4) sc__law_odd.nd rfl (.inl rfl)) pgs_nil))))
      (pss_cons (ps_set (i := 5) sc__law_odd.nd rfl (.inl rfl) (pe_lstN (pa_cons (pe_tup (pa_cons (pv 3) pa_nil)) (pa_cons (pe_op (r := rCatA K) op_catA (pv 2) (pe_tup (pa_cons (pv 4) pa_nil))) (pa_cons (pe_tup (pa_cons (pe_callB call_len_seq (by rfl) m_len (by decide +kernel) (pa_cons (pv 1) pa_nil)) (pa_cons pe_int pa_nil))) (pa_cons (pe_tup (pa_cons (pe_un un_neg pe_int) (pa_cons (pv 4) pa_nil))) (pa_cons (pe_tup (pa_cons (pv 3) (pa_cons (pe_op op_add (pe_ix ix_tup (pv 1) (pv 3) (fun _ _ => rfl)) pe_int) pa_nil))) (pa_cons (pe_tup (pa_cons (pv 3) (pa_cons (pe_op op_sub (pe_un un_neg pe_int) (pv 4)) pa_nil))) pa_nil))))))))
      (pss_cons (ps_set (i := 5) sc__law_odd.nd rfl (.inl rfl) (pe_op op_cat (pv 5) (pe_lstN (pa_cons (pe_tup (pa_cons (pv 3) (pa_cons pe_non pa_nil))) (pa_cons (pe_tup (pa_cons (pe_callTy call_str_int (by rfl) m_str (by decide +kernel) (pa_cons (pv 3) pa_nil)) (pa_cons (pv 4) pa_nil))) (pa_cons (pe_lstN (pa_cons (pv 3) (pa_cons (pv 4) pa_nil))) (pa_cons (pe_tup (pa_cons (pv 3) (pa_cons pe_bl pa_nil))) (pa_cons (pe_tup (pa_cons pe_bl (pa_cons (pv 4) pa_nil))) (pa_cons pe_non (pa_cons (pv 3) (pa_cons (pe_tup pa_nil) pa_nil)))))))))))
      (pss_one (ps_ret (pe_kn Of hr (by omega) (pa_cons (pv 0) (pa_cons (pv 5) pa_nil)))))))), ?_⟩
    have w1 : (1 : Nat) ≤ sizeLine := by decide
    have w2 : (2 : Nat) ≤ sizeLine := by decide
    have ht : atI (tops.map V.int) (i : Int) = some (.int (plc tops i)) := by
      rw [plc_get li]
      exact at_int li
    refine ⟨.ref r, rfl, r, _, rfl, .inl (.inl er), rfl, _, _, rfl, _, _, rfl, rfl, ?_⟩
    refine ⟨_, rfl, w1, fun a1 n1 => ?_⟩
    have B0 : Bq p H [] := fun v hv => absurd hv List.not_mem_nil
    obtain ⟨t1, B1⟩ := bq_tup (xs := [V.int (i : Int)]) B0 n1 (.cons (.int _) .nil)
    have er1 := t1 _ _ er
    generalize upd H a1 (.tup [V.int (i : Int)]) = J1 at t1 B1 er1 ⊢
    refine ⟨.ref r, rfl, _, rfl, w1, fun a2 n2 => ?_⟩
    have t2 := same_new (o := HO.tup [V.int e]) n2
    refine ⟨r, a2, _, _, rfl, rfl, .inl (.inl (t2 _ _ er1)), .inl (.inl upd_same), (show 3 ≤ sizeLine by decide), (fun z => nomatch z), (fun _ z => nomatch z), fun _ _ a3 n3 => ?_⟩
    have B2 := B1.same t2
    have s2 := t1.trans t2
    generalize upd J1 a2 (.tup [V.int e]) = J2 at t2 B2 s2 n3 ⊢
    obtain ⟨t3, B3⟩ := bq_tup (xs := [V.int (i : Int), V.int e] ++ [V.int e]) B2 n3 (.cons (.int _) (.cons (.int _) (.cons (.int _) .nil)))
    have s3 := s2.trans t3
    generalize upd J2 a3 (.tup ([V.int (i : Int), V.int e] ++ [V.int e])) = J3 at t3 B3 s3 ⊢
    refine ⟨.ref t, rfl, t, _, rfl, .inr (.inl (.inl (s3 _ _ et))), w2, fun a4 n4 => ?_⟩
    obtain ⟨t4, B4⟩ := bq_tup (xs := [V.int ((tops.map V.int).length : Int), V.int 0]) B3 n4 (.cons (.int _) (.cons (.int _) .nil))
    have s4 := s3.trans t4
    generalize upd J3 a4 (.tup [V.int ((tops.map V.int).length : Int), V.int 0]) = J4 at t4 B4 s4 ⊢
    refine ⟨1, rfl, _, rfl, w2, fun a5 n5 => ?_⟩
    obtain ⟨t5, B5⟩ := bq_tup (xs := [V.int (-1), V.int e]) B4 n5 (.cons (.int _) (.cons (.int _) .nil))
    have s5 := s4.trans t5
    generalize upd J4 a5 (.tup [V.int (-1), V.int e]) = J5 at t5 B5 s5 ⊢
    refine ⟨_, rfl, .ref t, rfl, _, rfl, t, _, i, _, rfl, rfl, .inl (.inl (s5 _ _ et)), ht, _, _, rfl, rfl, w2, fun a6 n6 => ?_⟩
    obtain ⟨t6, B6⟩ := bq_tup (xs := [V.int (i : Int), V.int (plc tops i + 1)]) B5 n6 (.cons (.int _) (.cons (.int _) .nil))
    have s6 := s5.trans t6
    dsimp only
    generalize upd J5 a6 (.tup [V.int (i : Int), V.int (plc tops i + 1)]) = J6 at t6 B6 s6 ⊢
    refine ⟨_, rfl, 1, rfl, _, rfl, _, _, rfl, rfl, w2, fun a7 n7 => ?_⟩
    obtain ⟨t7, B7⟩ := bq_tup (xs := [V.int (i : Int), V.int (-1 - e)]) B6 n7 (.cons (.int _) (.cons (.int _) .nil))
    have s7 := s6.trans t7
    dsimp only
    generalize upd J6 a7 (.tup [V.int (i : Int), V.int (-1 - e)]) = J7 at t7 B7 s7 ⊢
    refine ⟨(show 6 ≤ sizeLine by decide), fun l1 nl1 ml1 => ?_⟩
    have tl1 := same_new (o := HO.lst [V.ref a1, V.ref a3, V.ref a4, V.ref a5, V.ref a6, V.ref a7]) nl1
    have el1 : (upd J7 l1 (.lst [V.ref a1, V.ref a3, V.ref a4, V.ref a5, V.ref a6, V.ref a7])) l1 = some (.lst [V.ref a1, V.ref a3, V.ref a4, V.ref a5, V.ref a6, V.ref a7]) := upd_same
    have B8 := B7.same tl1
    have s8 := s7.trans tl1
    generalize upd J7 l1 (.lst [V.ref a1, V.ref a3, V.ref a4, V.ref a5, V.ref a6, V.ref a7]) = J8 at tl1 el1 B8 s8 ⊢
    clear t1 B1 er1 t2 B2 s2 t3 B3 s3 t4 B4 s4 t5 B5 s5 t6 B6 s6 t7 B7 s7 tl1 n1 n2 n3 n4 n5 n6 n7 nl1
    refine ⟨_, rfl, _, rfl, w2, fun b1 n1 => ?_⟩
    obtain ⟨t1, B1⟩ := bq_tup (xs := [V.int (i : Int), V.non]) B8 n1 (.cons (.int _) (.cons .non .nil))
    have s1 := s8.trans t1
    generalize upd J8 b1 (.tup [V.int (i : Int), V.non]) = K1 at t1 B1 s1 ⊢
    have lg : (i : Int).natAbs.log2 < 1920 := by
      have h1 : (i : Int).natAbs.log2 ≤ (i : Int).natAbs := Nat.log2_le_self _
      omega
    refine ⟨_, rfl, _, rfl, lg, _, rfl, w2, fun b2 n2 => ?_⟩
    obtain ⟨t2, B2⟩ := bq_tup (xs := [V.str (toString (i : Int)), V.int e]) B1 n2 (.cons (.str _) (.cons (.int _) .nil))
    have s2 := s1.trans t2
    generalize upd K1 b2 (.tup [V.str (toString (i : Int)), V.int e]) = K2 at t2 B2 s2 ⊢
    refine ⟨_, rfl, _, rfl, w2, fun b3 n3 m3 => ?_⟩
    obtain ⟨t3, D3⟩ := newb_lst (E := only p) (xs := [V.int (i : Int), V.int e]) n3 m3 (there_one (pp.keep s2)) (.cons (.int _) (.cons (.int _) .nil))
    have B3 := (B2.same t3).add D3
    have s3 := s2.trans t3
    generalize upd K2 b3 (.lst [V.int (i : Int), V.int e]) = K3 at t3 B3 s3 ⊢
    refine ⟨_, rfl, w2, fun b4 n4 => ?_⟩
    obtain ⟨t4, B4⟩ := bq_tup (xs := [V.int (i : Int), V.bl true]) B3 n4 (.cons (.int _) (.cons (.bl _) .nil))
    have s4 := s3.trans t4
    generalize upd K3 b4 (.tup [V.int (i : Int), V.bl true]) = K4 at t4 B4 s4 ⊢
    refine ⟨_, rfl, w2, fun b5 n5 => ?_⟩
    obtain ⟨t5, B5⟩ := bq_tup (xs := [V.bl false, V.int e]) B4 n5 (.cons (.bl _) (.cons (.int _) .nil))
    have s5 := s4.trans t5
    generalize upd K4 b5 (.tup [V.bl false, V.int e]) = K5 at t5 B5 s5 ⊢
    refine ⟨_, rfl, Nat.zero_le _, fun b6 n6 => ?_⟩
    obtain ⟨t6, B6⟩ := bq_tup (xs := []) B5 n6 .nil
    have s6 := s5.trans t6
    generalize upd K5 b6 (.tup []) = K6 at t6 B6 s6 ⊢
    refine ⟨(show 8 ≤ sizeLine by decide), fun l2 nl2 ml2 => ?_⟩
    have t7 := same_new (o := HO.lst [V.ref b1, V.ref b2, V.ref b3, V.ref b4, V.ref b5, V.non, V.int (i : Int), V.ref b6]) nl2
    have s7 := s6.trans t7
    have B7 := ((B6.same t7).add .non).add (.int (i : Int))
    have el17 : (upd K6 l2 (.lst [V.ref b1, V.ref b2, V.ref b3, V.ref b4, V.ref b5, V.non, V.int (i : Int), V.ref b6])) l1 = some (.lst [V.ref a1, V.ref a3, V.ref a4, V.ref a5, V.ref a6, V.ref a7]) := (((((((t1.trans t2).trans t3).trans t4).trans t5).trans t6).trans t7)) _ _ el1
    refine ⟨l1, l2, _, _, rfl, rfl, el17, upd_same, (show 14 ≤ sizeLine by decide), fun l3 nl3 => ?_⟩
    have t8 := same_new (o := HO.lst ([V.ref a1, V.ref a3, V.ref a4, V.ref a5, V.ref a6, V.ref a7] ++ [V.ref b1, V.ref b2, V.ref b3, V.ref b4, V.ref b5, V.non, V.int (i : Int), V.ref b6])) nl3
    have s9 := s7.trans t8
    have B8' := B7.same t8
    have p9 := pp.keep s9
    have nl3p := (pp.keep s7).ne nl3
    refine ⟨.ref p, rfl, _, rfl, p, l3, _, _, rfl, p9, nl3p, .inl (.inl (.inl upd_same)), (show 1 ≤ 14 by decide), (show 14 ≤ 1000000 by decide), by omega, fun x J mx b p' => ?_⟩
    have mx' : x ∈ (V.int (i : Int) :: V.non :: V.ref b6 :: V.ref b5 :: V.ref b4 :: V.ref b3 :: V.ref b2 :: V.ref b1 :: V.ref a7 :: V.ref a6 :: V.ref a5 :: V.ref a4 :: V.ref a3 :: [V.ref a1]) := by
      simp only [List.cons_append, List.nil_append, List.mem_cons, List.not_mem_nil, or_false] at mx ⊢
      rcases mx with h | h | h | h | h | h | h | h | h | h | h | h | h | h <;> simp [h]
    obtain ⟨d, D⟩ := B8' x mx'
    exact q J x d ((But.of s9).trans b) p' (Db.keepD (but_keep (E := only p) rfl p9 b) d x D)
end
end K21

set_option Elab.async false
set_option linter.all false
set_option maxRecDepth 100000
/-! list + list stands apart from what the machine keeps by itself. -/
namespace NB
open PySem PySem.Spec PySem.Calls PyProof.Rows L2
def rCatN : R2 := fun x y H Q => ∃ l b xs zs, x = .ref l ∧ y = .ref b ∧ H l = some (.lst xs) ∧ H b = some (.lst zs) ∧ xs.length + zs.length ≤ sizeLine ∧ ∀ p, H p = none → p ≠ sysModules → Q (.ref p) (upd H p (.lst (xs ++ zs)))
theorem op_catN {X : Cx} : OpR X (binaryOp .Add) rCatN := by
  intro pins s σ H x y v u Q I rx ry h
  obtain ⟨l, b, xs, zs, rfl, rfl, hH, hB, hz, q⟩ := h
  cases rx
  cases ry
  obtain ⟨z, its, n, r, hl, e⟩ := I.lstM hH
  obtain ⟨z2, its2, n2, r2, hl2, e2⟩ := I.lstM hB
  refine PySem.P.add_list e e2 ?_ (by rw [List.size_toArray, List.size_toArray]; omega)
  have ea : its.toArray ++ its2.toArray = (its ++ its2).toArray := by simp
  rw [ea]
  exact ⟨.ref _, _, I.lnew (t' := s.toks) (r.append r2) (by rw [List.length_append]; omega), rfl, q _ I.fresh (Nat.ne_of_gt I.big)⟩
end NB

set_option Elab.async false
set_option linter.all false
set_option maxRecDepth 100000
namespace K21
open PySem PySem.Spec PyProof.Rows L2 NB

/-! ### ways walked or not: the law -/
/-- what is told, as data -/
def TD : Nat ⊕ List Int → PyData
  | .inl k => .tuple [.int (k : Int), .none]
  | .inr m => .tuple [.none, .tuple (m.map PyData.int)]
theorem told_da {n : Addr} {H : Hp} {p : Addr} {wk : Nat ⊕ List Int} (h : ToldAt H p wk) : Da n H (.ref p) (TD wk) := by
  cases wk with
  | inl k => exact .tup h (.cons (.int _) (.cons .non .nil))
  | inr m =>
    obtain ⟨b, e, eb⟩ := h
    exact .tup e (.cons .non (.cons (.tup eb (DaAll.ints _)) .nil))
theorem due_at {H : Hp} {p : Addr} {k : Int} {wk : Nat ⊕ List Int} (h : DueAt H p k wk) : ∃ va vl vm : V, H p = some (.tup [va, vl, vm]) ∧ (∀ (n : Addr) (H' : Hp), Same H H' → ∀ T, H' T = some (.tup [va, vl]) → Da n H' (.ref T) (TD wk)) ∧ (∀ m, wk = .inr m → va = .non ∧ vm = .int k) ∧ (∀ j, wk = .inl j → va = .int (j : Int)) := by
  cases wk with
  | inl j => exact ⟨_, _, _, h, fun n H' s T eT => .tup eT (.cons (.int _) (.cons .non .nil)), (fun m z => by cases z), (fun j' z => by cases z; rfl)⟩
  | inr m =>
    obtain ⟨b, e, eb⟩ := h
    exact ⟨_, _, _, e, fun n H' s T eT => .tup eT (.cons .non (.cons (.tup (s _ _ eb) (DaAll.ints _)) .nil)), fun m' z => ⟨rfl, rfl⟩, fun j z => by cases z⟩
/-- what is come to stays within the lines -/
theorem wk_bnd {tops : List Int} {rs : List Rl} : ∀ {ds : List PyData} {k : Nat} {st m : List Int}, st.length = tops.length → (∀ i, i < tops.length → 0 ≤ plc st i ∧ plc st i ≤ plc tops i) → wkL tops rs ds k st = .inr m → m.length = tops.length ∧ ∀ i, i < tops.length → 0 ≤ plc m i ∧ plc m i ≤ plc tops i
  | [], _, st, m, l, b, h => by
    have : st = m := by
      have h' : (Sum.inr st : Nat ⊕ List Int) = .inr m := h
      cases h'
      rfl
    subst this
    exact ⟨l, b⟩
  | d :: ds, k, st, m, l, b, h => by
    obtain ⟨gd, h'⟩ := wk_cons h
    obtain ⟨i, e, rfl, li, e0, e1, _, _⟩ := go_at gd
    rw [mv_at] at h'
    refine wk_bnd (by rw [List.length_set]; exact l) (fun k hk => ?_) h'
    by_cases c : k = i
    · subst c
      rw [plc_set_self (by omega)]
      exact ⟨e0, e1⟩
    · rw [plc_set_ne (fun z => c z.symm)]
      exact b k hk
theorem stA_bnd {tops : List Int} {rs : List Rl} (big : ∀ i, i < tops.length → plc tops i < 10 ^ 30) : ∀ {ds : List PyData} {k : Nat} {st m : List Int} {acc : Int}, st.length = tops.length → (∀ i, i < tops.length → 0 ≤ plc st i ∧ plc st i ≤ plc tops i) → wkL tops rs ds k st = .inr m → acc ≤ stA acc st ds ∧ stA acc st ds ≤ acc + 10 ^ 30 * ds.length
  | [], _, st, m, acc, _, _, _ => by
    show acc ≤ acc ∧ acc ≤ acc + 10 ^ 30 * ((0 : Nat) : Int)
    omega
  | d :: ds, k, st, m, acc, l, b, h => by
    obtain ⟨gd, h'⟩ := wk_cons h
    obtain ⟨i, e, rfl, li, e0, e1, _, _⟩ := go_at gd
    rw [mv_at] at h'
    have ih := stA_bnd big (acc := acc + ab1 st (.tuple [.int (i : Int), .int e])) (st := st.set i e) (by rw [List.length_set]; exact l) (fun k hk => by
      by_cases c : k = i
      · subst c
        rw [plc_set_self (by omega)]
        exact ⟨e0, e1⟩
      · rw [plc_set_ne (fun z => c z.symm)]
        exact b k hk) h'
    have es : stA acc st (.tuple [.int (i : Int), .int e] :: ds) = stA (acc + ab1 st (.tuple [.int (i : Int), .int e])) (st.set i e) ds := by
      rw [← mv_at]
      rfl
    rw [es]
    have bi := b i li
    have bt := big i li
    have ea : 0 ≤ ab1 st (.tuple [.int (i : Int), .int e]) ∧ ab1 st (.tuple [.int (i : Int), .int e]) ≤ 10 ^ 30 := by
      rw [ab_at]
      split <;> omega
    rw [List.length_cons]
    have e2 : (10 : Int) ^ 30 * ((ds.length + 1 : Nat) : Int) = 10 ^ 30 * (ds.length : Int) + 10 ^ 30 := by
      rw [Int.natCast_add, Int.mul_add]
      rfl
    rw [e2]
    omega
theorem sm_td {tops : List Int} {rs : List Rl} (big : ∀ i, i < tops.length → plc tops i < 10 ^ 30) (l12 : tops.length ≤ 12) {d : PyData} {st : List Int} (l : st.length = tops.length) (b : ∀ i, i < tops.length → 0 ≤ plc st i ∧ plc st i ≤ plc tops i) (hk : ∀ ds, d = .tuple ds → ds.length ≤ 1000) : Sm (TD (wkD tops rs st d)) 20000 3 := by
  cases e : wkD tops rs st d with
  | inl k =>
    have kk : k ≤ 1000 := by
      have aux : ∀ (ds : List PyData) (j : Nat) (st : List Int), wkL tops rs ds j st = .inl k → k ≤ j + ds.length := by
        intro ds
        induction ds with
        | nil => intro j st h; cases h
        | cons d ds ih =>
          intro j st h
          unfold wkL at h
          split at h
          · have := ih _ _ h
            simp only [List.length_cons]
            omega
          · cases h
            omega
      cases d with
      | tuple ds =>
        have := aux ds 0 st e
        have := hk ds rfl
        omega
      | _ =>
        cases e
        exact Nat.zero_le _
    have a := Sm.int (i := (k : Int)) (by
      have : (1001 : Nat) < 10 ^ 90 := by decide
      omega)
    refine (Sm.tupD (k := 0) (SmE.app (SmE.one a) (SmE.one Sm.none)) (w := 1000) ?_).mono (by decide) (by decide)
    have := a.wt
    have h2 : PyData.weight .none ≤ 10 := by decide +kernel
    simp only [List.cons_append, List.nil_append, PyData.weightAll]
    omega
  | inr m =>
    have hb : m.length = tops.length ∧ ∀ i, i < tops.length → 0 ≤ plc m i ∧ plc m i ≤ plc tops i := by
      cases d with
      | tuple ds => exact wk_bnd l b e
      | _ => cases e
    have m90 : ∀ y ∈ m, y.natAbs < 10 ^ 90 := fun y hy => by
      obtain ⟨i, hi, rfl⟩ := List.getElem_of_mem hy
      have h1 := hb.2 i (by omega)
      have h2 := big i (by omega)
      rw [plc_get hi] at h1
      have b1 : (10 : Nat) ^ 30 < 10 ^ 90 := by decide
      have b2 : ((10 : Int) ^ 30) = ((10 ^ 30 : Nat) : Int) := by decide
      omega
    have SN : Sm (.tuple (m.map PyData.int)) 5000 2 := (Sm.tup (SmE.ints m90) (wt_ints m90)).mono (by omega) (by decide)
    refine (Sm.tupD (k := 2) (w := 6000) (SmE.app (SmE.mono (SmE.one Sm.none) (by decide)) (SmE.one SN)) ?_).mono (by decide) (by decide)
    have := SN.wt
    have h2 : PyData.weight .none ≤ 10 := by decide +kernel
    simp only [List.cons_append, List.nil_append, PyData.weightAll]
    omega
theorem join2c {c : Bool} {A B : VK → Prop} {Q : VK} (R : V → Hp → Prop) (hA : c = true → ∀ Q' : VK, (∀ v H, R v H → Q' v H) → A Q') (hB : c = false → ∀ Q' : VK, (∀ v H, R v H → Q' v H) → B Q') (hQ : ∀ v H, R v H → Q v H) : if c = true then A Q else B Q := by
  cases c
  · exact iteF (hB rfl Q hQ)
  · exact iteT (hA rfl Q hQ)
theorem DbAll.takeD {E : Addr → Prop} {H : Hp} : ∀ (k : Nat) {xs : List V} {ds : List PyData}, DbAll E H xs ds → DbAll E H (xs.take k) (ds.take k)
  | 0, _, _, _ => .nil
  | _ + 1, _, _, .nil => .nil
  | k + 1, _, _, .cons h1 h2 => .cons h1 (DbAll.takeD k h2)
theorem DbAll.dropD {E : Addr → Prop} {H : Hp} : ∀ (k : Nat) {xs : List V} {ds : List PyData}, DbAll E H xs ds → DbAll E H (xs.drop k) (ds.drop k)
  | 0, _, _, h => h
  | _ + 1, _, _, .nil => .nil
  | k + 1, _, _, .cons h1 h2 => DbAll.dropD k h2
theorem DbAll.cutD {E : Addr → Prop} {H : Hp} {xs : List V} {ds : List PyData} (h : DbAll E H xs ds) (lo hi : Option Int) : ∃ es, DbAll E H (cutV xs lo hi) es ∧ es.length ≤ ds.length := by
  refine ⟨_, (h.dropD (HT.sIx xs.length 0 lo)).takeD (HT.sIx xs.length xs.length hi - HT.sIx xs.length 0 lo), ?_⟩
  rw [List.length_take, List.length_drop]
  omega
theorem not_diff {x y : V} {A B : Prop} (e : x = y) (h : B) : if (!decide (x = y)) = true then A else B := by
  rw [decide_eq_true e]
  exact iteF h
section
variable {P : Program} {w : World} {K : PySem.W.Frag} {mg : Str → Option Value} {base : Heap}
def spR21 : Sp := fun vs H Q _ => ∃ (p t R a : Addr) (tops st : List Int) (rs : List Rl) (c : Nat), vs = [.ref p, .ref t, .ref R, .ref a] ∧ PotAt H p c ∧ c < 700000 ∧ H t = some (.tup (tops.map V.int)) ∧ Pl tops ∧ 1 ≤ tops.length ∧ tops.length ≤ 12 ∧ RulesAt H R rs ∧ rs.length ≤ 40 ∧ (∀ q ∈ rs, RuleOk tops q) ∧ Std tops H a st ∧
  ∀ H', But p H H' → PotAt H' p (c + 60) → Q (.bl true) H'
abbrev a__law_right : Stmt := topS 55
abbrev n__law_right : List Str := ["_law_pot_here", "_law_tops_here", "_law_rules_here", "_law_one", "_law_plan_here", "_law_rows_here", "_law_spot", "_law_row", "_law_at", "_law_last", "_law_many", "_law_odd_here"]
theorem sc__law_right : FnScope n__law_right ["_law_pot_here", "_law_tops_here", "_law_rules_here", "_law_one"] (defScope a__law_right) := ⟨rfl, rfl, rfl, by decide +kernel, rfl, by decide +kernel, by decide +kernel⟩
set_option maxHeartbeats 8000000 in
theorem ok__law_right {f fRw fT fOd fDu fTo fSt fOf : Addr} {fd fdRw fdT fdOd fdDu fdTo fdSt fdOf : FuncData}  {C f0 fE : Addr} {fd0 fdE : FuncData} (F : Fun K "_law_right" "_law_right" a__law_right f fd) (Rw : Kn P w K mg base 4 "_law_rows" ["_law_pot_here", "_law_tops_here", "_law_rules_here", "_law_one"] spRw fRw fdRw) (T : Kn P w K mg base 1 "_law_take" ["_law_pot_here", "_law_many"] spTake fT fdT) (Od : Kn P w K mg base 3 "_law_odd" ["_law_pot_here", "_law_tops_here", "_law_row"] spOdd21 fOd fdOd) (Du : Kn P w K mg base 4 "_law_due" ["_law_tops_here", "_law_rules_here", "_law_one", "_law_rows_here"] spDue fDu fdDu) (To : Kn P w K mg base 6 "_law_told" ["_law_plan_here", "_law_one", "_law_rows_here"] (spTold21 C) fTo fdTo) (St : Kn P w K mg base 2 "steps" ["standing", "way"] spStD fSt fdSt) (Of : Kn P w K mg base 2 "_law_of" ["_law_pot_here", "_law_some"] (spOf K) fOf fdOf) (TX : PlanTxt K mg C) (M : Mk K C f0) (GI : FnOk P w K mg base CX0 7 f0 fd0 ["self", "tops", "rules"] (spInit C)) (bI : Binds K fd0 ["self", "tops", "rules"] []) (GE : FnOk P w K mg base CX0 4 fE fdE ["self", "other"] (spEq (LikePlans C))) (hs : PySem.W.findIn K (.ref C) "__eq__" = some (some (.ref fE))) (hf : PySem.W.isFn K (.ref fE) = true) (bE : Binds K fdE ["self", "other"] []) (m_len : mg "len" = none) (m_repr : mg "repr" = none) (m_tuple : mg "tuple" = none) : FnG P w K mg base 10 f fd ["_law_pot_here", "_law_tops_here", "_law_rules_here", "_law_one"] spR21 := by
  refine fnG F sc__law_right (fun vs H Q E h => ?_) (fun cdv A outer s H vs Q E hG hr h => ?_)
  · obtain ⟨p, t, R, a, tops, st, rs, c, rfl, _⟩ := h
    rfl
  · obtain ⟨p, t, R, a, tops, st, rs, c, rfl, pp, hc, et, pl, l1, l12, hR, l40, rok, sa, q⟩ := h
    refine ⟨_, (pss_cons (ps_par (i := 4) (j := 5) (by rfl) sc__law_right.nd rfl rfl (by decide) rfl rfl (pa_cons (pe_make M GI (hr.mono (by omega)) (by rfl) TX.mgC bI .nil pass0 (pa_cons (pv 1) (pa_cons (pv 2) pa_nil))) (pa_cons (pe_kn Rw hr (by omega) (pa_cons (pv 0) (pa_cons (pv 1) (pa_cons (pv 2) (pa_cons (pv 3) pa_nil))))) pa_nil)) (by rfl))
      (C8.pss_cut (ps_if (pt_cmpR op_eq (pe_kn T hr (by omega) (pa_cons (pv 0) (pa_cons pe_int pa_nil))) pe_int (nomark _)) (pss_cons (ps_set (i := 6) sc__law_right.nd rfl (.inl rfl) (pe_kn T hr (by omega) (pa_cons (pv 0) (pa_cons (pe_op op_add (pe_callB call_len_seq (by rfl) m_len (by decide +kernel) (pa_cons (pv 5) pa_nil)) pe_int) pa_nil))))
      (pss_cons (ps_set (i := 7) sc__law_right.nd rfl (.inl rfl) (pe_ifExp (pt_cmpR op_lt (pv 6) (pe_callB call_len_seq (by rfl) m_len (by decide +kernel) (pa_cons (pv 5) pa_nil)) (nomark _)) (pe_ix ix_list (pv 5) (pv 6) (fun _ _ => rfl)) (pe_tup (pa_cons (pe_kn T hr (by omega) (pa_cons (pv 0) (pa_cons (pe_callB call_len_seq (by rfl) m_len (by decide +kernel) (pa_cons (pv 1) pa_nil)) pa_nil))) (pa_cons pe_int pa_nil)))))
      (pss_one (ps_set (i := 5) sc__law_right.nd rfl (.inl rfl) (pe_op op_catN (pe_op op_catN (pe_slice sl_list (pv 5) po_none (po_some (pv 6))) (pe_lst (pa_cons (pe_kn Od hr (by omega) (pa_cons (pv 0) (pa_cons (pv 1) (pa_cons (pv 7) pa_nil)))) pa_nil))) (pe_slice sl_list (pv 5) (po_some (pe_op op_add (pv 6) pe_int)) po_none)))))) pss_nil)
      (pss_cons (ps_asg (pe_kn Du hr (by omega) (pa_cons (pv 1) (pa_cons (pv 2) (pa_cons (pv 3) (pa_cons (pv 5) pa_nil))))) (pg_tup rfl (pgs_cons (pg_name (i := 8) sc__law_right.nd rfl (.inl rfl)) (pgs_cons (pg_name (i := 9) sc__law_right.nd rfl (.inl rfl)) (pgs_cons (pg_name (i := 10) sc__law_right.nd rfl (.inl rfl)) pgs_nil)))))
      (pss_cons (ps_if (pt_cmpR op_ne (pe_callB (call_reprA hG hr.units) (by rfl) m_repr (by decide +kernel) (pa_cons (pe_kn To hr (by omega) (pa_cons (pv 4) (pa_cons (pv 3) (pa_cons (pe_callTy call_tuple_of (by rfl) m_tuple (by decide +kernel) (pa_cons (pv 5) pa_nil)) pa_nil)))) pa_nil)) (pe_callB (call_reprA hG hr.units) (by rfl) m_repr (by decide +kernel) (pa_cons (pe_tup (pa_cons (pv 8) (pa_cons (pv 9) pa_nil))) pa_nil)) (nomark _)) (pss_one (ps_ret pe_bl)) pss_nil)
      (C8.pss_cut (ps_if (PW.pt (pw_and (pt_cmpR op_isN (pv 8) pe_non (nomark _)) (pw_and1 (pt_cmpR op_ne (pe_callB (call_reprA hG hr.units) (by rfl) m_repr (by decide +kernel) (pa_cons (pe_kn St hr (by omega) (pa_cons (pv 3) (pa_cons (pe_callTy call_tuple_of (by rfl) m_tuple (by decide +kernel) (pa_cons (pv 5) pa_nil)) pa_nil))) pa_nil)) (pe_callB (call_reprA hG hr.units) (by rfl) m_repr (by decide +kernel) (pa_cons (pv 10) pa_nil)) (nomark _))))) (pss_one (ps_ret pe_bl)) pss_nil)
      (pss_cons (ps_set (i := 11) sc__law_right.nd rfl (.inl rfl) (pe_kn Of hr (by omega) (pa_cons (pv 0) (pa_cons (pe_lst (pa_cons (pv 5) (pa_cons pe_non (pa_cons pe_int (pa_cons pe_str (pa_cons pe_dnewK (pa_cons (pe_lstN pa_nil) (pa_cons pe_bl pa_nil)))))))) pa_nil))))
      (pss_one (ps_ret (pe_and (pe_cmpR op_eq (pe_callB (call_reprA hG hr.units) (by rfl) m_repr (by decide +kernel) (pa_cons (pe_kn To hr (by omega) (pa_cons (pv 4) (pa_cons (pv 3) (pa_cons (pv 11) pa_nil)))) pa_nil)) (pe_callB (call_reprA hG hr.units) (by rfl) m_repr (by decide +kernel) (pa_cons (pe_tup (pa_cons pe_int (pa_cons pe_non pa_nil))) pa_nil)) (nomark _)) (pe_one (pe_cmpR (op_eqG (rcG_ins GE hs hf bE pass0) (hr.mono (by omega))) (pv 4) (pe_make M GI (hr.mono (by omega)) (by rfl) TX.mgC bI .nil pass0 (pa_cons (pv 1) (pa_cons (pv 2) pa_nil))) (nomark _)))))))))))), ?_⟩
    have w2 : (2 : Nat) ≤ sizeLine := by decide
    have ea := sa.at'
    have lst := sa.len
    have ls := lst
    have bd : ∀ i, i < tops.length → 0 ≤ plc st i ∧ plc st i ≤ plc tops i := fun i hi => by
      have hi' : i < st.length := by omega
      refine ⟨?_, sa.le i _ _ (by rw [plc_get hi']; exact List.getElem?_eq_getElem hi') (by rw [plc_get hi]; exact List.getElem?_eq_getElem hi)⟩
      rw [plc_get hi']
      exact (sa.pl _ (List.getElem_mem hi')).1
    have big : ∀ i, i < tops.length → plc tops i < 10 ^ 30 := fun i hi => by
      rw [plc_get hi]
      exact (pl _ (List.getElem_mem hi)).2
    refine ⟨.ref t, rfl, .ref R, rfl, fun x dx nx ndx ne => ?_⟩
    refine plan_made (C := C) (rs := rs) nx ndx ne et hR l1 l12 pl l40 rok fun H1 s1 hp => ⟨rfl, ?_⟩
    refine ⟨_, rfl, _, rfl, _, rfl, _, rfl, p, t, R, a, tops, st, rs, c, rfl, pp.keep s1, by omega, s1 _ _ et, pl, l1, l12, hR.keep (.same s1), l40, rok, s1 _ _ ea, lst, fun H2 l xs ds b2 p2 el nlp nls hds okd lds => ⟨_, _, rfl, ?_⟩⟩
    have b02 : But p H H2 := (But.of s1).trans b2
    have hp2 := hp.keep (Keep.but b2 (pp.keep s1))
    refine ⟨fun σ H' => ∃ (l : Addr) (xs : List V) (ds : List PyData), (∃ u6 u7, σ = [some (.ref p), some (.ref t), some (.ref R), some (.ref a), some (.ref x), some (.ref l), u6, u7, none, none, none, none]) ∧ But p H2 H' ∧ PotAt H' p (c + 54) ∧ H' l = some (.lst xs) ∧ l ≠ p ∧ l ≠ sysModules ∧ DbAll (only p) H' xs ds ∧ ds.length ≤ 20, ?_, fun σ H3 y => ?_⟩
    · refine ⟨.ref p, rfl, p, 2, _, rfl, p2, by decide, by decide, by omega, fun d H3 b3 p3 _ _ => ⟨rfl, _, rfl, ite2 (fun _ => ?_) (fun _ => ?_)⟩⟩
      rotate_left
      · exact ⟨l, xs, ds, ⟨_, _, rfl⟩, b3, p3.mono (by omega), b3 _ _ nlp el, nlp, nls, DbAll.keepD (but_keep (E := only p) rfl p2 b3) ds xs hds, by omega⟩
      have el3 := b3 _ _ nlp el
      have lxs := hds.len
      refine ⟨.ref p, rfl, .ref l, rfl, l, _, rfl, .inl (.inl (.inl el3)), _, _, rfl, rfl, p, _, _, rfl, p3, by omega, by omega, by omega, fun sd H4 b4 p4 sd0 sd1 => ?_⟩
      obtain ⟨sp, rfl⟩ : ∃ sp : Nat, sd = (sp : Int) := ⟨sd.toNat, by omega⟩
      have b24 := b3.trans b4
      have el4 := b4 _ _ nlp el3
      have et4 := (Keep.but b02 pp).trans (Keep.but b24 p2) |>.tup et
      have ds4 : DbAll (only p) H4 xs ds := DbAll.keepD (but_keep (E := only p) rfl p2 b24) ds xs hds
      refine ⟨_, rfl, .ref l, rfl, l, _, rfl, .inl (.inl (.inl el4)), _, _, rfl, rfl, _, rfl, join2c (fun v J => ∃ (r : Addr) (i : Nat) (e : Int), v = .ref r ∧ But p H4 J ∧ PotAt J p (c + 53) ∧ J r = some (.tup [.int (i : Int), .int e]) ∧ i < tops.length) (fun cc Q' hq => ?_) (fun cc Q' hq => ?_) (fun v J y => ?_)⟩
      · have lt : sp < xs.length := by
          have := of_decide_eq_true cc
          omega
        have gx : xs[sp]? = some xs[sp] := List.getElem?_eq_getElem lt
        obtain ⟨d0, ed, hd0⟩ := (DbAll.daD (E := only p) (n := p) rfl _ _ ds4).get sp _ gx
        obtain ⟨i, e, rfl, li, _, _⟩ := okd _ (List.mem_of_getElem? ed)
        generalize xs[sp] = v at gx hd0 ⊢
        cases hd0 with
        | tup er hr =>
        rename_i r vs
        cases hr with
        | cons h0 hr =>
        cases h0
        cases hr with
        | cons h1 hr =>
        cases h1
        cases hr
        exact ⟨.ref l, rfl, _, rfl, l, _, _, _, rfl, rfl, .inl (.inl el4), atI_nat gx, hq _ _ ⟨r, i, e, rfl, fun _ _ _ e => e, p4.mono (by omega), er, li⟩⟩
      · refine ⟨.ref p, rfl, .ref t, rfl, t, _, rfl, .inr (.inl (.inl et4)), p, _, _, rfl, p4, by rw [List.length_map]; omega, by rw [List.length_map]; omega, by omega, fun d J1 c1 r1 d0 d1 => ⟨w2, fun T nT => ?_⟩⟩
        rw [List.length_map] at d1
        obtain ⟨i, rfl⟩ : ∃ i : Nat, d = (i : Int) := ⟨d.toNat, by omega⟩
        have sT := same_new (o := HO.tup [V.int (i : Int), V.int 0]) nT
        exact hq _ _ ⟨T, i, 0, rfl, c1.trans (But.of sT), (r1.keep sT).mono (by omega), upd_same, by omega⟩
      obtain ⟨r, i, e, rfl, c4, p5, er, li⟩ := y
      have el5 := c4 _ _ nlp el4
      have ds5 : DbAll (only p) J xs ds := DbAll.keepD (but_keep (E := only p) rfl p4 c4) ds xs ds4
      have et5 := (Keep.but c4 p4).tup et4
      have w1 : (1 : Nat) ≤ sizeLine := by decide
      refine ⟨.ref l, rfl, ?_⟩
      show tNoPart _ _ _
      unfold tNoPart
      refine ⟨_, rfl, _, rfl, l, _, rfl, .inl (.inl el5), fun g1 ng1 => ?_⟩
      obtain ⟨es1, D1, le1⟩ := ds5.cutD none (some (sp : Int))
      have t1 := same_new (o := HO.lst (cutV xs none (some (sp : Int)))) ng1
      have eg1 : (upd J g1 (.lst (cutV xs none (some (sp : Int))))) g1 = some (.lst (cutV xs none (some (sp : Int)))) := upd_same
      have p6 := p5.keep t1
      have ng1p := p5.ne ng1
      have D1' := D1.same t1
      have D5' := ds5.same t1
      have c5 : But p H4 (upd J g1 (.lst (cutV xs none (some (sp : Int))))) := c4.trans (But.of t1)
      have el6 := t1 _ _ el5
      have et6 := t1 _ _ et5
      have er6 := t1 _ _ er
      have lc1 := cutV_length xs none (some (sp : Int))
      generalize cutV xs none (some (sp : Int)) = cs1 at t1 eg1 p6 D1' D5' c5 el6 et6 er6 lc1 ⊢
      generalize upd J g1 (.lst cs1) = J1 at t1 eg1 p6 D1' D5' c5 el6 et6 er6 ⊢
      refine ⟨.ref p, rfl, .ref t, rfl, .ref r, rfl, p, t, r, tops, i, e, _, rfl, p6, by omega, et6, li, l12, er6, fun J2 v d c6 p7 D => ⟨w1, fun g2 ng2 => ?_⟩⟩
      have t2 := same_new (o := HO.lst [v]) ng2
      have kD : ∀ {vs : List V} {es : List PyData}, DbAll (only p) J1 vs es → DbAll (only p) J2 vs es := fun {vs es} h => DbAll.keepD (but_keep (E := only p) rfl p6 c6) es vs h
      have eg12 := t2 _ _ (c6 _ _ ng1p eg1)
      have eg2 : (upd J2 g2 (.lst [v])) g2 = some (.lst [v]) := upd_same
      have D12 := ((kD D1').same t2).app (DbAll.cons (D.same t2) .nil)
      have D52 := (kD D5').same t2
      have el7 := t2 _ _ (c6 _ _ nlp el6)
      have p8 := p7.keep t2
      have c7 := (c5.trans c6).trans (But.of t2)
      generalize upd J2 g2 (.lst [v]) = J3 at t2 eg12 eg2 D12 D52 el7 p8 c7 ⊢
      refine ⟨g1, g2, _, _, rfl, rfl, eg12, eg2, Nat.le_of_lt (small1000 (by simp only [List.length_cons, List.length_nil]; omega)), fun g3 ng3 _ => ?_⟩
      have t3 := same_new (o := HO.lst (cs1 ++ [v])) ng3
      have eg3 : (upd J3 g3 (.lst (cs1 ++ [v]))) g3 = some (.lst (cs1 ++ [v])) := upd_same
      have D13 := D12.same t3
      have D53 := D52.same t3
      have el8 := t3 _ _ el7
      have p9 := p8.keep t3
      have c8 := c7.trans (But.of t3)
      generalize upd J3 g3 (.lst (cs1 ++ [v])) = J4 at t3 eg3 D13 D53 el8 p9 c8 ⊢
      refine ⟨.ref l, rfl, _, rfl, _, _, rfl, rfl, _, rfl, l, _, rfl, .inl (.inl el8), fun g4 ng4 => ?_⟩
      obtain ⟨es2, D2, le2⟩ := D53.cutD (some ((sp : Int) + 1)) none
      have t4 := same_new (o := HO.lst (cutV xs (some ((sp : Int) + 1)) none)) ng4
      have lc2 := cutV_length xs (some ((sp : Int) + 1)) none
      have D14 := (D13.same t4).app (D2.same t4)
      have eg34 := t4 _ _ eg3
      have p10 := p9.keep t4
      have c9 := c8.trans (But.of t4)
      refine ⟨g3, g4, _, _, rfl, rfl, eg34, upd_same, Nat.le_of_lt (small1000 (by rw [List.length_append]; simp only [List.length_cons, List.length_nil]; omega)), fun g5 ng5 ns5 => ?_⟩
      have t5 := same_new (o := HO.lst ((cs1 ++ [v]) ++ cutV xs (some ((sp : Int) + 1)) none)) ng5
      refine ⟨g5, _, _, ⟨_, _, rfl⟩, (b24.trans c9).trans (But.of t5), (p10.keep t5).mono (by omega), upd_same, p10.ne ng5, ns5, D14.same t5, ?_⟩
      rw [List.length_append, List.length_append]
      simp only [List.length_cons, List.length_nil]
      omega
    · clear el hds okd lds nlp nls
      obtain ⟨l, xs, ds, ⟨u6, u7, rfl⟩, b3, p3, el, nlp, nls, hds, lds⟩ := y
      have k23 := Keep.but b3 p2
      have k03 := (Keep.but b02 pp).trans k23
      have b03 := b02.trans b3
      have et3 := k03.tup et
      have hR3 := hR.keep k03
      have ea3 := k03.tup ea
      have hp3 := hp2.keep k23
      have da3 : DaAll p H3 xs ds := DbAll.daD (E := only p) rfl _ _ hds
      have lxs := hds.len
      refine ⟨.ref t, rfl, .ref R, rfl, .ref a, rfl, .ref l, rfl, p, t, R, a, l, tops, st, rs, xs, ds, rfl, et3, hR3, ea3, lst, l12, bd, l40, rok, el, da3, fun H4 g s4 due => ?_⟩
      obtain ⟨va, vl, vm, eg, dda, hinr, hinl⟩ := due_at due
      refine ⟨g, _, rfl, .inl (.inl eg), rfl, _, _, rfl, _, _, rfl, _, _, rfl, rfl, ?_⟩
      have SM := sm_td (rs := rs) big l12 (d := .tuple ds) lst bd (fun ds' z => by cases z; omega)
      have tp : ∀ (H' : Hp) (T : Addr), Same H3 H' → H' T = none → Da p (upd H' T (.tup xs)) (.ref T) (.tuple ds) := fun H' T s n => .tup upd_same (da3.same (s.trans (same_new n)))
      refine ⟨.ref x, rfl, .ref a, rfl, .ref l, rfl, l, _, rfl, .inl ⟨.inl (.inl (s4 _ _ el)), fun T nT => ?_⟩⟩
      have sT := s4.trans (same_new (o := HO.tup xs) nT)
      refine ⟨p, x, a, tops, st, rs, .ref T, .tuple ds, rfl, hp3.keep (.same sT), sT _ _ ea3, lst, l12, l40, rok, tp _ T s4 nT, fun H5 r s5 told => ?_⟩
      have s35 := sT.trans s5
      refine ⟨p, _, _, 20000, 3, rfl, told_da told, SM, by decide, by decide, _, rfl, _, rfl, w2, fun T2 nT2 => ?_⟩
      have s45 := ((same_new (o := HO.tup xs) nT).trans s5).trans (same_new (o := HO.tup [va, vl]) nT2)
      refine ⟨p, _, _, 20000, 3, rfl, dda p _ s45 T2 upd_same, SM, by decide, by decide, rfl, _, rfl, not_diff rfl ?_⟩
      have s36 := s4.trans s45
      generalize upd H5 T2 (.tup [va, vl]) = H6 at s36 ⊢
      refine ⟨fun σ H' => Same H6 H' ∧ ∃ u6 u7 u8 u9 u10, σ = [some (.ref p), some (.ref t), some (.ref R), some (.ref a), some (.ref x), some (.ref l), u6, u7, u8, u9, u10, none], ?_, fun σ H7 y => ?_⟩
      · refine ⟨_, rfl, rfl, _, rfl, ?_⟩
        cases hw : wkL tops rs ds 0 st with
        | inl j =>
          have ev := hinl j hw
          subst ev
          exact iteF ⟨Same.refl _, _, _, _, _, _, rfl⟩
        | inr m =>
          obtain ⟨rfl, rfl⟩ := hinr m hw
          have bb := stA_bnd (acc := 0) big lst bd hw
          have S1 : Sm (.int (stA 0 st ds)) 20000 3 := (Sm.int (i := stA 0 st ds) (by
            have b1 : (10 : Nat) ^ 30 * 21 < 10 ^ 90 := by decide
            have b2 : ((10 : Int) ^ 30) = ((10 ^ 30 : Nat) : Int) := by decide
            omega)).mono (by decide) (by decide)
          refine iteT ⟨.ref a, rfl, .ref l, rfl, l, _, rfl, .inl ⟨.inl (.inl (s36 _ _ el)), fun T nT => ?_⟩⟩
          have sT6 := same_new (o := HO.tup xs) nT
          have s3T := s36.trans sT6
          refine ⟨p, a, T, tops, st, m, rs, xs, ds, rfl, s3T _ _ ea3, lst, l12, upd_same, da3.same s3T, hw, fun H7 s7 => ?_⟩
          refine ⟨p, _, _, 20000, 3, rfl, .int _, S1, by decide, by decide, _, rfl, p, _, _, 20000, 3, rfl, .int _, S1, by decide, by decide, rfl, _, rfl, not_diff rfl ?_⟩
          exact ⟨sT6.trans s7, _, _, _, _, _, rfl⟩
      · obtain ⟨s67, u6, u7, u8, u9, u10, rfl⟩ := y
        have s37 := s36.trans s67
        have p7 := p3.keep s37
        have el7 := s37 _ _ el
        have b07 := b03.trans (But.of s37)
        refine ⟨.ref p, rfl, _, rfl, ?_⟩
        refine fun dd nd => ?_
        obtain ⟨t1, D1⟩ := newb_dct (E := only p) nd
        have q1 := p7.keep t1
        have el8 := t1 _ _ el7
        generalize upd H7 dd (.dK []) = K1 at t1 D1 q1 el8 ⊢
        refine ⟨Nat.zero_le _, fun e ne me => ?_⟩
        obtain ⟨t2, D2⟩ := newb_lst (E := only p) ne me (there_one q1) .nil
        have q2 := q1.keep t2
        have el9 := t2 _ _ el8
        have D12 := D1.same t2
        have t12 := t1.trans t2
        generalize upd K1 e (.lst []) = K2 at t2 D2 q2 el9 D12 t12 ⊢
        refine ⟨(show 7 ≤ sizeLine by decide), fun L nL => ?_⟩
        have t3 := same_new (o := HO.lst [V.ref l, V.non, V.int 0, V.str "0:1", V.ref dd, V.ref e, V.bl true]) nL
        have q3 := q2.keep t3
        have t13 := t12.trans t3
        have DL : Db (only p) (upd K2 L (.lst [V.ref l, V.non, V.int 0, V.str "0:1", V.ref dd, V.ref e, V.bl true])) (.ref l) (.list ds) := .lst (t3 _ _ el9) nls (fun z => nlp z) (hds.same (s37.trans t13))
        have D13 := D12.same t3
        have D23 := D2.same t3
        refine ⟨p, L, _, _, rfl, q3, q2.ne nL, .inl (.inl (.inl upd_same)), (show 1 ≤ 7 by decide), (show 7 ≤ 1000000 by decide), by omega, fun v J mv bJ pJ => ?_⟩
        obtain ⟨d, D, nt⟩ : ∃ d, Db (only p) (upd K2 L (.lst [V.ref l, V.non, V.int 0, V.str "0:1", V.ref dd, V.ref e, V.bl true])) v d ∧ isTupD d = false := by
          simp only [List.mem_cons, List.not_mem_nil, or_false] at mv
          rcases mv with rfl | rfl | rfl | rfl | rfl | rfl | rfl
          · exact ⟨_, DL, rfl⟩
          · exact ⟨_, .non, rfl⟩
          · exact ⟨_, .int 0, rfl⟩
          · exact ⟨_, .str "0:1", rfl⟩
          · exact ⟨_, D13, rfl⟩
          · exact ⟨_, D23, rfl⟩
          · exact ⟨_, .bl true, rfl⟩
        have DJ : Da p J v d := (Db.keepD (but_keep (E := only p) rfl q3 bJ) d v D).da rfl
        have kJ := (Keep.same (s37.trans t13)).trans (Keep.but bJ q3)
        have wn : wkD tops rs st d = .inl 0 := wk_no nt
        have SM0 := sm_td (rs := rs) big l12 (d := d) lst bd (fun ds' z => by rw [z] at nt; cases nt)
        rw [wn] at SM0
        have bAll : But p H J := b07.trans ((But.of t13).trans bJ)
        refine ⟨_, rfl, _, rfl, _, rfl, p, x, a, tops, st, rs, v, d, rfl, hp3.keep kJ, kJ.tup ea3, lst, l12, l40, rok, DJ, fun J2 r s8 told => ?_⟩
        rw [wn] at told
        refine ⟨p, _, _, 20000, 3, rfl, told_da told, SM0, by decide, by decide, w2, fun T nT => ?_⟩
        have s9 := s8.trans (same_new (o := HO.tup [V.int 0, V.non]) nT)
        refine ⟨p, _, TD (.inl 0), 20000, 3, rfl, .tup upd_same (.cons (.int _) (.cons .non .nil)), SM0, by decide, by decide, rfl, _, rfl, iteTrue (decide_eq_true rfl) ?_⟩
        refine ⟨.ref x, rfl, .ref t, rfl, .ref R, rfl, fun y dy ny ndy ney => ?_⟩
        have k9 := kJ.trans (.same s9)
        refine plan_made (C := C) (rs := rs) ny ndy ney (k9.tup et3) (hR3.keep k9) l1 l12 pl l40 rok fun J3 s10 hp4 => ⟨rfl, ?_⟩
        have hpx := hp3.keep (k9.trans (.same s10))
        obtain ⟨dx1, t1', R1, ex1, _⟩ := id hpx
        obtain ⟨dy1, t2', R2, ey1, _⟩ := id hp4
        exact ⟨⟨x, y, dx1, dy1, _, _, rfl, rfl, ex1, ey1, tops, rs, hpx, hp4⟩, fun J4 e4 => q J4 (bAll.trans (But.of ((s9.trans s10).trans e4))) ((pJ.keep ((s9.trans s10).trans e4)).mono (by omega))⟩
def spLaw (K : PySem.W.Frag) : Sp := fun vs H Q _ => ∃ (a : Addr) (ns : List Int), vs = [.ref a] ∧ SqL K H a (ns.map V.int) ∧ ns.length ≤ 63 ∧ ∀ H', Q (.bl true) H'
abbrev a_law : Stmt := topS 56
abbrev n_law : List Str := ["_law_script", "_law_k", "_law_pot_here", "_law_turn", "_law_drawn"]
theorem sc_law : FnScope n_law ["_law_script"] (defScope a_law) := ⟨rfl, rfl, rfl, by decide +kernel, rfl, by decide +kernel, by decide +kernel⟩
set_option maxHeartbeats 8000000 in
theorem ok_law {f fPo fT fSm' fGr fRi : Addr} {fd fdPo fdT fdSm' fdGr fdRi : FuncData}   (F : Fun K "law" "law" a_law f fd) (Po : Kn P w K mg base 1 "_law_pot" ["_law_script", "_law_k"] (spPot K) fPo fdPo) (T : Kn P w K mg base 1 "_law_take" ["_law_pot_here", "_law_many"] spTake fT fdT) (Sm' : Kn P w K mg base 5 "_law_small" ["_law_pot_here"] spSmall fSm' fdSm') (Gr : Kn P w K mg base 5 "_law_great" ["_law_pot_here"] spGreat fGr fdGr) (Ri : FnG P w K mg base 10 fRi fdRi ["_law_pot_here", "_law_tops_here", "_law_rules_here", "_law_one"] spR21) (gRi : mg "_law_right" = some (.ref fRi)) (kRi : PySem.W.keepIn K (.ref fRi) = true) (bRi : Binds K fdRi ["_law_pot_here", "_law_tops_here", "_law_rules_here", "_law_one"] [])  (m_len : mg "len" = none) (m_min : mg "min" = none) (m_range : mg "range" = none) : FnG P w K mg base 11 f fd ["_law_script"] (spLaw K) := by
  refine fnG F sc_law (fun vs H Q E h => ?_) (fun cdv A outer s H vs Q E hG hr h => ?_)
  · obtain ⟨a, ns, rfl, _⟩ := h
    rfl
  · obtain ⟨a, ns, rfl, hS, hn, q⟩ := h
    refine ⟨_, (pss_cons (ps_for PassesOwn.never rfl (pi_range1 (by rfl) m_range (pa_cons (pe_op op_add pe_int (pe_callB (call_min2 rfl) (by rfl) m_min (by decide +kernel) (pa_cons pe_int (pa_cons (pe_callB call_len_seq (by rfl) m_len (by decide +kernel) (pa_cons (pv 0) pa_nil)) pa_nil)))) pa_nil)) (pg_name (i := 1) sc_law.nd rfl (.inl rfl))
        (pss_cons (ps_set (i := 2) sc_law.nd rfl (.inl rfl) (pe_kn Po hr (by omega) (pa_cons (pv 0) (pa_cons (pv 1) pa_nil))))
      (pss_one (ps_for PassesOwn.never rfl (pi_range1 (by rfl) m_range (pa_cons pe_int pa_nil)) (pg_name (i := 3) sc_law.nd rfl (.inl rfl))
        (pss_cons (ps_set (i := 4) sc_law.nd rfl (.inl rfl) (pe_ifExp (pt_cmpR op_gt (pe_kn T hr (by omega) (pa_cons (pv 2) (pa_cons pe_int pa_nil))) pe_int (nomark _)) (pe_kn Sm' hr (by omega) (pa_cons (pv 2) pa_nil)) (pe_kn Gr hr (by omega) (pa_cons (pv 2) pa_nil))))
      (pss_one (ps_if (pt_not (pt_val (pe_callG hG Ri (hr.mono (by omega)) (by rfl) gRi kRi bRi (pa_cons (pv 2) (pa_cons (pe_ix ix_tup (pv 4) pe_int (fun _ _ => rfl)) (pa_cons (pe_ix ix_tup (pv 4) pe_int (fun _ _ => rfl)) (pa_cons (pe_ix ix_tup (pv 4) pe_int (fun _ _ => rfl)) pa_nil))))))) (pss_one (ps_ret pe_bl)) pss_nil)))))))
      (pss_one (ps_ret pe_bl))), ?_⟩
    refine ⟨.ref a, rfl, a, _, rfl, .inl hS, 4, _, rfl, 1, _, rfl, rfl, _, rfl, ?_, ?_, for_it walk_range (fun i σ H' => (∃ u1 u2 u3 u4, σ = [some (.ref a), u1, u2, u3, u4]) ∧ Same H H') ⟨⟨_, _, _, _, rfl⟩, Same.refl H⟩ (fun _ _ _ _ _ => trivial) (fun i v σ H0' H0 hi y z => ?_) (fun σ H0 y => ?_)⟩
    · split <;> omega
    · split <;> omega
    · obtain ⟨⟨u1, u2, u3, u4, rfl⟩, s0⟩ := y
      obtain ⟨rfl, rfl⟩ := z
      have i5 : i < 5 := by
        revert hi
        split <;> intro hi <;> omega
      refine ⟨.ref a, rfl, _, rfl, a, ns, i, by show [V.ref a, V.int (0 + (i : Int))] = _; rw [Int.zero_add], s0.seq hS, by omega, fun H2 p t2 n2 q2 => ?_⟩
      refine ⟨2, rfl, by decide, by decide, for_it walk_range (fun k σ H' => (∃ u3 u4, σ = [some (.ref a), some (.int (0 + (i : Int))), some (.ref p), u3, u4]) ∧ But p H2 H' ∧ PotAt H' p (0 + 3100 * k)) ⟨⟨_, _, rfl⟩, fun _ _ _ e => e, q2.mono (by omega)⟩ (fun _ _ _ _ _ => trivial) (fun k v σ Jx J hk y z => ?_) (fun σ J y => ?_)⟩
      · obtain ⟨⟨u3, u4, rfl⟩, bJ, pJ⟩ := y
        obtain ⟨rfl, rfl⟩ := z
        have k2 : k < 2 := hk
        refine ⟨.ref p, rfl, p, 3, _, rfl, pJ, by decide, by decide, by omega, fun d J1 b1 p1 _ _ => ⟨_, _, rfl, rfl, _, rfl, join2 (fun v J => ∃ (g t R o1 : Addr) (o2 : V) (tops st1 : List Int) (rs : List Rl), v = .ref g ∧ But p J1 J ∧ PotAt J p (0 + 3100 * k + 1 + 3000) ∧ J g = some (.tup [.ref t, .ref R, .ref o1, o2]) ∧ J t = some (.tup (tops.map V.int)) ∧ 1 ≤ tops.length ∧ tops.length ≤ 12 ∧ Pl tops ∧ RulesAt J R rs ∧ rs.length ≤ 40 ∧ (∀ q ∈ rs, RuleOk tops q) ∧ Std tops J o1 st1) (fun Q' hq => ?_) (fun Q' hq => ?_) (fun v J2 y => ?_)⟩⟩
        · exact ⟨.ref p, rfl, p, _, rfl, p1, by omega, fun H3 g t R o1 o2 tops st1 st2 rs b3 p3 eg et l1 l4 fw hR lR S1 S2 rk => hq _ _ ⟨g, t, R, o1, .ref o2, tops, st1, rs, rfl, b3, p3, eg, et, l1, by omega, fw.pl, hR, by omega, fun q hq => (rk q hq).1, S1⟩⟩
        · exact ⟨.ref p, rfl, p, _, rfl, p1, by omega, fun H3 g t R o1 o2 tops st1 st2 rs b3 p3 eg et l1 l12 pl hR lR S1 S2 rk => hq _ _ ⟨g, t, R, o1, .ref o2, tops, st1, rs, rfl, b3, p3, eg, et, l1, l12, pl, hR, by omega, fun q hq => (rk q hq).1, S1⟩⟩
        obtain ⟨g, t, R, o1, o2, tops, st1, rs, rfl, b3, p3, eg, et, l1, l12, pl, hR, lR, rk, S1⟩ := y
        refine ⟨.ref p, rfl, .ref g, rfl, g, _, 0, _, rfl, rfl, .inl (.inl eg), atI_nat (j := 0) rfl, .ref g, rfl, g, _, 1, _, rfl, rfl, .inl (.inl eg), atI_nat (j := 1) rfl, .ref g, rfl, g, _, 2, _, rfl, rfl, .inl (.inl eg), atI_nat (j := 2) rfl, p, t, R, o1, tops, st1, rs, _, rfl, p3, by omega, et, pl, l1, l12, hR, lR, rk, S1, fun J3 b4 p4 => ⟨_, rfl, iteF ⟨⟨_, _, rfl⟩, ((bJ.trans b1).trans b3).trans b4, p4.mono (by omega)⟩⟩⟩
      · obtain ⟨⟨u3, u4, rfl⟩, bJ, pJ⟩ := y
        exact ⟨⟨_, _, _, _, rfl⟩, s0.trans fun b o e => bJ _ _ (ne_of_none e n2) (t2 _ _ e)⟩
    · exact q H0
end
end K21

set_option Elab.async false
set_option linter.all false
set_option maxRecDepth 100000
namespace K21
open PySem PySem.Spec PyProof.Rows L2 NB

abbrev kI_NoWay : Stmt := inClass (topS 4) 0
theorem sc_NoWay : FnScope ["self", "at"] ["self", "at"] (defScope kI_NoWay) := ⟨rfl, rfl, rfl, by decide +kernel, rfl, by decide +kernel, by decide +kernel⟩
theorem ok_NoWay {P : Program} {w : World} {K : PySem.W.Frag} {mg : Str → Option Value} {base : Heap} {f C : Addr} {fd : FuncData} (F : Fun K "__init__" "NoWay.__init__" kI_NoWay f fd) (O : OexC K C) (n : PySem.W.findIn K (.ref C) "at" = some none) : FnOk P w K mg base CX0 1 f fd ["self", "at"] (spXI C "at") := by
  refine F.ok sc_NoWay (fun vs H Q E h => ?_) (fun cdv A outer s H vs Q E hr h => ?_)
  · obtain ⟨a, v, rfl, _⟩ := h
    rfl
  · obtain ⟨a, v, rfl, ea, q⟩ := h
    exact ⟨_, pss_one (ps_ost (pv 0) (pv 1)), _, rfl, _, rfl, a, C, rfl, O, n, .inl ⟨ea, fun dx n ne => q dx n ne⟩⟩

/-! ### whole, of anything: the law -/
section
variable {P : Program} {w : World} {K : PySem.W.Frag} {mg : Str → Option Value} {base : Heap}
abbrev a__law_is_whole : Stmt := topS 48
abbrev n__law_is_whole : List Str := ["_law_thing"]
theorem sc__law_is_whole : FnScope n__law_is_whole ["_law_thing"] (defScope a__law_is_whole) := ⟨rfl, rfl, rfl, by decide +kernel, rfl, by decide +kernel, by decide +kernel⟩
set_option maxHeartbeats 8000000 in
theorem ok__law_is_whole {f  : Addr} {fd  : FuncData} {k : Nat}  (F : Fun K "_law_is_whole" "_law_is_whole" a__law_is_whole f fd)   (m_bool : mg "bool" = none) (m_int : mg "int" = none) (m_isinstance : mg "isinstance" = none) : FnOk P w K mg base CX0 (k + 1) f fd ["_law_thing"] (spLook wholeD) := by
  refine F.ok sc__law_is_whole (fun vs H Q E h => ?_) (fun cdv A outer s H vs Q E hr h => ?_)
  · obtain ⟨n, v, d, rfl, _⟩ := h
    rfl
  · obtain ⟨n, v, d, rfl, hd, q⟩ := h
    refine ⟨_, (pss_one (ps_ret (pe_and (pe_callB call_isiD (by rfl) m_isinstance (by decide +kernel) (pa_cons (pv 0) (pa_cons (pe_bltn (v := .ty "int") (u := .type "int") (by rfl) m_int (by decide +kernel) rfl) pa_nil))) (pe_one (pe_not (pe_callB call_isiD (by rfl) m_isinstance (by decide +kernel) (pa_cons (pv 0) (pa_cons (pe_bltn (v := .ty "bool") (u := .type "bool") (by rfl) m_bool (by decide +kernel) rfl) pa_nil)))))))), ?_⟩
    refine ⟨v, rfl, n, v, d, "int", _, rfl, hd, kit_int d, _, rfl, ?_⟩
    cases hd with
    | int i => exact iteT ⟨_, rfl, n, _, _, "bool", _, rfl, .int i, kit_bool _, _, rfl, q H (Same.refl H)⟩
    | bl b => exact iteT ⟨_, rfl, n, _, _, "bool", _, rfl, .bl b, kit_bool _, _, rfl, q H (Same.refl H)⟩
    | _ => exact iteF (q H (Same.refl H))
end
end K21

set_option Elab.async false
set_option linter.all false
set_option maxRecDepth 100000
namespace K21
open PySem PySem.Spec PyProof.Rows L2 NB
theorem kit_sub_ref {K : PySem.W.Frag} {t : Value} {C : Addr} (h1 : PySem.W.hasDictIn K C = true) (h2 : PySem.W.typeIn K (.ref C) = some (.type "type")) (h3 : PySem.W.subIn K t (.ref C) = some true) : PySem.W.kitOne K t (.ref C) = some true := by
  unfold PySem.W.kitOne
  split
  · rfl
  · obtain ⟨cd, hc, _⟩ := PySem.W.any_some h1
    show (if ((PySem.W.clsIn K C).isSome && PySem.W.typeIn K (.ref C) == some (.type "type")) = true then PySem.W.subIn K t (.ref C) else none) = _
    rw [hc, h2, if_pos (by first | (rw [Option.isSome_some, Bool.true_and]; exact beq_self_eq_true _) | simp), h3]
theorem exm_sub {K : PySem.W.Frag} {S B : Addr} (h1 : PySem.W.subIn K (.ref B) (.type "BaseException") = some true) (h2 : PySem.W.isClsIn K B = true) (h3 : PySem.W.typeIn K (.ref B) = some (.type "type")) (h4 : PySem.W.subIn K (.ref S) (.ref B) = some true) : PySem.W.exmOne K (.ref S) (.ref B) = some true := by
  have e1 : (PySem.W.subIn K (.ref B) (.type "BaseException") == some true) = true := by rw [h1] <;> rfl
  have e2 : ((PySem.W.clsIn K B).isSome && PySem.W.typeIn K (.ref B) == some (.type "type")) = true := by
    have h2' : (PySem.W.clsIn K B).isSome = true := h2
    rw [h2', h3] <;> rfl
  show (if (PySem.W.subIn K (.ref B) (.type "BaseException") == some true) = true then (if ((PySem.W.clsIn K B).isSome && PySem.W.typeIn K (.ref B) == some (.type "type")) = true then PySem.W.subIn K (.ref S) (.ref B) else none) else none) = some true
  rw [if_pos e1, if_pos e2]
  exact h4
theorem kit_not {K : PySem.W.Frag} {S C : Addr} (h0 : (S == C) = false) (h1 : PySem.W.hasDictIn K C = true) (h2 : PySem.W.typeIn K (.ref C) = some (.type "type")) (h3 : PySem.W.subIn K (.ref S) (.ref C) = some false) : PySem.W.kitOne K (.ref S) (.ref C) = some false := by
  have n : ¬ ((Value.ref S == Value.ref C) = true) := fun z => by
    have e : Value.ref S = Value.ref C := by first | exact beq_iff_eq.mp z | exact eq_of_beq z
    injection e with e
    subst e
    rw [beq_self_eq_true] at h0
    cases h0
  unfold PySem.W.kitOne
  rw [if_neg n]
  obtain ⟨cd, hc, _⟩ := PySem.W.any_some h1
  show (if ((PySem.W.clsIn K C).isSome && PySem.W.typeIn K (.ref C) == some (.type "type")) = true then PySem.W.subIn K (.ref S) (.ref C) else none) = _
  rw [hc, h2, if_pos (by first | (rw [Option.isSome_some, Bool.true_and]; exact beq_self_eq_true _) | simp), h3]
theorem kit_sub_ty {K : PySem.W.Frag} {t : Value} {T : String} (h1 : PySem.W.kitMeta T = true) (h3 : PySem.W.subIn K t (.type T) = some true) : PySem.W.kitOne K t (.type T) = some true := by
  unfold PySem.W.kitOne
  split
  · rfl
  · show (if PySem.W.kitMeta T = true then PySem.W.subIn K t (.type T) else none) = _
    rw [if_pos h1, h3]
set_option maxHeartbeats 8000000 in
theorem all_mk {l : PySem.W.OpenLaw} {w : World} {K : PySem.W.Frag} {h : Heap} {mg : Str → Option Value} {fa : Addr} (X : K.In h) (G : h.Ns mainGlobals mg) (hfa : mg "law" = some (.ref fa))
    {f1 : Addr} {od1 an1 : Option Addr} {sl1 : Array (Option Value)} {oc1 kV1 dc1 pm1 cd1 ct1 : Value}
    {f2 : Addr} {od2 an2 : Option Addr} {sl2 : Array (Option Value)} {oc2 kV2 dc2 pm2 cd2 ct2 : Value}
    {f3 : Addr} {od3 an3 : Option Addr} {sl3 : Array (Option Value)} {oc3 kV3 dc3 pm3 cd3 ct3 : Value}
    {f4 : Addr} {od4 an4 : Option Addr} {sl4 : Array (Option Value)} {oc4 kV4 dc4 pm4 cd4 ct4 : Value}
    {f5 : Addr} {od5 an5 : Option Addr} {sl5 : Array (Option Value)} {oc5 kV5 dc5 pm5 cd5 ct5 : Value}
    {f6 : Addr} {od6 an6 : Option Addr} {sl6 : Array (Option Value)} {oc6 kV6 dc6 pm6 cd6 ct6 : Value}
    {f7 : Addr} {od7 an7 : Option Addr} {sl7 : Array (Option Value)} {oc7 kV7 dc7 pm7 cd7 ct7 : Value}
    {f8 : Addr} {od8 an8 : Option Addr} {sl8 : Array (Option Value)} {oc8 kV8 dc8 pm8 cd8 ct8 : Value}
    {f9 : Addr} {od9 an9 : Option Addr} {sl9 : Array (Option Value)} {oc9 kV9 dc9 pm9 cd9 ct9 : Value}
    {f10 : Addr} {od10 an10 : Option Addr} {sl10 : Array (Option Value)} {oc10 kV10 dc10 pm10 cd10 ct10 : Value}
    {f11 : Addr} {od11 an11 : Option Addr} {sl11 : Array (Option Value)} {oc11 kV11 dc11 pm11 cd11 ct11 : Value}
    {f12 : Addr} {od12 an12 : Option Addr} {sl12 : Array (Option Value)} {oc12 kV12 dc12 pm12 cd12 ct12 : Value}
    {f13 : Addr} {od13 an13 : Option Addr} {sl13 : Array (Option Value)} {oc13 kV13 dc13 pm13 cd13 ct13 : Value}
    {f14 : Addr} {od14 an14 : Option Addr} {sl14 : Array (Option Value)} {oc14 kV14 dc14 pm14 cd14 ct14 : Value}
    {f15 : Addr} {od15 an15 : Option Addr} {sl15 : Array (Option Value)} {oc15 kV15 dc15 pm15 cd15 ct15 : Value}
    {f16 : Addr} {od16 an16 : Option Addr} {sl16 : Array (Option Value)} {oc16 kV16 dc16 pm16 cd16 ct16 : Value}
    {f17 : Addr} {od17 an17 : Option Addr} {sl17 : Array (Option Value)} {oc17 kV17 dc17 pm17 cd17 ct17 : Value}
    {f18 : Addr} {od18 an18 : Option Addr} {sl18 : Array (Option Value)} {oc18 kV18 dc18 pm18 cd18 ct18 : Value}
    {f19 : Addr} {od19 an19 : Option Addr} {sl19 : Array (Option Value)} {oc19 kV19 dc19 pm19 cd19 ct19 : Value}
    {f20 : Addr} {od20 an20 : Option Addr} {sl20 : Array (Option Value)} {oc20 kV20 dc20 pm20 cd20 ct20 : Value}
    {f21 : Addr} {od21 an21 : Option Addr} {sl21 : Array (Option Value)} {oc21 kV21 dc21 pm21 cd21 ct21 : Value}
    {f22 : Addr} {od22 an22 : Option Addr} {sl22 : Array (Option Value)} {oc22 kV22 dc22 pm22 cd22 ct22 : Value}
    {f23 : Addr} {od23 an23 : Option Addr} {sl23 : Array (Option Value)} {oc23 kV23 dc23 pm23 cd23 ct23 : Value}
    {f24 : Addr} {od24 an24 : Option Addr} {sl24 : Array (Option Value)} {oc24 kV24 dc24 pm24 cd24 ct24 : Value}
    {f25 : Addr} {od25 an25 : Option Addr} {sl25 : Array (Option Value)} {oc25 kV25 dc25 pm25 cd25 ct25 : Value}
    {f26 : Addr} {od26 an26 : Option Addr} {sl26 : Array (Option Value)} {oc26 kV26 dc26 pm26 cd26 ct26 : Value}
    {f27 : Addr} {od27 an27 : Option Addr} {sl27 : Array (Option Value)} {oc27 kV27 dc27 pm27 cd27 ct27 : Value}
    {f28 : Addr} {od28 an28 : Option Addr} {sl28 : Array (Option Value)} {oc28 kV28 dc28 pm28 cd28 ct28 : Value}
    {f29 : Addr} {od29 an29 : Option Addr} {sl29 : Array (Option Value)} {oc29 kV29 dc29 pm29 cd29 ct29 : Value}
    {f30 : Addr} {od30 an30 : Option Addr} {sl30 : Array (Option Value)} {oc30 kV30 dc30 pm30 cd30 ct30 : Value}
    {f31 : Addr} {od31 an31 : Option Addr} {sl31 : Array (Option Value)} {oc31 kV31 dc31 pm31 cd31 ct31 : Value}
    {f32 : Addr} {od32 an32 : Option Addr} {sl32 : Array (Option Value)} {oc32 kV32 dc32 pm32 cd32 ct32 : Value}
    {f33 : Addr} {od33 an33 : Option Addr} {sl33 : Array (Option Value)} {oc33 kV33 dc33 pm33 cd33 ct33 : Value}
    {f34 : Addr} {od34 an34 : Option Addr} {sl34 : Array (Option Value)} {oc34 kV34 dc34 pm34 cd34 ct34 : Value}
    {f35 : Addr} {od35 an35 : Option Addr} {sl35 : Array (Option Value)} {oc35 kV35 dc35 pm35 cd35 ct35 : Value}
    {f36 : Addr} {od36 an36 : Option Addr} {sl36 : Array (Option Value)} {oc36 kV36 dc36 pm36 cd36 ct36 : Value}
    {f37 : Addr} {od37 an37 : Option Addr} {sl37 : Array (Option Value)} {oc37 kV37 dc37 pm37 cd37 ct37 : Value}
    {C f0 Td e0 wa : Addr} {od0 an0 odT odW : Option Addr} {sl0 slT slW : Array (Option Value)} {oc0 kV0 dc0 pm0 cd0 ct0 ocT : Value} {nT nW : Nat} {tk1 tk2 tk3 tk4 tk5 : Tok}
    (a1 : PySem.W.nsIn K mainGlobals "is_whole" = some (some (.ref f1)))
    (l1 : K.lookup f1 = some ⟨oc1, od1, .func (PySem.W.fnOf "is_whole" "is_whole" (defArgs a_is_whole) (defBody a_is_whole) (defScope a_is_whole) .none kV1 dc1 pm1 an1 cd1 ct1), sl1⟩)
    (c1 : PySem.W.codeIn K cd1 "is_whole" = true) (k1 : PySem.W.keepIn K (.ref f1) = true)
    (a2 : PySem.W.nsIn K mainGlobals "is_place" = some (some (.ref f2)))
    (l2 : K.lookup f2 = some ⟨oc2, od2, .func (PySem.W.fnOf "is_place" "is_place" (defArgs a_is_place) (defBody a_is_place) (defScope a_is_place) .none kV2 dc2 pm2 an2 cd2 ct2), sl2⟩)
    (c2 : PySem.W.codeIn K cd2 "is_place" = true) (k2 : PySem.W.keepIn K (.ref f2) = true)
    (a3 : PySem.W.nsIn K mainGlobals "are_tops" = some (some (.ref f3)))
    (l3 : K.lookup f3 = some ⟨oc3, od3, .func (PySem.W.fnOf "are_tops" "are_tops" (defArgs kTops) (defBody kTops) (defScope kTops) .none kV3 dc3 pm3 an3 cd3 ct3), sl3⟩)
    (c3 : PySem.W.codeIn K cd3 "are_tops" = true) (k3 : PySem.W.keepIn K (.ref f3) = true)
    (a4 : PySem.W.nsIn K mainGlobals "is_side_of" = some (some (.ref f4)))
    (l4 : K.lookup f4 = some ⟨oc4, od4, .func (PySem.W.fnOf "is_side_of" "is_side_of" (defArgs a_is_side_of) (defBody a_is_side_of) (defScope a_is_side_of) .none kV4 dc4 pm4 an4 cd4 ct4), sl4⟩)
    (c4 : PySem.W.codeIn K cd4 "is_side_of" = true) (k4 : PySem.W.keepIn K (.ref f4) = true)
    (a5 : PySem.W.nsIn K mainGlobals "are_sides_of" = some (some (.ref f5)))
    (l5 : K.lookup f5 = some ⟨oc5, od5, .func (PySem.W.fnOf "are_sides_of" "are_sides_of" (defArgs kSides) (defBody kSides) (defScope kSides) .none kV5 dc5 pm5 an5 cd5 ct5), sl5⟩)
    (c5 : PySem.W.codeIn K cd5 "are_sides_of" = true) (k5 : PySem.W.keepIn K (.ref f5) = true)
    (a6 : PySem.W.nsIn K mainGlobals "is_rule_of" = some (some (.ref f6)))
    (l6 : K.lookup f6 = some ⟨oc6, od6, .func (PySem.W.fnOf "is_rule_of" "is_rule_of" (defArgs kRule) (defBody kRule) (defScope kRule) .none kV6 dc6 pm6 an6 cd6 ct6), sl6⟩)
    (c6 : PySem.W.codeIn K cd6 "is_rule_of" = true) (k6 : PySem.W.keepIn K (.ref f6) = true)
    (a7 : PySem.W.nsIn K mainGlobals "are_rules_of" = some (some (.ref f7)))
    (l7 : K.lookup f7 = some ⟨oc7, od7, .func (PySem.W.fnOf "are_rules_of" "are_rules_of" (defArgs kRules) (defBody kRules) (defScope kRules) .none kV7 dc7 pm7 an7 cd7 ct7), sl7⟩)
    (c7 : PySem.W.codeIn K cd7 "are_rules_of" = true) (k7 : PySem.W.keepIn K (.ref f7) = true)
    (a8 : PySem.W.nsIn K mainGlobals "is_in" = some (some (.ref f8)))
    (l8 : K.lookup f8 = some ⟨oc8, od8, .func (PySem.W.fnOf "is_in" "is_in" (defArgs kIn) (defBody kIn) (defScope kIn) .none kV8 dc8 pm8 an8 cd8 ct8), sl8⟩)
    (c8 : PySem.W.codeIn K cd8 "is_in" = true) (k8 : PySem.W.keepIn K (.ref f8) = true)
    (a9 : PySem.W.nsIn K mainGlobals "moved" = some (some (.ref f9)))
    (l9 : K.lookup f9 = some ⟨oc9, od9, .func (PySem.W.fnOf "moved" "moved" (defArgs a_moved) (defBody a_moved) (defScope a_moved) .none kV9 dc9 pm9 an9 cd9 ct9), sl9⟩)
    (c9 : PySem.W.codeIn K cd9 "moved" = true) (k9 : PySem.W.keepIn K (.ref f9) = true)
    (a10 : PySem.W.nsIn K mainGlobals "is_row" = some (some (.ref f10)))
    (l10 : K.lookup f10 = some ⟨oc10, od10, .func (PySem.W.fnOf "is_row" "is_row" (defArgs a_is_row) (defBody a_is_row) (defScope a_is_row) .none kV10 dc10 pm10 an10 cd10 ct10), sl10⟩)
    (c10 : PySem.W.codeIn K cd10 "is_row" = true) (k10 : PySem.W.keepIn K (.ref f10) = true)
    (a11 : PySem.W.nsIn K mainGlobals "out_places" = some (some (.ref f11)))
    (l11 : K.lookup f11 = some ⟨oc11, od11, .func (PySem.W.fnOf "out_places" "out_places" (defArgs a_out_places) (defBody a_out_places) (defScope a_out_places) .none kV11 dc11 pm11 an11 cd11 ct11), sl11⟩)
    (c11 : PySem.W.codeIn K cd11 "out_places" = true) (k11 : PySem.W.keepIn K (.ref f11) = true)
    (a12 : PySem.W.nsIn K mainGlobals "is_kept_along" = some (some (.ref f12)))
    (l12 : K.lookup f12 = some ⟨oc12, od12, .func (PySem.W.fnOf "is_kept_along" "is_kept_along" (defArgs a_is_kept_along) (defBody a_is_kept_along) (defScope a_is_kept_along) .none kV12 dc12 pm12 an12 cd12 ct12), sl12⟩)
    (c12 : PySem.W.codeIn K cd12 "is_kept_along" = true) (k12 : PySem.W.keepIn K (.ref f12) = true)
    (a13 : PySem.W.nsIn K mainGlobals "can_go" = some (some (.ref f13)))
    (l13 : K.lookup f13 = some ⟨oc13, od13, .func (PySem.W.fnOf "can_go" "can_go" (defArgs a_can_go) (defBody a_can_go) (defScope a_can_go) .none kV13 dc13 pm13 an13 cd13 ct13), sl13⟩)
    (c13 : PySem.W.codeIn K cd13 "can_go" = true) (k13 : PySem.W.keepIn K (.ref f13) = true)
    (a14 : PySem.W.nsIn K mainGlobals "walked" = some (some (.ref f14)))
    (l14 : K.lookup f14 = some ⟨oc14, od14, .func (PySem.W.fnOf "walked" "walked" (defArgs a_walked) (defBody a_walked) (defScope a_walked) .none kV14 dc14 pm14 an14 cd14 ct14), sl14⟩)
    (c14 : PySem.W.codeIn K cd14 "walked" = true) (k14 : PySem.W.keepIn K (.ref f14) = true)
    (a15 : PySem.W.nsIn K mainGlobals "steps" = some (some (.ref f15)))
    (l15 : K.lookup f15 = some ⟨oc15, od15, .func (PySem.W.fnOf "steps" "steps" (defArgs a_steps) (defBody a_steps) (defScope a_steps) .none kV15 dc15 pm15 an15 cd15 ct15), sl15⟩)
    (c15 : PySem.W.codeIn K cd15 "steps" = true) (k15 : PySem.W.keepIn K (.ref f15) = true)
    (a16 : PySem.W.nsIn K mainGlobals "_law_pot" = some (some (.ref f16)))
    (l16 : K.lookup f16 = some ⟨oc16, od16, .func (PySem.W.fnOf "_law_pot" "_law_pot" (defArgs sPot) (defBody sPot) (defScope sPot) .none kV16 dc16 pm16 an16 cd16 ct16), sl16⟩)
    (c16 : PySem.W.codeIn K cd16 "_law_pot" = true) (k16 : PySem.W.keepIn K (.ref f16) = true)
    (a17 : PySem.W.nsIn K mainGlobals "_law_take" = some (some (.ref f17)))
    (l17 : K.lookup f17 = some ⟨oc17, od17, .func (PySem.W.fnOf "_law_take" "_law_take" (defArgs sTake) (defBody sTake) (defScope sTake) .none kV17 dc17 pm17 an17 cd17 ct17), sl17⟩)
    (c17 : PySem.W.codeIn K cd17 "_law_take" = true) (k17 : PySem.W.keepIn K (.ref f17) = true)
    (a18 : PySem.W.nsIn K mainGlobals "_law_of" = some (some (.ref f18)))
    (l18 : K.lookup f18 = some ⟨oc18, od18, .func (PySem.W.fnOf "_law_of" "_law_of" (defArgs sOf) (defBody sOf) (defScope sOf) .none kV18 dc18 pm18 an18 cd18 ct18), sl18⟩)
    (c18 : PySem.W.codeIn K cd18 "_law_of" = true) (k18 : PySem.W.keepIn K (.ref f18) = true)
    (a19 : PySem.W.nsIn K mainGlobals "_law_standing" = some (some (.ref f19)))
    (l19 : K.lookup f19 = some ⟨oc19, od19, .func (PySem.W.fnOf "_law_standing" "_law_standing" (defArgs sStand) (defBody sStand) (defScope sStand) .none kV19 dc19 pm19 an19 cd19 ct19), sl19⟩)
    (c19 : PySem.W.codeIn K cd19 "_law_standing" = true) (k19 : PySem.W.keepIn K (.ref f19) = true)
    (a20 : PySem.W.nsIn K mainGlobals "_law_is_in" = some (some (.ref f20)))
    (l20 : K.lookup f20 = some ⟨oc20, od20, .func (PySem.W.fnOf "_law_is_in" "_law_is_in" (defArgs aIn) (defBody aIn) (defScope aIn) .none kV20 dc20 pm20 an20 cd20 ct20), sl20⟩)
    (c20 : PySem.W.codeIn K cd20 "_law_is_in" = true) (k20 : PySem.W.keepIn K (.ref f20) = true)
    (a21 : PySem.W.nsIn K mainGlobals "_law_broken" = some (some (.ref f21)))
    (l21 : K.lookup f21 = some ⟨oc21, od21, .func (PySem.W.fnOf "_law_broken" "_law_broken" (defArgs aBrk) (defBody aBrk) (defScope aBrk) .none kV21 dc21 pm21 an21 cd21 ct21), sl21⟩)
    (c21 : PySem.W.codeIn K cd21 "_law_broken" = true) (k21 : PySem.W.keepIn K (.ref f21) = true)
    (a22 : PySem.W.nsIn K mainGlobals "_law_side_in" = some (some (.ref f22)))
    (l22 : K.lookup f22 = some ⟨oc22, od22, .func (PySem.W.fnOf "_law_side_in" "_law_side_in" (defArgs aSideIn) (defBody aSideIn) (defScope aSideIn) .none kV22 dc22 pm22 an22 cd22 ct22), sl22⟩)
    (c22 : PySem.W.codeIn K cd22 "_law_side_in" = true) (k22 : PySem.W.keepIn K (.ref f22) = true)
    (a23 : PySem.W.nsIn K mainGlobals "_law_rules" = some (some (.ref f23)))
    (l23 : K.lookup f23 = some ⟨oc23, od23, .func (PySem.W.fnOf "_law_rules" "_law_rules" (defArgs aRules) (defBody aRules) (defScope aRules) .none kV23 dc23 pm23 an23 cd23 ct23), sl23⟩)
    (c23 : PySem.W.codeIn K cd23 "_law_rules" = true) (k23 : PySem.W.keepIn K (.ref f23) = true)
    (a24 : PySem.W.nsIn K mainGlobals "_law_tops" = some (some (.ref f24)))
    (l24 : K.lookup f24 = some ⟨oc24, od24, .func (PySem.W.fnOf "_law_tops" "_law_tops" (defArgs aTops) (defBody aTops) (defScope aTops) .none kV24 dc24 pm24 an24 cd24 ct24), sl24⟩)
    (c24 : PySem.W.codeIn K cd24 "_law_tops" = true) (k24 : PySem.W.keepIn K (.ref f24) = true)
    (a25 : PySem.W.nsIn K mainGlobals "_law_great_tops" = some (some (.ref f25)))
    (l25 : K.lookup f25 = some ⟨oc25, od25, .func (PySem.W.fnOf "_law_great_tops" "_law_great_tops" (defArgs aGTops) (defBody aGTops) (defScope aGTops) .none kV25 dc25 pm25 an25 cd25 ct25), sl25⟩)
    (c25 : PySem.W.codeIn K cd25 "_law_great_tops" = true) (k25 : PySem.W.keepIn K (.ref f25) = true)
    (a26 : PySem.W.nsIn K mainGlobals "_law_between_rule" = some (some (.ref f26)))
    (l26 : K.lookup f26 = some ⟨oc26, od26, .func (PySem.W.fnOf "_law_between_rule" "_law_between_rule" (defArgs aBtw) (defBody aBtw) (defScope aBtw) .none kV26 dc26 pm26 an26 cd26 ct26), sl26⟩)
    (c26 : PySem.W.codeIn K cd26 "_law_between_rule" = true) (k26 : PySem.W.keepIn K (.ref f26) = true)
    (a27 : PySem.W.nsIn K mainGlobals "_law_plan" = some (some (.ref f27)))
    (l27 : K.lookup f27 = some ⟨oc27, od27, .func (PySem.W.fnOf "_law_plan" "_law_plan" (defArgs aPlan) (defBody aPlan) (defScope aPlan) .none kV27 dc27 pm27 an27 cd27 ct27), sl27⟩)
    (c27 : PySem.W.codeIn K cd27 "_law_plan" = true) (k27 : PySem.W.keepIn K (.ref f27) = true)
    (a28 : PySem.W.nsIn K mainGlobals "_law_goes" = some (some (.ref f28)))
    (l28 : K.lookup f28 = some ⟨oc28, od28, .func (PySem.W.fnOf "_law_goes" "_law_goes" (defArgs a__law_goes) (defBody a__law_goes) (defScope a__law_goes) .none kV28 dc28 pm28 an28 cd28 ct28), sl28⟩)
    (c28 : PySem.W.codeIn K cd28 "_law_goes" = true) (k28 : PySem.W.keepIn K (.ref f28) = true)
    (a29 : PySem.W.nsIn K mainGlobals "_law_is_whole" = some (some (.ref f29)))
    (l29 : K.lookup f29 = some ⟨oc29, od29, .func (PySem.W.fnOf "_law_is_whole" "_law_is_whole" (defArgs a__law_is_whole) (defBody a__law_is_whole) (defScope a__law_is_whole) .none kV29 dc29 pm29 an29 cd29 ct29), sl29⟩)
    (c29 : PySem.W.codeIn K cd29 "_law_is_whole" = true) (k29 : PySem.W.keepIn K (.ref f29) = true)
    (a30 : PySem.W.nsIn K mainGlobals "_law_small" = some (some (.ref f30)))
    (l30 : K.lookup f30 = some ⟨oc30, od30, .func (PySem.W.fnOf "_law_small" "_law_small" (defArgs aSmall) (defBody aSmall) (defScope aSmall) .none kV30 dc30 pm30 an30 cd30 ct30), sl30⟩)
    (c30 : PySem.W.codeIn K cd30 "_law_small" = true) (k30 : PySem.W.keepIn K (.ref f30) = true)
    (a31 : PySem.W.nsIn K mainGlobals "_law_great" = some (some (.ref f31)))
    (l31 : K.lookup f31 = some ⟨oc31, od31, .func (PySem.W.fnOf "_law_great" "_law_great" (defArgs aGreat) (defBody aGreat) (defScope aGreat) .none kV31 dc31 pm31 an31 cd31 ct31), sl31⟩)
    (c31 : PySem.W.codeIn K cd31 "_law_great" = true) (k31 : PySem.W.keepIn K (.ref f31) = true)
    (a32 : PySem.W.nsIn K mainGlobals "_law_rows" = some (some (.ref f32)))
    (l32 : K.lookup f32 = some ⟨oc32, od32, .func (PySem.W.fnOf "_law_rows" "_law_rows" (defArgs a__law_rows) (defBody a__law_rows) (defScope a__law_rows) .none kV32 dc32 pm32 an32 cd32 ct32), sl32⟩)
    (c32 : PySem.W.codeIn K cd32 "_law_rows" = true) (k32 : PySem.W.keepIn K (.ref f32) = true)
    (a33 : PySem.W.nsIn K mainGlobals "_law_odd" = some (some (.ref f33)))
    (l33 : K.lookup f33 = some ⟨oc33, od33, .func (PySem.W.fnOf "_law_odd" "_law_odd" (defArgs a__law_odd) (defBody a__law_odd) (defScope a__law_odd) .none kV33 dc33 pm33 an33 cd33 ct33), sl33⟩)
    (c33 : PySem.W.codeIn K cd33 "_law_odd" = true) (k33 : PySem.W.keepIn K (.ref f33) = true)
    (a34 : PySem.W.nsIn K mainGlobals "_law_due" = some (some (.ref f34)))
    (l34 : K.lookup f34 = some ⟨oc34, od34, .func (PySem.W.fnOf "_law_due" "_law_due" (defArgs a__law_due) (defBody a__law_due) (defScope a__law_due) .none kV34 dc34 pm34 an34 cd34 ct34), sl34⟩)
    (c34 : PySem.W.codeIn K cd34 "_law_due" = true) (k34 : PySem.W.keepIn K (.ref f34) = true)
    (a35 : PySem.W.nsIn K mainGlobals "_law_told" = some (some (.ref f35)))
    (l35 : K.lookup f35 = some ⟨oc35, od35, .func (PySem.W.fnOf "_law_told" "_law_told" (defArgs a__law_told) (defBody a__law_told) (defScope a__law_told) .none kV35 dc35 pm35 an35 cd35 ct35), sl35⟩)
    (c35 : PySem.W.codeIn K cd35 "_law_told" = true) (k35 : PySem.W.keepIn K (.ref f35) = true)
    (a36 : PySem.W.nsIn K mainGlobals "_law_right" = some (some (.ref f36)))
    (l36 : K.lookup f36 = some ⟨oc36, od36, .func (PySem.W.fnOf "_law_right" "_law_right" (defArgs a__law_right) (defBody a__law_right) (defScope a__law_right) .none kV36 dc36 pm36 an36 cd36 ct36), sl36⟩)
    (c36 : PySem.W.codeIn K cd36 "_law_right" = true) (k36 : PySem.W.keepIn K (.ref f36) = true)
    (a37 : PySem.W.nsIn K mainGlobals "law" = some (some (.ref f37)))
    (l37 : K.lookup f37 = some ⟨oc37, od37, .func (PySem.W.fnOf "law" "law" (defArgs a_law) (defBody a_law) (defScope a_law) .none kV37 dc37 pm37 an37 cd37 ct37), sl37⟩)
    (c37 : PySem.W.codeIn K cd37 "law" = true) (k37 : PySem.W.keepIn K (.ref f37) = true)
    (aC : PySem.W.nsIn K mainGlobals "Plan" = some (some (.ref C))) (aI : PySem.W.findIn K (.ref C) "__init__" = some (some (.ref f0))) (iI : PySem.W.isFn K (.ref f0) = true)
    (lI : K.lookup f0 = some ⟨oc0, od0, .func (PySem.W.fnOf "__init__" "Plan.__init__" (defArgs kInit) (defBody kInit) (defScope kInit) (.ref Td) kV0 dc0 pm0 an0 cd0 ct0), sl0⟩) (cI : PySem.W.codeIn K cd0 "Plan.__init__" = true) (kI : PySem.W.keepIn K (.ref f0) = true)
    (lT : K.lookup Td = some ⟨ocT, odT, .seq #[.ref e0] nT, slT⟩)
    (pg : PySem.W.plainGet K C Str.empty = true) (hd : PySem.W.hasDictIn K C = true) (po : PySem.W.plainOver K C = true) (sa : PySem.W.findIn K (.ref C) "__setattr__" = some (some (.builtin "object.__setattr__"))) (mk : PySem.W.makesIn K C = true) (kc : PySem.W.keepIn K (.ref C) = true)
    (nTo : PySem.W.findIn K (.ref C) "tops" = some none) (nRu : PySem.W.findIn K (.ref C) "rules" = some none)
    (v1 : PySem.W.nsIn K mainGlobals "MOST_THINGS" = some (some (.int 12 tk1))) (v2 : PySem.W.nsIn K mainGlobals "MOST_RULES" = some (some (.int 40 tk2))) (v3 : PySem.W.nsIn K mainGlobals "BEYOND_THIRTY_FIGURES" = some (some (.int 1000000000000000000000000000000 tk3)))
    (v4 : PySem.W.nsIn K mainGlobals "WORDS" = some (some (.ref wa))) (v5 : K.lookup wa = some ⟨.type "tuple", odW, .seq #[.str "from" tk4, .str "to" tk5] nW, slW⟩)
    {C_NoWay f_NoWay N_NoWay : Addr} {nm_NoWay q_NoWay : Str} {bs_NoWay bm_NoWay sub_NoWay : List Value} {sn_NoWay : List Str} {ab_NoWay : Bool} {col_NoWay : Option Bool} {dd_NoWay od_NoWay an_NoWay : Option Addr} {m0_NoWay m1_NoWay m2_NoWay m3_NoWay m5_NoWay : Option Value} {sl_NoWay : Array (Option Value)} {oc_NoWay kV_NoWay dc_NoWay pm_NoWay cd_NoWay ct_NoWay : Value}
    (a_NoWay : PySem.W.nsIn K mainGlobals "NoWay" = some (some (.ref C_NoWay)))
    (x_NoWay : K.lookup C_NoWay = some (excClassObj nm_NoWay q_NoWay C_NoWay N_NoWay bs_NoWay bm_NoWay true sn_NoWay sub_NoWay ab_NoWay col_NoWay dd_NoWay m0_NoWay m1_NoWay m2_NoWay m3_NoWay m5_NoWay "ValueError.__new__"))
    (r_NoWay : PySem.HandSPX.refsVE bm_NoWay = true)
    (sa_NoWay : PySem.W.findIn K (.ref C_NoWay) "__setattr__" = some (some (.builtin "object.__setattr__"))) (ga_NoWay : PySem.W.findIn K (.ref C_NoWay) "__getattribute__" = some (some (.builtin "BaseException.__getattribute__"))) (gg_NoWay : PySem.W.findIn K (.ref C_NoWay) "__getattr__" = some none) (nb_NoWay : PySem.W.findIn K (.ref C_NoWay) "at" = some none)
    (i_NoWay : PySem.W.findIn K (.ref C_NoWay) "__init__" = some (some (.ref f_NoWay))) (t_NoWay : PySem.W.typeIn K (.ref f_NoWay) = some (.type "function"))
    (l_NoWay : K.lookup f_NoWay = some ⟨oc_NoWay, od_NoWay, .func (PySem.W.fnOf "__init__" "NoWay.__init__" (defArgs kI_NoWay) (defBody kI_NoWay) (defScope kI_NoWay) .none kV_NoWay dc_NoWay pm_NoWay an_NoWay cd_NoWay ct_NoWay), sl_NoWay⟩) (c_NoWay : PySem.W.codeIn K cd_NoWay "NoWay.__init__" = true) (kf_NoWay : PySem.W.keepIn K (.ref f_NoWay) = true)
    (kC_NoWay : PySem.W.keepIn K (.ref C_NoWay) = true) (e_NoWay : PySem.W.subIn K (.ref C_NoWay) (.type "BaseException") = some true) (ty_NoWay : PySem.W.typeIn K (.ref C_NoWay) = some (.type "type")) (hd_NoWay : PySem.W.hasDictIn K C_NoWay = true) (is_NoWay : PySem.W.isClsIn K C_NoWay = true) (ss_NoWay : PySem.W.subIn K (.ref C_NoWay) (.ref C_NoWay) = some true)
    {CB_BothError : Addr} (aB_BothError : PySem.W.nsIn K mainGlobals "BothError" = some (some (.ref CB_BothError))) (hB_BothError : PySem.W.hasDictIn K CB_BothError = true) (tB_BothError : PySem.W.typeIn K (.ref CB_BothError) = some (.type "type")) (iB_BothError : PySem.W.isClsIn K CB_BothError = true) (eB_BothError : PySem.W.subIn K (.ref CB_BothError) (.type "BaseException") = some true)
    (xc1_NoWay : PySem.W.findIn K (.ref C_NoWay) "__class__" = some (some (.builtin "object.__class__"))) (xc2_NoWay : PySem.W.specialIn K (.builtin "object.__class__") "__get__" = some (some (.builtin "getset_descriptor.__get__"))) (xc3_NoWay : PySem.W.takesIn K (.builtin "object.__class__") = some true) (xc4_NoWay : PySem.W.mroIn K C_NoWay (.type "object") = some true)
    (xv_NoWay : PySem.W.subIn K (.ref C_NoWay) (.type "ValueError") = some true)
    (xs_NoWay_BothError : PySem.W.subIn K (.ref C_NoWay) (.ref CB_BothError) = some true)
    {CS_NoStanding : Addr} (aS_NoStanding : PySem.W.nsIn K mainGlobals "NoStanding" = some (some (.ref CS_NoStanding))) (hS_NoStanding : PySem.W.hasDictIn K CS_NoStanding = true) (tS_NoStanding : PySem.W.typeIn K (.ref CS_NoStanding) = some (.type "type")) (xn_NoWay_NoStanding : PySem.W.subIn K (.ref C_NoWay) (.ref CS_NoStanding) = some false) (r_ne_NoWay_NoStanding : (C_NoWay == CS_NoStanding) = false)
    {fE : Addr} {odE anE : Option Addr} {slE : Array (Option Value)} {ocE kVE dcE pmE cdE ctE : Value}
    (aE : PySem.W.findIn K (.ref C) "__eq__" = some (some (.ref fE))) (iE : PySem.W.isFn K (.ref fE) = true)
    (lE : K.lookup fE = some ⟨ocE, odE, .func (PySem.W.fnOf "__eq__" "Plan.__eq__" (defArgs kEq) (defBody kEq) (defScope kEq) .none kVE dcE pmE anE cdE ctE), slE⟩) (cE : PySem.W.codeIn K cdE "Plan.__eq__" = true) (kE : PySem.W.keepIn K (.ref fE) = true)
    (ic1 : PySem.W.findIn K (.ref C) "__class__" = some (some (.builtin "object.__class__"))) (ic2 : PySem.W.specialIn K (.builtin "object.__class__") "__get__" = some (some (.builtin "getset_descriptor.__get__"))) (ic3 : PySem.W.takesIn K (.builtin "object.__class__") = some true) (ic4 : PySem.W.mroIn K C (.type "object") = some true)
    (z1 : PySem.W.nsIn K mainGlobals "abs" = some none)
    (z2 : PySem.W.nsIn K mainGlobals "all" = some none)
    (z3 : PySem.W.nsIn K mainGlobals "bool" = some none)
    (z4 : PySem.W.nsIn K mainGlobals "enumerate" = some none)
    (z5 : PySem.W.nsIn K mainGlobals "int" = some none)
    (z6 : PySem.W.nsIn K mainGlobals "isinstance" = some none)
    (z7 : PySem.W.nsIn K mainGlobals "len" = some none)
    (z8 : PySem.W.nsIn K mainGlobals "list" = some none)
    (z9 : PySem.W.nsIn K mainGlobals "max" = some none)
    (z10 : PySem.W.nsIn K mainGlobals "min" = some none)
    (z11 : PySem.W.nsIn K mainGlobals "range" = some none)
    (z12 : PySem.W.nsIn K mainGlobals "repr" = some none)
    (z13 : PySem.W.nsIn K mainGlobals "str" = some none)
    (z14 : PySem.W.nsIn K mainGlobals "tuple" = some none)
    : ∃ fd : FuncData, (∀ (s : Shared) (v : Value), BindsTo s fd ⟨[v], []⟩ [("_law_script", v)]) ∧ ∀ base : Heap, K.In base → base.Ns mainGlobals mg → FnG l.prog w K mg base 11 fa fd ["_law_script"] (spLaw K) := by
  have e := hfa.symm.trans (PySem.W.mg_of X G a37)
  cases e
  have F1 := fun_mk (st := a_is_whole) l1 c1 k1
  have b1 := F1.binds (ps := ["thing"]) fun _ _ _ _ _ _ us hl => match us, hl with | [_], _ => rfl
  have g1 := PySem.W.mg_of X G a1
  have F2 := fun_mk (st := a_is_place) l2 c2 k2
  have b2 := F2.binds (ps := ["top", "thing"]) fun _ _ _ _ _ _ us hl => match us, hl with | [_, _], _ => rfl
  have g2 := PySem.W.mg_of X G a2
  have F3 := fun_mk (st := kTops) l3 c3 k3
  have b3 := F3.binds (ps := ["thing"]) fun _ _ _ _ _ _ us hl => match us, hl with | [_], _ => rfl
  have g3 := PySem.W.mg_of X G a3
  have F4 := fun_mk (st := a_is_side_of) l4 c4 k4
  have b4 := F4.binds (ps := ["tops", "thing"]) fun _ _ _ _ _ _ us hl => match us, hl with | [_, _], _ => rfl
  have g4 := PySem.W.mg_of X G a4
  have F5 := fun_mk (st := kSides) l5 c5 k5
  have b5 := F5.binds (ps := ["tops", "thing"]) fun _ _ _ _ _ _ us hl => match us, hl with | [_, _], _ => rfl
  have g5 := PySem.W.mg_of X G a5
  have F6 := fun_mk (st := kRule) l6 c6 k6
  have b6 := F6.binds (ps := ["tops", "thing"]) fun _ _ _ _ _ _ us hl => match us, hl with | [_, _], _ => rfl
  have g6 := PySem.W.mg_of X G a6
  have F7 := fun_mk (st := kRules) l7 c7 k7
  have b7 := F7.binds (ps := ["tops", "thing"]) fun _ _ _ _ _ _ us hl => match us, hl with | [_, _], _ => rfl
  have g7 := PySem.W.mg_of X G a7
  have F8 := fun_mk (st := kIn) l8 c8 k8
  have b8 := F8.binds (ps := ["side", "standing"]) fun _ _ _ _ _ _ us hl => match us, hl with | [_, _], _ => rfl
  have g8 := PySem.W.mg_of X G a8
  have F9 := fun_mk (st := a_moved) l9 c9 k9
  have b9 := F9.binds (ps := ["standing", "thing", "place"]) fun _ _ _ _ _ _ us hl => match us, hl with | [_, _, _], _ => rfl
  have g9 := PySem.W.mg_of X G a9
  have F10 := fun_mk (st := a_is_row) l10 c10 k10
  have b10 := F10.binds (ps := ["plan", "standing", "thing"]) fun _ _ _ _ _ _ us hl => match us, hl with | [_, _, _], _ => rfl
  have g10 := PySem.W.mg_of X G a10
  have F11 := fun_mk (st := a_out_places) l11 c11 k11
  have b11 := F11.binds (ps := ["plan", "standing", "side", "thing"]) fun _ _ _ _ _ _ us hl => match us, hl with | [_, _, _, _], _ => rfl
  have g11 := PySem.W.mg_of X G a11
  have F12 := fun_mk (st := a_is_kept_along) l12 c12 k12
  have b12 := F12.binds (ps := ["plan", "standing", "rule", "thing", "place"]) fun _ _ _ _ _ _ us hl => match us, hl with | [_, _, _, _, _], _ => rfl
  have g12 := PySem.W.mg_of X G a12
  have F13 := fun_mk (st := a_can_go) l13 c13 k13
  have b13 := F13.binds (ps := ["plan", "standing", "thing", "place"]) fun _ _ _ _ _ _ us hl => match us, hl with | [_, _, _, _], _ => rfl
  have g13 := PySem.W.mg_of X G a13
  have F14 := fun_mk (st := a_walked) l14 c14 k14
  have b14 := F14.binds (ps := ["plan", "standing", "way"]) fun _ _ _ _ _ _ us hl => match us, hl with | [_, _, _], _ => rfl
  have g14 := PySem.W.mg_of X G a14
  have F15 := fun_mk (st := a_steps) l15 c15 k15
  have b15 := F15.binds (ps := ["standing", "way"]) fun _ _ _ _ _ _ us hl => match us, hl with | [_, _], _ => rfl
  have g15 := PySem.W.mg_of X G a15
  have F16 := fun_mk (st := sPot) l16 c16 k16
  have b16 := F16.binds (ps := ["_law_script", "_law_k"]) fun _ _ _ _ _ _ us hl => match us, hl with | [_, _], _ => rfl
  have g16 := PySem.W.mg_of X G a16
  have F17 := fun_mk (st := sTake) l17 c17 k17
  have b17 := F17.binds (ps := ["_law_pot_here", "_law_many"]) fun _ _ _ _ _ _ us hl => match us, hl with | [_, _], _ => rfl
  have g17 := PySem.W.mg_of X G a17
  have F18 := fun_mk (st := sOf) l18 c18 k18
  have b18 := F18.binds (ps := ["_law_pot_here", "_law_some"]) fun _ _ _ _ _ _ us hl => match us, hl with | [_, _], _ => rfl
  have g18 := PySem.W.mg_of X G a18
  have F19 := fun_mk (st := sStand) l19 c19 k19
  have b19 := F19.binds (ps := ["_law_pot_here", "_law_tops_here"]) fun _ _ _ _ _ _ us hl => match us, hl with | [_, _], _ => rfl
  have g19 := PySem.W.mg_of X G a19
  have F20 := fun_mk (st := aIn) l20 c20 k20
  have b20 := F20.binds (ps := ["_law_side", "_law_standing_here"]) fun _ _ _ _ _ _ us hl => match us, hl with | [_, _], _ => rfl
  have g20 := PySem.W.mg_of X G a20
  have F21 := fun_mk (st := aBrk) l21 c21 k21
  have b21 := F21.binds (ps := ["_law_rules_here", "_law_standing_here"]) fun _ _ _ _ _ _ us hl => match us, hl with | [_, _], _ => rfl
  have g21 := PySem.W.mg_of X G a21
  have F22 := fun_mk (st := aSideIn) l22 c22 k22
  have b22 := F22.binds (ps := ["_law_pot_here", "_law_tops_here", "_law_standing_here"]) fun _ _ _ _ _ _ us hl => match us, hl with | [_, _, _], _ => rfl
  have g22 := PySem.W.mg_of X G a22
  have F23 := fun_mk (st := aRules) l23 c23 k23
  have b23 := F23.binds (ps := ["_law_pot_here", "_law_tops_here", "_law_one", "_law_two", "_law_many"]) fun _ _ _ _ _ _ us hl => match us, hl with | [_, _, _, _, _], _ => rfl
  have g23 := PySem.W.mg_of X G a23
  have F24 := fun_mk (st := aTops) l24 c24 k24
  have b24 := F24.binds (ps := ["_law_pot_here"]) fun _ _ _ _ _ _ us hl => match us, hl with | [_], _ => rfl
  have g24 := PySem.W.mg_of X G a24
  have F25 := fun_mk (st := aGTops) l25 c25 k25
  have b25 := F25.binds (ps := ["_law_pot_here"]) fun _ _ _ _ _ _ us hl => match us, hl with | [_], _ => rfl
  have g25 := PySem.W.mg_of X G a25
  have F26 := fun_mk (st := aBtw) l26 c26 k26
  have b26 := F26.binds (ps := ["_law_pot_here", "_law_tops_here", "_law_one", "_law_two"]) fun _ _ _ _ _ _ us hl => match us, hl with | [_, _, _, _], _ => rfl
  have g26 := PySem.W.mg_of X G a26
  have F27 := fun_mk (st := aPlan) l27 c27 k27
  have b27 := F27.binds (ps := ["_law_pot_here", "_law_tops_here", "_law_many"]) fun _ _ _ _ _ _ us hl => match us, hl with | [_, _, _], _ => rfl
  have g27 := PySem.W.mg_of X G a27
  have F28 := fun_mk (st := a__law_goes) l28 c28 k28
  have b28 := F28.binds (ps := ["_law_rules_here", "_law_standing_here", "_law_thing", "_law_place"]) fun _ _ _ _ _ _ us hl => match us, hl with | [_, _, _, _], _ => rfl
  have g28 := PySem.W.mg_of X G a28
  have F29 := fun_mk (st := a__law_is_whole) l29 c29 k29
  have b29 := F29.binds (ps := ["_law_thing"]) fun _ _ _ _ _ _ us hl => match us, hl with | [_], _ => rfl
  have g29 := PySem.W.mg_of X G a29
  have F30 := fun_mk (st := aSmall) l30 c30 k30
  have b30 := F30.binds (ps := ["_law_pot_here"]) fun _ _ _ _ _ _ us hl => match us, hl with | [_], _ => rfl
  have g30 := PySem.W.mg_of X G a30
  have F31 := fun_mk (st := aGreat) l31 c31 k31
  have b31 := F31.binds (ps := ["_law_pot_here"]) fun _ _ _ _ _ _ us hl => match us, hl with | [_], _ => rfl
  have g31 := PySem.W.mg_of X G a31
  have F32 := fun_mk (st := a__law_rows) l32 c32 k32
  have b32 := F32.binds (ps := ["_law_pot_here", "_law_tops_here", "_law_rules_here", "_law_one"]) fun _ _ _ _ _ _ us hl => match us, hl with | [_, _, _, _], _ => rfl
  have g32 := PySem.W.mg_of X G a32
  have F33 := fun_mk (st := a__law_odd) l33 c33 k33
  have b33 := F33.binds (ps := ["_law_pot_here", "_law_tops_here", "_law_row"]) fun _ _ _ _ _ _ us hl => match us, hl with | [_, _, _], _ => rfl
  have g33 := PySem.W.mg_of X G a33
  have F34 := fun_mk (st := a__law_due) l34 c34 k34
  have b34 := F34.binds (ps := ["_law_tops_here", "_law_rules_here", "_law_one", "_law_rows_here"]) fun _ _ _ _ _ _ us hl => match us, hl with | [_, _, _, _], _ => rfl
  have g34 := PySem.W.mg_of X G a34
  have F35 := fun_mk (st := a__law_told) l35 c35 k35
  have b35 := F35.binds (ps := ["_law_plan_here", "_law_one", "_law_rows_here"]) fun _ _ _ _ _ _ us hl => match us, hl with | [_, _, _], _ => rfl
  have g35 := PySem.W.mg_of X G a35
  have F36 := fun_mk (st := a__law_right) l36 c36 k36
  have b36 := F36.binds (ps := ["_law_pot_here", "_law_tops_here", "_law_rules_here", "_law_one"]) fun _ _ _ _ _ _ us hl => match us, hl with | [_, _, _, _], _ => rfl
  have g36 := PySem.W.mg_of X G a36
  have F37 := fun_mk (st := a_law) l37 c37 k37
  have m1 := PySem.W.mg_none_of X G z1
  have m2 := PySem.W.mg_none_of X G z2
  have m3 := PySem.W.mg_none_of X G z3
  have m4 := PySem.W.mg_none_of X G z4
  have m5 := PySem.W.mg_none_of X G z5
  have m6 := PySem.W.mg_none_of X G z6
  have m7 := PySem.W.mg_none_of X G z7
  have m8 := PySem.W.mg_none_of X G z8
  have m9 := PySem.W.mg_none_of X G z9
  have m10 := PySem.W.mg_none_of X G z10
  have m11 := PySem.W.mg_none_of X G z11
  have m12 := PySem.W.mg_none_of X G z12
  have m13 := PySem.W.mg_none_of X G z13
  have m14 := PySem.W.mg_none_of X G z14
  have TX : PlanTxt K mg C := ⟨⟨pg, hd, po, sa⟩, nTo, nRu, PySem.W.mg_of X G aC⟩
  have MK : Mk K C f0 := ⟨mk, aI, iI, kc⟩
  have FD : FunD K "__init__" "Plan.__init__" (defArgs kInit) (defBody kInit) (defScope kInit) [V.ref e0] [] f0 (PySem.W.fnOf "__init__" "Plan.__init__" (defArgs kInit) (defBody kInit) (defScope kInit) (.ref Td) kV0 dc0 pm0 an0 cd0 ct0) :=
    ⟨⟨oc0, od0, .ref Td, kV0, dc0, pm0, an0, cd0, ct0, sl0, rfl, lI, cI, .inr ⟨by simp, Td, _, [.ref e0], nT, rfl, lT, rfl, .cons rfl .nil⟩, .inl rfl⟩, kI⟩
  obtain ⟨ds, rds, bI⟩ := FD.binds1 (ps := ["self", "tops", "rules"]) 3 1 (by simp) rfl fun T kV doc pm an cdv ct us its h1 h2 => match us, its, h1, h2 with | [_, _, _], [_], _, _ => ⟨_, rfl, rfl⟩
  cases rds
  have hW : ∀ H, SqT K H wa [.str "from", .str "to"] := fun H => .inr ⟨_, _, _, v5, rfl, rfl, (show 2 ≤ sizeLine by decide), .cons ⟨_, rfl⟩ (.cons ⟨_, rfl⟩ .nil)⟩
  have gv1 := PySem.W.mg_of X G v1
  have gv2 := PySem.W.mg_of X G v2
  have gv3 := PySem.W.mg_of X G v3
  have gv4 := PySem.W.mg_of X G v4
  have FE := fun_mk (st := kEq) lE cE kE
  have bE := FE.binds (ps := ["self", "other"]) fun _ _ _ _ _ _ us hl => match us, hl with | [_, _], _ => rfl
  have IC : C8.InsC K C := ⟨⟨pg, hd, po, sa⟩, ic1, ic2, ic3, ic4, kit_self⟩
  have F_NoWay := fun_mk (st := kI_NoWay) l_NoWay c_NoWay kf_NoWay
  have b_NoWay := F_NoWay.binds (ps := ["self", "at"]) fun _ _ _ _ _ _ us hl => match us, hl with | [_, _], _ => rfl
  have O_NoWay : OexC K C_NoWay := ⟨⟨_, _, _, _, _, _, _, _, _, _, _, _, _, _, _, x_NoWay, r_NoWay⟩, sa_NoWay, e_NoWay, ty_NoWay, kC_NoWay⟩
  have EX_NoWay : ExT K mg "NoWay" "at" C_NoWay f_NoWay _ := ⟨PySem.W.mg_of X G a_NoWay, O_NoWay, nb_NoWay, i_NoWay, t_NoWay, ⟨ga_NoWay, gg_NoWay, e_NoWay, hd_NoWay⟩, exm_self e_NoWay is_NoWay ty_NoWay ss_NoWay, b_NoWay⟩
  have gB_BothError := PySem.W.mg_of X G aB_BothError
  have XC_NoWay : ExcC K C_NoWay := ⟨ga_NoWay, gg_NoWay, e_NoWay, hd_NoWay, xc1_NoWay, xc2_NoWay, xc3_NoWay, xc4_NoWay⟩
  have KV_NoWay := kit_sub_ty (K := K) (t := .ref C_NoWay) (T := "ValueError") (by decide +kernel) xv_NoWay
  have EM_NoWay_BothError := exm_sub (K := K) (S := C_NoWay) eB_BothError iB_BothError tB_BothError xs_NoWay_BothError
  have KB_NoWay := kit_sub_ref (K := K) (t := .ref C_NoWay) hB_BothError tB_BothError xs_NoWay_BothError
  have gS_NoStanding := PySem.W.mg_of X G aS_NoStanding
  have KN_NoWay_NoStanding := kit_not (K := K) (S := C_NoWay) r_ne_NoWay_NoStanding hS_NoStanding tS_NoStanding xn_NoWay_NoStanding
  refine ⟨PySem.W.fnOf "law" "law" (defArgs a_law) (defBody a_law) (defScope a_law) .none kV37 dc37 pm37 an37 cd37 ct37, fun s v => .of_eq rfl, fun base _ _ => ?_⟩
  have GX_NoWay := ok_NoWay (P := l.prog) (w := w) (mg := mg) (base := base) F_NoWay O_NoWay nb_NoWay
  have K_is_whole := Kn.mk (x := "is_whole") (base := base) (w := w) (P := l.prog) (ok_is_whole (k := 0) F1 m3 m5 m6) g1 F1.kp b1
  have K_is_place := Kn.mk (x := "is_place") (base := base) (w := w) (P := l.prog) (ok_is_place (k := 0) F2 K_is_whole) g2 F2.kp b2
  have Kwh := Kn.mk (x := "is_whole") (base := base) (w := w) (P := l.prog) (ok_whole (k := 0) F1 m6 m5 m3) g1 F1.kp b1
  have Kpl := Kn.mk (x := "is_place") (base := base) (w := w) (P := l.prog) (ok_place (k := 0) F2 Kwh) g2 F2.kp b2
  have Kto := Kn.mk (x := "are_tops") (base := base) (w := w) (P := l.prog) (ok_tops (k := 0) F3 Kpl m6 m14 m7 m2 gv1 gv3) g3 F3.kp b3
  have K_are_tops := Kto
  have K_is_side_of := Kn.mk (x := "is_side_of") (base := base) (w := w) (P := l.prog) (ok_is_side_of (k := 0) F4 K_is_place gv4 hW m6 m7 m13 m14) g4 F4.kp b4
  have Ksi := Kn.mk (x := "is_side_of") (base := base) (w := w) (P := l.prog) (ok_side (k := 0) F4 Kpl m6 m14 m7 m13 gv4 hW) g4 F4.kp b4
  have Kss := Kn.mk (x := "are_sides_of") (base := base) (w := w) (P := l.prog) (ok_sides (k := 0) F5 Ksi m6 m14 m2) g5 F5.kp b5
  have Kru := Kn.mk (x := "is_rule_of") (base := base) (w := w) (P := l.prog) (ok_rule (k := 0) F6 Kss m7) g6 F6.kp b6
  have K_is_rule_of := Kru
  have Krs := Kn.mk (x := "are_rules_of") (base := base) (w := w) (P := l.prog) (ok_rules (k := 0) F7 Kru m6 m14 m7 m2 gv2) g7 F7.kp b7
  have K_are_rules_of := Krs
  have K_moved := Kn.mk (x := "moved") (base := base) (w := w) (P := l.prog) (ok_moved (k := 0) F9 ) g9 F9.kp b9
  have K_is_row := Kn.mk (x := "is_row") (base := base) (w := w) (P := l.prog) (ok_is_row (k := 0) F10 K_is_place TX m6 m7 m14) g10 F10.kp b10
  have Kin := Kn.mk (x := "is_in") (base := base) (w := w) (P := l.prog) (ok_in (k := 0) F8) g8 F8.kp b8
  have K_is_in := Kin
  have K_out_places := Kn.mk (x := "out_places") (base := base) (w := w) (P := l.prog) (ok_out_places (k := 0) F11 K_is_in TX) g11 F11.kp b11
  have K_is_kept_along := Kn.mk (x := "is_kept_along") (base := base) (w := w) (P := l.prog) (ok_is_kept_along (k := 0) F12 K_out_places m9 m10) g12 F12.kp b12
  have K_can_go := Kn.mk (x := "can_go") (base := base) (w := w) (P := l.prog) (ok_can_go (k := 0) F13 K_is_kept_along TX m2) g13 F13.kp b13
  have K_walked := KnX.mk (x := "walked") (base := base) (w := w) (P := l.prog) (ok_walked (k := 0) F14 K_is_row K_can_go K_moved EX_NoWay GX_NoWay m4 m6 m14) g14 F14.kp b14
  have K_steps := Kn.mk (x := "steps") (base := base) (w := w) (P := l.prog) (ok_steps (k := 0) F15 K_moved m1) g15 F15.kp b15
  have Kli := Kn.mk (x := "_law_is_in") (base := base) (w := w) (P := l.prog) (ok_lin (k := 0) F20) g20 F20.kp b20
  have K__law_is_in := Kli
  have Kbk := Kn.mk (x := "_law_broken") (base := base) (w := w) (P := l.prog) (ok_brk (k := 0) F21 Kli m4) g21 F21.kp b21
  have K__law_broken := Kbk
  have K__law_goes := Kn.mk (x := "_law_goes") (base := base) (w := w) (P := l.prog) (ok__law_goes (k := 0) F28 K__law_broken m9 m10) g28 F28.kp b28
  have K__law_is_whole := Kn.mk (x := "_law_is_whole") (base := base) (w := w) (P := l.prog) (ok__law_is_whole (k := 0) F29 m3 m5 m6) g29 F29.kp b29
  have Ktake := Kn.mk (x := "_law_take") (base := base) (w := w) (P := l.prog) (ok_take (k := 0) F17) g17 F17.kp b17
  have K__law_take := Ktake
  have Kof := Kn.mk (x := "_law_of") (base := base) (w := w) (P := l.prog) (ok_of (k := 0) F18 Ktake m7) g18 F18.kp b18
  have K__law_of := Kof
  have K__law_rows := Kn.mk (x := "_law_rows") (base := base) (w := w) (P := l.prog) (ok__law_rows (k := 0) F32 K__law_take K__law_of K__law_goes m7 m11) g32 F32.kp b32
  have K__law_odd := Kn.mk (x := "_law_odd") (base := base) (w := w) (P := l.prog) (ok__law_odd (k := 0) F33 K__law_of m7 m13) g33 F33.kp b33
  have K__law_due := Kn.mk (x := "_law_due") (base := base) (w := w) (P := l.prog) (ok__law_due (k := 0) F34 K__law_is_whole K__law_goes m1 m2 m4 m6 m7 m14) g34 F34.kp b34
  have K__law_told := Kn.mk (x := "_law_told") (base := base) (w := w) (P := l.prog) (ok__law_told (k := 0) F35 K_walked EX_NoWay XC_NoWay gB_BothError gS_NoStanding EM_NoWay_BothError kit_self KN_NoWay_NoStanding m6) g35 F35.kp b35
  have GI := ok_init (P := l.prog) (w := w) (base := base) (k := 0) FD TX Kto Krs
  have GE := ok_eq (P := l.prog) (w := w) (base := base) (k := 0) FE TX IC m6
  have K__law_right := ok__law_right F36 K__law_rows K__law_take K__law_odd K__law_due K__law_told K_steps K__law_of TX MK GI bI GE aE iE bE m7 m12 m14
  have Kpot := Kn.mk (x := "_law_pot") (base := base) (w := w) (P := l.prog) (ok_pot (k := 0) F16 m7 m1 m5) g16 F16.kp b16
  have K__law_pot := Kpot
  have Ktp := Kn.mk (x := "_law_tops") (base := base) (w := w) (P := l.prog) (ok_topsL (k := 0) F24 Ktake Kof m11 m14) g24 F24.kp b24
  have K__law_tops := Ktp
  have Kst := Kn.mk (x := "_law_standing") (base := base) (w := w) (P := l.prog) (ok_stand (k := 0) F19 Ktake m14) g19 F19.kp b19
  have K__law_standing := Kst
  have Kbt := Kn.mk (x := "_law_between_rule") (base := base) (w := w) (P := l.prog) (ok_btw (k := 0) F26 Ktake Kof m11 m7 m1) g26 F26.kp b26
  have K__law_between_rule := Kbt
  have Kse := Kn.mk (x := "_law_side_in") (base := base) (w := w) (P := l.prog) (ok_sideIn (k := 0) F22 Ktake m7) g22 F22.kp b22
  have K__law_side_in := Kse
  have Krl := Kn.mk (x := "_law_rules") (base := base) (w := w) (P := l.prog) (ok_rulesL (k := 0) F23 Ktake Kse m11 m14) g23 F23.kp b23
  have K__law_rules := Krl
  have Kpn := Kn.mk (x := "_law_plan") (base := base) (w := w) (P := l.prog) (ok_planL (k := 0) F27 Ktake Kst Kbt Krl m11 m8 m14) g27 F27.kp b27
  have K__law_plan := Kpn
  have Ksm := Kn.mk (x := "_law_small") (base := base) (w := w) (P := l.prog) (ok_small (k := 0) F30 Ktp Kpn) g30 F30.kp b30
  have K__law_small := Ksm
  have Kgt := Kn.mk (x := "_law_great_tops") (base := base) (w := w) (P := l.prog) (ok_gtops (k := 0) F25 Ktake Kof m11 m14) g25 F25.kp b25
  have K__law_great_tops := Kgt
  have Kgr := Kn.mk (x := "_law_great") (base := base) (w := w) (P := l.prog) (ok_great (k := 0) F31 Kgt Kpn) g31 F31.kp b31
  have K__law_great := Kgr
  exact ok_law F37 K__law_pot K__law_take K__law_small K__law_great K__law_right g36 F36.kp b36 m7 m10 m11
end K21
open PySem PySem.W PyProof.Rows
set_option maxHeartbeats 0 in
theorem PySem.Challenge.cw_notbothout_k21_ways_walked_or_not_holds : PySem.Challenge.rw_notbothout_k21_ways_walked_or_not.Holds := by
  w_on; o_law; k_head; (case hw => w_witness2)
  k_fill
  refine NB.walkG (l := PySem.Challenge.rw_notbothout_k21_ways_walked_or_not) (n := 63) (k := 11) (x := "_law_script") (sp := fun w => K21.spLaw _) rfl (by decide) rfl ⟨rfl, by decide, by decide⟩ (fun w h Y => PySem.W.kIn_of Y) ?F (fun _ _ a ns hl hS => ⟨a, ns, rfl, hS, hl, fun _ => rfl⟩)
  case F =>
    intro w mg fa h KX G hmg
    refine' K21.all_mk KX G hmg ?a1 ?l1 ?c1 ?k1 ?a2 ?l2 ?c2 ?k2 ?a3 ?l3 ?c3 ?k3 ?a4 ?l4 ?c4 ?k4 ?a5 ?l5 ?c5 ?k5 ?a6 ?l6 ?c6 ?k6 ?a7 ?l7 ?c7 ?k7 ?a8 ?l8 ?c8 ?k8 ?a9 ?l9 ?c9 ?k9 ?a10 ?l10 ?c10 ?k10 ?a11 ?l11 ?c11 ?k11 ?a12 ?l12 ?c12 ?k12 ?a13 ?l13 ?c13 ?k13 ?a14 ?l14 ?c14 ?k14 ?a15 ?l15 ?c15 ?k15 ?a16 ?l16 ?c16 ?k16 ?a17 ?l17 ?c17 ?k17 ?a18 ?l18 ?c18 ?k18 ?a19 ?l19 ?c19 ?k19 ?a20 ?l20 ?c20 ?k20 ?a21 ?l21 ?c21 ?k21 ?a22 ?l22 ?c22 ?k22 ?a23 ?l23 ?c23 ?k23 ?a24 ?l24 ?c24 ?k24 ?a25 ?l25 ?c25 ?k25 ?a26 ?l26 ?c26 ?k26 ?a27 ?l27 ?c27 ?k27 ?a28 ?l28 ?c28 ?k28 ?a29 ?l29 ?c29 ?k29 ?a30 ?l30 ?c30 ?k30 ?a31 ?l31 ?c31 ?k31 ?a32 ?l32 ?c32 ?k32 ?a33 ?l33 ?c33 ?k33 ?a34 ?l34 ?c34 ?k34 ?a35 ?l35 ?c35 ?k35 ?a36 ?l36 ?c36 ?k36 ?a37 ?l37 ?c37 ?k37 ?aC ?aI ?iI ?lI ?cI ?kI ?lT ?pg ?hd ?po ?sa ?mk ?kc ?nTo ?nRu ?v1 ?v2 ?v3 ?v4 ?v5 ?a_NoWay ?x_NoWay ?r_NoWay ?sa_NoWay ?ga_NoWay ?gg_NoWay ?nb_NoWay ?i_NoWay ?t_NoWay ?l_NoWay ?c_NoWay ?kf_NoWay ?kC_NoWay ?e_NoWay ?ty_NoWay ?hd_NoWay ?is_NoWay ?ss_NoWay ?aB_BothError ?hB_BothError ?tB_BothError ?iB_BothError ?eB_BothError ?xc1_NoWay ?xc2_NoWay ?xc3_NoWay ?xc4_NoWay ?xv_NoWay ?xs_NoWay_BothError ?aS_NoStanding ?hS_NoStanding ?tS_NoStanding ?xn_NoWay_NoStanding ?r_ne_NoWay_NoStanding ?aE ?iE ?lE ?cE ?kE ?ic1 ?ic2 ?ic3 ?ic4 ?z1 ?z2 ?z3 ?z4 ?z5 ?z6 ?z7 ?z8 ?z9 ?z10 ?z11 ?z12 ?z13 ?z14
    (case a1 => k_is)
    (case l1 => k_is)
    (case c1 => k_is)
    (case k1 => k_is)
    (case a2 => k_is)
    (case l2 => k_is)
    (case c2 => k_is)
    (case k2 => k_is)
    (case a3 => k_is)
    (case l3 => k_is)
    (case c3 => k_is)
    (case k3 => k_is)
    (case a4 => k_is)
    (case l4 => k_is)
    (case c4 => k_is)
    (case k4 => k_is)
    (case a5 => k_is)
    (case l5 => k_is)
    (case c5 => k_is)
    (case k5 => k_is)
    (case a6 => k_is)
    (case l6 => k_is)
    (case c6 => k_is)
    (case k6 => k_is)
    (case a7 => k_is)
    (case l7 => k_is)
    (case c7 => k_is)
    (case k7 => k_is)
    (case a8 => k_is)
    (case l8 => k_is)
    (case c8 => k_is)
    (case k8 => k_is)
    (case a9 => k_is)
    (case l9 => k_is)
    (case c9 => k_is)
    (case k9 => k_is)
    (case a10 => k_is)
    (case l10 => k_is)
    (case c10 => k_is)
    (case k10 => k_is)
    (case a11 => k_is)
    (case l11 => k_is)
    (case c11 => k_is)
    (case k11 => k_is)
    (case a12 => k_is)
    (case l12 => k_is)
    (case c12 => k_is)
    (case k12 => k_is)
    (case a13 => k_is)
    (case l13 => k_is)
    (case c13 => k_is)
    (case k13 => k_is)
    (case a14 => k_is)
    (case l14 => k_is)
    (case c14 => k_is)
    (case k14 => k_is)
    (case a15 => k_is)
    (case l15 => k_is)
    (case c15 => k_is)
    (case k15 => k_is)
    (case a16 => k_is)
    (case l16 => k_is)
    (case c16 => k_is)
    (case k16 => k_is)
    (case a17 => k_is)
    (case l17 => k_is)
    (case c17 => k_is)
    (case k17 => k_is)
    (case a18 => k_is)
    (case l18 => k_is)
    (case c18 => k_is)
    (case k18 => k_is)
    (case a19 => k_is)
    (case l19 => k_is)
    (case c19 => k_is)
    (case k19 => k_is)
    (case a20 => k_is)
    (case l20 => k_is)
    (case c20 => k_is)
    (case k20 => k_is)
    (case a21 => k_is)
    (case l21 => k_is)
    (case c21 => k_is)
    (case k21 => k_is)
    (case a22 => k_is)
    (case l22 => k_is)
    (case c22 => k_is)
    (case k22 => k_is)
    (case a23 => k_is)
    (case l23 => k_is)
    (case c23 => k_is)
    (case k23 => k_is)
    (case a24 => k_is)
    (case l24 => k_is)
    (case c24 => k_is)
    (case k24 => k_is)
    (case a25 => k_is)
    (case l25 => k_is)
    (case c25 => k_is)
    (case k25 => k_is)
    (case a26 => k_is)
    (case l26 => k_is)
    (case c26 => k_is)
    (case k26 => k_is)
    (case a27 => k_is)
    (case l27 => k_is)
    (case c27 => k_is)
    (case k27 => k_is)
    (case a28 => k_is)
    (case l28 => k_is)
    (case c28 => k_is)
    (case k28 => k_is)
    (case a29 => k_is)
    (case l29 => k_is)
    (case c29 => k_is)
    (case k29 => k_is)
    (case a30 => k_is)
    (case l30 => k_is)
    (case c30 => k_is)
    (case k30 => k_is)
    (case a31 => k_is)
    (case l31 => k_is)
    (case c31 => k_is)
    (case k31 => k_is)
    (case a32 => k_is)
    (case l32 => k_is)
    (case c32 => k_is)
    (case k32 => k_is)
    (case a33 => k_is)
    (case l33 => k_is)
    (case c33 => k_is)
    (case k33 => k_is)
    (case a34 => k_is)
    (case l34 => k_is)
    (case c34 => k_is)
    (case k34 => k_is)
    (case a35 => k_is)
    (case l35 => k_is)
    (case c35 => k_is)
    (case k35 => k_is)
    (case a36 => k_is)
    (case l36 => k_is)
    (case c36 => k_is)
    (case k36 => k_is)
    (case a37 => k_is)
    (case l37 => k_is)
    (case c37 => k_is)
    (case k37 => k_is)
    (case aC => k_is)
    (case aI => k_is)
    (case iI => k_is)
    (case lI => k_is)
    (case cI => k_is)
    (case kI => k_is)
    (case lT => k_is)
    (case pg => k_is)
    (case hd => k_is)
    (case po => k_is)
    (case sa => k_is)
    (case mk => k_is)
    (case kc => k_is)
    (case nTo => k_is)
    (case nRu => k_is)
    (case v1 => k_is)
    (case v2 => k_is)
    (case v3 => k_is)
    (case v4 => k_is)
    (case v5 => k_is)
    (case a_NoWay => k_is)
    (case x_NoWay => k_is)
    (case r_NoWay => first | rfl | decide +kernel)
    (case sa_NoWay => k_is)
    (case ga_NoWay => k_is)
    (case gg_NoWay => k_is)
    (case nb_NoWay => k_is)
    (case i_NoWay => k_is)
    (case t_NoWay => k_is)
    (case l_NoWay => k_is)
    (case c_NoWay => k_is)
    (case kf_NoWay => k_is)
    (case kC_NoWay => k_is)
    (case e_NoWay => k_is)
    (case ty_NoWay => k_is)
    (case hd_NoWay => k_is)
    (case is_NoWay => k_is)
    (case ss_NoWay => first | rfl | k_is)
    (case aB_BothError => k_is)
    (case hB_BothError => k_is)
    (case tB_BothError => k_is)
    (case iB_BothError => k_is)
    (case eB_BothError => k_is)
    (case xc1_NoWay => k_is)
    (case xc2_NoWay => k_is)
    (case xc3_NoWay => k_is)
    (case xc4_NoWay => k_is)
    (case xv_NoWay => k_is)
    (case xs_NoWay_BothError => k_is)
    (case aS_NoStanding => k_is)
    (case hS_NoStanding => k_is)
    (case tS_NoStanding => k_is)
    (case xn_NoWay_NoStanding => k_is)
    (case r_ne_NoWay_NoStanding => first | rfl | decide +kernel)
    (case aE => k_is)
    (case iE => k_is)
    (case lE => k_is)
    (case cE => k_is)
    (case kE => k_is)
    (case ic1 => k_is)
    (case ic2 => k_is)
    (case ic3 => k_is)
    (case ic4 => k_is)
    (case z1 => k_is)
    (case z2 => k_is)
    (case z3 => k_is)
    (case z4 => k_is)
    (case z5 => k_is)
    (case z6 => k_is)
    (case z7 => k_is)
    (case z8 => k_is)
    (case z9 => k_is)
    (case z10 => k_is)
    (case z11 => k_is)
    (case z12 => k_is)
    (case z13 => k_is)
    (case z14 => k_is)
