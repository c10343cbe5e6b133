import PyProof.Rows.All
import Wide.All
import OpenK.AllK
import Wide.FinOn
import HandS.Base
import HandS.Call
import HandS.List
import HandS.Comp
import HandS.Ends
import HandS.Dict
import HandS.Iter
import HandS.Text
import HandS.Words
import HandS.WordsList
import HandS.WordsDict
import HandS.Wide
import HandS.Zip
import HandS.Flow
import HandS.Flt
import KE.GoesMore
import KE.KDictZip
import PyProof.ReprRoads
import HandS.Walk
import PyProof.TupleOfSeq
import KE.GoesEnum
import HandS.Style
import PyProof.ReprLen
import HandS.TupAny
import HandS.Codes
import HandS.IsInst
import HandS.Defaults
import KE.KListMore
import HandS.SortOrd
import HandS.SortRule
import HandS.TupSets
import HandS.Deep
import KE.KDictPairs
import PyProof.Rows.TupDisplay
import HandS.Steps
import HandS.OwnEq
import HandS.DictComp
import HandS.DictTup
import PyProof.CollectWalk
import HandS.Conv
import HandS.Star
import PyProof.EqAt
import PyProof.NeKinds
import KE.GoesZip
import KE.GoesNew
import HandS.TryOnly
import PyProof.P3Eq
import PySem.Challenge.RW_notbothout_k19_whole_things_called_other
set_option Elab.async false
set_option linter.all false
set_option maxRecDepth 100000
/-! Defs whose callers are known to show nothing (guards empty): what repr wants. -/
namespace NB
open PySem PySem.Spec PyProof.Rows L2

/-- a def's promise, wherever nothing is being shown around it -/
structure FnG (P : Program) (w : World) (K : PySem.W.Frag) (mg : Str → Option Value) (base : Heap) (k : Nat) (f : Addr) (fd : FuncData) (ps : List Str) (sp : Sp) : Prop where
  len : ∀ vs H Q E, sp vs H Q E → vs.length = ps.length
  go : ∀ (A : Around) (out : List Env) (s : Shared) (H : Hp) (ar : Args) (us : List Value) (vs : List V) (Q : VK) (E : XK),
    A.guards = some [] → Room k A → Env0 P w K mg base A out s H → BindsTo s fd ar (ps.zip us) → Vals vs us → sp vs H Q E →
    codeAny (model P w) A (.call (.ref f) ar) (CR CX0 out P w H s Q E) s

section
variable {P : Program} {w : World} {K : PySem.W.Frag} {mg : Str → Option Value} {base : Heap}

theorem FnG.of {k : Nat} {f : Addr} {fd : FuncData} {ps : List Str} {sp : Sp} (F : FnOk P w K mg base CX0 k f fd ps sp) : FnG P w K mg base k f fd ps sp :=
  ⟨F.len, fun A out s H ar us vs Q E _ => F.run A out s H ar us vs Q E⟩

theorem fnG {x qual : Str} {st : Stmt} {f : Addr} {fd : FuncData} {N ps : List Str} {k : Nat} {sp : Sp} (F : Fun K x qual st f fd)
    (S : FnScope N ps (defScope st)) (len : ∀ vs H Q E, sp vs H Q E → vs.length = ps.length)
    (body : ∀ (c : Value) (A : Around) (out : List Env) (s : Shared) (H : Hp) (vs : List V) (Q : VK) (E : XK),
      A.guards = some [] → Room k (A.deeper (envOfC qual (defScope st) s.heap.objs.size f c)) → sp vs H Q E →
      ∃ t, PSs (cxOf CX0 P w K mg base N qual (defScope st) f c A out s H E).nox (defBody st) t ∧
        t { nx := fun _ H' => Q .non H', rt := Q } (start N vs) H) :
    FnG P w K mg base (k + 1) f fd ps sp := by
  obtain ⟨oc, od, kV, doc, pm, an, c, ct, osl, rfl, lk, hc⟩ := F.ex
  refine ⟨len, fun A out s H ar us vs Q E hg hr e hb r h => ?_⟩
  have stays : ∀ b o, base.get? b = some o → s.heap.get? b = some o := fun b o q => (e.bs b o q).1
  have inH : K.In s.heap := e.mod.kin.keeps stays
  have noLim : s.heap.NoLimit := e.mod.nolimit.keeps stays
  have kinds : ∀ y ∈ ps.zip us, (defScope st).names.lookup y.1 = some .local ∨
      ((defScope st).names.lookup y.1 = some .cell ∧ ((cellsFrom (s.heap.objs.size + 1) (defScope st).names []).lookup y.1).isSome = true) := by
    intro y hy
    obtain ⟨n, v⟩ := y
    cases S.par n (List.of_mem_zip hy).1 with
    | inl q => exact .inl q
    | inr q => exact .inr ⟨q, PySem.W.cellsFrom_some _ _ _ (.inl q)⟩
  refine codeAny_call_function hr.depth (inH _ _ lk) rfl S.co S.gen rfl (PySem.W.codeRec_of inH hc) (hb _ _ _ _ ?_)
  refine wpAny_newFunctionEnv_cells S.kind kinds ?_
  rintro env rfl s1 x
  refine ⟨noLim.keeps x.toInCall.keep, codeAny_func ?_⟩
  obtain ⟨t, ht, hq⟩ := body c A out s H vs Q E hg (hr.deeper _) h
  have I := inv_start (CX := CX0) (E := E) S hr.hd e (len _ _ _ _ h) r x
  refine wpAny_mono (ht.nox.run [] s1 (start N vs) H _ I hq) ?_ fun _ _ z => z
  intro fl s' z
  cases fl with
  | ret u =>
    obtain ⟨v, σ', H', J, rv, q⟩ := z
    exact ⟨v, H', J.os, J.bare, J.base, J.hok, rv, q⟩
  | next =>
    obtain ⟨σ', H', J, q⟩ := z
    exact ⟨V.non, H', J.os, J.bare, J.base, J.hok, rfl, q⟩
  | brk => exact False.elim z.choose_spec.choose_spec.2
  | cont => exact False.elim z.choose_spec.choose_spec.2
end

section
variable {X : Cx} {k : Nat} {f : Addr} {fd : FuncData} {ps : List Str} {sp : Sp} {x : Str} {p pos : Pos} {e : Expr} {es : List Expr} {t : TA}
/-- f(..) of such a def, all arguments written -/
theorem pe_callG (hG : X.A.guards = some []) (F : FnG X.prog X.w X.K X.mg X.base k f fd ps sp) (hr : Room k X.A) (hg : Gl X x) (hm : X.mg x = some (.ref f))
    (hk : PySem.W.keepIn X.K (.ref f) = true) (hb : Binds X.K fd ps []) (ha : PA X (e :: es) t) (hdb : (x == ("__debug__" : Str)) = false := by decide)
    (he : starEach (e :: es) X.env = (false, eval e X.env) :: starEach es X.env := by rfl) (hpl : (backTo pos (starEach es X.env)).any (·.1) = false := by rfl) :
    PE X (.Call (.Name x p) (e :: es) [] pos) (tCall sp [] E0 t) := by
  refine ⟨fun pins s σ H Q I h => wpAny_Call_Name_kw (ld_glob I hg hm ?_ hdb)⟩
  refine PySem.W.callWith_K (h₀ := X.base) I.ok.mod.kin hk (thn (ha.run pos pins s σ H _ I h) ?_) he hpl
  rintro us s1 ⟨vs, H1, I1, r, q⟩
  refine ⟨I1.kIn, wpAny_call ?_⟩
  have q2 : sp vs H1 Q E0 := by
    have q' : sp (vs ++ []) H1 Q E0 := q
    rwa [List.append_nil] at q'
  have ln : us.length = ps.length := r.length.symm.trans (F.len _ _ _ _ q2)
  have bnd : BindsTo s1 fd ⟨us, []⟩ (ps.zip us) := by
    have b := hb s1 us I1.kIn (by rw [List.append_nil]; exact ln)
    rwa [List.append_nil] at b
  refine codeAny_mono (F.go X.A X.stack s1 H1 ⟨us, []⟩ us vs Q E0 hG hr I1.env0 bnd r q2) ?_
  intro rs s' z
  cases rs with
  | error e => exact False.elim z
  | ok fl =>
    cases fl with
    | ret u => exact I1.after z
    | next => exact False.elim z
    | brk => exact False.elim z
    | cont => exact False.elim z
end

section
variable {X : Cx}
/-- what repr asks of data -/
structure Showable (d : PyData) : Prop where
  sh : d.showable = true
  nd : d.hasDict = false
  dp : d.depth ≤ 60
  sz : d.shown.length ≤ sizeLine
/-- repr(x), x a list or a tuple of data -/
theorem call_reprD (hG : X.A.guards = some []) (hu : X.A.units + 64 < cLine) : CallR X (.builtin "repr") (fun xs H Q => ∃ a d, xs = [.ref a] ∧ Dp X.K H (.ref a) d ∧ Showable d ∧ Q (.str d.shown) H) := by
  intro pins s σ H xs us Q I r h
  obtain ⟨a, d, rfl, hd, S, q⟩ := h
  obtain ⟨u, rfl, ru⟩ := vals1 r
  obtain ⟨as, rd⟩ := Dp.reads I d _ u hd ru
  cases ru
  have hn := S.dp
  exact repr_of_reads' rd S.sh (PyData.noDict_hsm S.nd) hG (by omega) (fun _ _ z => z) (fun h' u tk hk => ⟨.str _, H, I.kept hk, ⟨_, rfl⟩, q⟩) S.sz
end
end NB

set_option Elab.async false
set_option linter.all false
set_option maxRecDepth 100000
set_option maxHeartbeats 1000000
/-! zip of three tuples of one length, its turns given to one name or to three. -/
namespace NB
open PySem PySem.Spec PyProof.Rows L2
open PySem.Sem (wp)

/-- a zip as it stands between two turns: a is None or the tuple given out last -/
abbrev Zat (h : Heap) (z ti to : Addr) (a b : Value) : Prop :=
  h.get? z = some { cls := .type "zip", dict := none, data := .fields #[a, b, .bool false, .ref ti, .ref to], slots := #[] }
def Out (a : Value) : Prop := a = .none ∨ ∃ T : Addr, a = rawInt T

section
variable {prog : Program} {w : World} {A : Around} {E : Value → Shared → Prop} {s : Shared} {z ti to i1 i2 i3 l1 l2 l3 : Addr} {a a1 a2 a3 : Value} {f : Bool} {xs ys zs : Array Value} {i : Nat}

theorem freeOr {Q : Bool → Shared → Prop} (ho : Out a) (hz : Zat s.heap z ti to a (.bool f))
    (h : ∀ (b : Bool) (h' : Heap) (g : Bool), Zat h' z ti to a (.bool g) → Heap.SameBut z s.heap h' → Q b { s with heap := h' }) :
    wpAny (model prog w) A (Builtin.SmallTypes.ownedTupleIsFree (.ref z)) Q E s := by
  unfold Builtin.SmallTypes.ownedTupleIsFree
  refine wpAny_bind (wpAny_field hz rfl (x := a) rfl ?_)
  rcases ho with e | ⟨T, e⟩
  · subst e
    exact wpAny_pure (h true s.heap f hz (Heap.SameBut.refl _ _))
  · subst e
    show wpAny _ _ (loadIfAlive ((T : Int).toNat) >>= _) _ _ _
    rw [Int.toNat_natCast]
    refine wpAny_bind ?_
    cases e : s.heap.get? T with
    | none =>
      have key : wpAny (model prog w) A (loadIfAlive T) (fun r s' => r = none ∧ s' = s) E s := fun _ _ _ => ⟨e, rfl⟩
      refine thn key fun r s' q => ?_
      obtain ⟨rfl, rfl⟩ := q
      exact wpAny_pure (h true _ f hz (Heap.SameBut.refl _ _))
    | some o =>
      refine PySem.W.kdx_alive e ?_
      simp only [Option.isNone_some, Bool.false_eq_true, if_false]
      refine wpAny_bind (wpAny_field hz rfl (x := .bool f) rfl ?_)
      cases f with
      | true =>
        rw [if_neg (show ¬ ((Value.bool true != Value.bool true) = true) by decide)]
        exact wpAny_pure (h false s.heap true hz (Heap.SameBut.refl _ _))
      | false =>
        rw [if_pos (show (Value.bool false != Value.bool true) = true by decide)]
        exact wpAny_bind (wpAny_setField_rec hz (by simp) fun h1 z1 s1 => wpAny_pure (h false h1 true z1 s1))

/-- the three iterators over their tuples at turn i, apart from the zip's own cells -/
abbrev St3 (h : Heap) (i1 i2 i3 l1 l2 l3 : Addr) (xs ys zs : Array Value) (i : Nat) : Prop :=
  (h.IsTupleIter i1 l1 i ∧ h.IsTuple l1 xs) ∧ (h.IsTupleIter i2 l2 i ∧ h.IsTuple l2 ys) ∧ (h.IsTupleIter i3 l3 i ∧ h.IsTuple l3 zs)

theorem keepIt {h h' : Heap} {it l : Addr} {k : Nat} {vs : Array Value} (st : h.IsTupleIter it l k ∧ h.IsTuple l vs) {x : Addr} (hs : Heap.SameBut x h h') (n1 : it ≠ x) (n2 : l ≠ x) : h'.IsTupleIter it l k ∧ h'.IsTuple l vs :=
  ⟨st.1.extBut hs.extBut n1, st.2.extBut hs.extBut n2⟩

structure Far3 (z ti to i1 i2 i3 l1 l2 l3 : Addr) : Prop where
  tiz : ti ≠ z
  toz : to ≠ z
  tito : ti ≠ to
  ti1 : ti ≠ i1
  ti2 : ti ≠ i2
  ti3 : ti ≠ i3
  to1 : to ≠ i1
  to2 : to ≠ i2
  to3 : to ≠ i3
  z1 : i1 ≠ z
  z2 : i2 ≠ z
  z3 : i3 ≠ z
  n12 : i1 ≠ i2
  n13 : i1 ≠ i3
  n23 : i2 ≠ i3
  l1n : l1 ≠ z ∧ l1 ≠ to ∧ l1 ≠ i1 ∧ l1 ≠ i2 ∧ l1 ≠ i3
  l2n : l2 ≠ z ∧ l2 ≠ to ∧ l2 ≠ i1 ∧ l2 ≠ i2 ∧ l2 ≠ i3
  l3n : l3 ≠ z ∧ l3 ≠ to ∧ l3 ≠ i1 ∧ l3 ≠ i2 ∧ l3 ≠ i3

theorem drawT {it l : Addr} {k : Nat} {vs : Array Value} {x : Value} {Q : Value → Shared → Prop} (st : s.heap.IsTupleIter it l k ∧ s.heap.IsTuple l vs) (ne : l ≠ it) (hx : vs[k]? = some x)
    (h : ∀ h', (h'.IsTupleIter it l (k + 1) ∧ h'.IsTuple l vs) → Heap.SameBut it s.heap h' → Q x { s with heap := h' }) :
    wpAny (model prog w) A (Builtin.SmallTypes.nextOf (.ref it)) Q E s :=
  RZ.nextOf_tuple_item st.1 st.2 hx fun h' q1 q2 => h h' ⟨q1, st.2.extBut q2.extBut ne⟩ q2

theorem next3 {x1 x2 x3 : Value} {Q : Value → Shared → Prop} (D : Far3 z ti to i1 i2 i3 l1 l2 l3) (ho : Out a) (hz : Zat s.heap z ti to a (.bool f))
    (hI : IsTupOf3 s.heap ti (.ref i1) (.ref i2) (.ref i3)) (hO : IsTupOf3 s.heap to a1 a2 a3) (st : St3 s.heap i1 i2 i3 l1 l2 l3 xs ys zs i)
    (hx : xs[i]? = some x1) (hy : ys[i]? = some x2) (hw : zs[i]? = some x3)
    (hQ : ∀ (h' : Heap) (a' : Value) (g : Bool) (b1 b2 b3 : Value), Out a' → Zat h' z ti to a' (.bool g) → IsTupOf3 h' to b1 b2 b3 → St3 h' i1 i2 i3 l1 l2 l3 xs ys zs (i + 1) → IsTupOf3 h' s.heap.objs.size x1 x2 x3 → h'.objs.size = s.heap.objs.size + 1 →
      (∀ c o, c ≠ z → c ≠ to → c ≠ i1 → c ≠ i2 → c ≠ i3 → s.heap.get? c = some o → h'.get? c = some o) → Q (.ref s.heap.objs.size) { s with heap := h' }) :
    wpAny (model prog w) A (Builtin.«zip.__next__» ⟨[.ref z], []⟩) (fun fin s' => ∃ v, fin = .done (.ret v) ∧ Q v s') E s := by
  obtain ⟨hp, gg, dd, tk, os⟩ := s
  show wpAny _ _ (field (.ref z) 2 >>= _) _ _ _
  refine wpAny_bind (wpAny_field hz rfl (x := .bool false) rfl ?_)
  show wpAny _ _ (field (.ref z) 3 >>= _) _ _ _
  refine wpAny_bind (wpAny_field hz rfl (x := .ref ti) rfl ?_)
  refine wpAny_bind (wpAny_seqItems hI rfl ?_)
  show wpAny _ _ (Builtin.SmallTypes.ownedTupleIsFree (.ref z) >>= _) _ _ _
  refine wpAny_bind (freeOr ho hz fun b h1 f1 hz1 hs1 => ?_)
  replace hs1 : Heap.SameBut z hp h1 := hs1
  obtain ⟨sa, sb, sc⟩ := st
  have sa1 := keepIt sa hs1 D.z1 D.l1n.1
  have sb1 := keepIt sb hs1 D.z2 D.l2n.1
  have sc1 := keepIt sc hs1 D.z3 D.l3n.1
  have hO1 : IsTupOf3 h1 to a1 a2 a3 := hs1.extBut _ _ D.toz hO
  cases b with
  | false =>
    simp only [Bool.false_eq_true, if_false]
    refine wpAny_bind ?_
    rw [← Array.forIn_toList]
    simp only [List.forIn_cons, List.forIn_nil]
    refine wpAny_bind (wpAny_bind (wpAny_holding ?_))
    show wpAny _ _ (Builtin.SmallTypes.nextOf (.ref i1) >>= _) _ _ ⟨h1, gg, dd, tk, os⟩
    refine wpAny_bind (drawT (s := ⟨h1, gg, dd, tk, os⟩) sa1 D.l1n.2.2.1 hx fun h2 sa2 hs2 => wpAny_pure (wpAny_pure ?_))
    replace hs2 : Heap.SameBut i1 h1 h2 := hs2
    have sb2 := keepIt sb1 hs2 D.n12.symm D.l2n.2.2.1
    have sc2 := keepIt sc1 hs2 D.n13.symm D.l3n.2.2.1
    refine wpAny_bind (wpAny_bind (wpAny_holding ?_))
    show wpAny _ _ (Builtin.SmallTypes.nextOf (.ref i2) >>= _) _ _ ⟨h2, gg, dd, tk, os⟩
    refine wpAny_bind (drawT (s := ⟨h2, gg, dd, tk, os⟩) sb2 D.l2n.2.2.2.1 hy fun h3 sb3 hs3 => wpAny_pure (wpAny_pure ?_))
    replace hs3 : Heap.SameBut i2 h2 h3 := hs3
    have sa3 := keepIt sa2 hs3 D.n12 D.l1n.2.2.2.1
    have sc3 := keepIt sc2 hs3 D.n23.symm D.l3n.2.2.2.1
    refine wpAny_bind (wpAny_bind (wpAny_holding ?_))
    show wpAny _ _ (Builtin.SmallTypes.nextOf (.ref i3) >>= _) _ _ ⟨h3, gg, dd, tk, os⟩
    refine wpAny_bind (drawT (s := ⟨h3, gg, dd, tk, os⟩) sc3 D.l3n.2.2.2.2 hw fun h4 sc4 hs4 => wpAny_pure (wpAny_pure (wpAny_pure ?_)))
    replace hs4 : Heap.SameBut i3 h3 h4 := hs4
    have sa4 := keepIt sa3 hs4 D.n13 D.l1n.2.2.2.2
    have sb4 := keepIt sb3 hs4 D.n23 D.l2n.2.2.2.2
    show wpAny _ _ (newTuple [x1, x2, x3] >>= _) _ _ ⟨h4, gg, dd, tk, os⟩
    refine wpAny_bind (wpAny_newTuple (wpAny_pure ⟨_, rfl, ?_⟩))
    have sz : h4.objs.size = hp.objs.size := by rw [hs4.1, hs3.1, hs2.1, hs1.1]
    have kk : ∀ c o, c ≠ z → c ≠ i1 → c ≠ i2 → c ≠ i3 → hp.get? c = some o → h4.get? c = some o := fun c o c0 c1 c2 c3 e =>
      hs4.extBut _ _ c3 (hs3.extBut _ _ c2 (hs2.extBut _ _ c1 (hs1.extBut _ _ c0 e)))
    have hz4 : Zat h4 z ti to a (.bool f1) := hs4.extBut _ _ D.z3.symm (hs3.extBut _ _ D.z2.symm (hs2.extBut _ _ D.z1.symm hz1))
    have hO4 : IsTupOf3 h4 to a1 a2 a3 := kk _ _ D.toz D.to1 D.to2 D.to3 hO
    have up : ∀ c o, h4.get? c = some o → (h4.push { cls := .type "tuple", data := .seq #[x1, x2, x3] }).get? c = some o := fun c o e => Heap.get?_push_of_some _ e
    have nw : IsTupOf3 (h4.push { cls := .type "tuple", data := .seq #[x1, x2, x3] }) h4.objs.size x1 x2 x3 := Heap.get?_push_size _ rfl
    have zw : (h4.push { cls := .type "tuple", data := .seq #[x1, x2, x3] }).objs.size = h4.objs.size + 1 := Heap.size_push ..
    show Q (.ref h4.objs.size) _
    rw [sz] at nw zw ⊢
    exact hQ _ a f1 a1 a2 a3 ho (up _ _ hz4) (up _ _ hO4)
      ⟨⟨sa4.1.at fun o e => up _ o e, sa4.2.push _⟩, ⟨sb4.1.at fun o e => up _ o e, sb4.2.push _⟩, ⟨sc4.1.at fun o e => up _ o e, sc4.2.push _⟩⟩ nw zw
      fun c o c0 _ c1 c2 c3 e => up c o (kk c o c0 c1 c2 c3 e)
  | true =>
    simp only [if_true]
    refine wpAny_bind (wpAny_rule ?_)
    refine wpAny_bind (wpAny_field (s := ⟨h1, gg, dd, tk, os⟩) hz1 rfl (x := .ref to) rfl ?_)
    refine wpAny_bind (wpAny_setField_rec (s := ⟨h1, gg, dd, tk, os⟩) hz1 (by simp) fun g0 z0 s0 => ?_)
    replace z0 : Zat g0 z ti to .ellipsis (.bool f1) := z0
    replace s0 : Heap.SameBut z h1 g0 := s0
    have ta0 := keepIt sa1 s0 D.z1 D.l1n.1
    have tb0 := keepIt sb1 s0 D.z2 D.l2n.1
    have tc0 := keepIt sc1 s0 D.z3 D.l3n.1
    have o0 : IsTupOf3 g0 to a1 a2 a3 := s0.extBut _ _ D.toz hO1
    refine wpAny_bind ?_
    simp only [List.zipIdx_cons, List.zipIdx_nil, List.forIn_cons, List.forIn_nil]
    refine wpAny_bind (wpAny_bind (wpAny_onRaise ?_))
    show wpAny _ _ (Builtin.SmallTypes.nextOf (.ref i1) >>= _) _ _ ⟨g0, gg, dd, tk, os⟩
    refine wpAny_bind (drawT (s := ⟨g0, gg, dd, tk, os⟩) ta0 D.l1n.2.2.1 hx fun p1 ta1 s1 => wpAny_pure ?_)
    replace s1 : Heap.SameBut i1 g0 p1 := s1
    have o1 : IsTupOf3 p1 to a1 a2 a3 := s1.extBut _ _ D.to1 o0
    refine wpAny_bind (wpAny_seqItems (s := ⟨p1, gg, dd, tk, os⟩) o1 rfl ?_)
    refine wpAny_bind (updateSeq_IsTupOf3 (s := ⟨p1, gg, dd, tk, os⟩) o1 fun q1 u1 r1 => wpAny_bind (wpAny_letGo (wpAny_pure ?_)))
    replace u1 : IsTupOf3 q1 to x1 a2 a3 := u1
    replace r1 : Heap.SameBut to p1 q1 := r1
    have ta2 := keepIt ta1 r1 D.to1.symm D.l1n.2.1
    have tb2 := keepIt (keepIt tb0 s1 D.n12.symm D.l2n.2.2.1) r1 D.to2.symm D.l2n.2.1
    have tc2 := keepIt (keepIt tc0 s1 D.n13.symm D.l3n.2.2.1) r1 D.to3.symm D.l3n.2.1
    refine wpAny_bind (wpAny_bind (wpAny_onRaise ?_))
    show wpAny _ _ (Builtin.SmallTypes.nextOf (.ref i2) >>= _) _ _ ⟨q1, gg, dd, tk, os⟩
    refine wpAny_bind (drawT (s := ⟨q1, gg, dd, tk, os⟩) tb2 D.l2n.2.2.2.1 hy fun p2 tb3 s2 => wpAny_pure ?_)
    replace s2 : Heap.SameBut i2 q1 p2 := s2
    have o2 : IsTupOf3 p2 to x1 a2 a3 := s2.extBut _ _ D.to2 u1
    refine wpAny_bind (wpAny_seqItems (s := ⟨p2, gg, dd, tk, os⟩) o2 rfl ?_)
    refine wpAny_bind (updateSeq_IsTupOf3 (s := ⟨p2, gg, dd, tk, os⟩) o2 fun q2 u2 r2 => wpAny_bind (wpAny_letGo (wpAny_pure ?_)))
    replace u2 : IsTupOf3 q2 to x1 x2 a3 := u2
    replace r2 : Heap.SameBut to p2 q2 := r2
    have ta4 := keepIt (keepIt ta2 s2 D.n12 D.l1n.2.2.2.1) r2 D.to1.symm D.l1n.2.1
    have tb4 := keepIt tb3 r2 D.to2.symm D.l2n.2.1
    have tc4 := keepIt (keepIt tc2 s2 D.n23.symm D.l3n.2.2.2.1) r2 D.to3.symm D.l3n.2.1
    refine wpAny_bind (wpAny_bind (wpAny_onRaise ?_))
    show wpAny _ _ (Builtin.SmallTypes.nextOf (.ref i3) >>= _) _ _ ⟨q2, gg, dd, tk, os⟩
    refine wpAny_bind (drawT (s := ⟨q2, gg, dd, tk, os⟩) tc4 D.l3n.2.2.2.2 hw fun p3 tc5 s3 => wpAny_pure ?_)
    replace s3 : Heap.SameBut i3 q2 p3 := s3
    have o3 : IsTupOf3 p3 to x1 x2 a3 := s3.extBut _ _ D.to3 u2
    refine wpAny_bind (wpAny_seqItems (s := ⟨p3, gg, dd, tk, os⟩) o3 rfl ?_)
    refine wpAny_bind (updateSeq_IsTupOf3 (s := ⟨p3, gg, dd, tk, os⟩) o3 fun q3 u3 r3 => wpAny_bind (wpAny_letGo (wpAny_pure (wpAny_pure ?_))))
    replace u3 : IsTupOf3 q3 to x1 x2 x3 := u3
    replace r3 : Heap.SameBut to p3 q3 := r3
    have ta6 := keepIt (keepIt ta4 s3 D.n13 D.l1n.2.2.2.2) r3 D.to1.symm D.l1n.2.1
    have tb6 := keepIt (keepIt tb4 s3 D.n23 D.l2n.2.2.2.2) r3 D.to2.symm D.l2n.2.1
    have tc6 := keepIt tc5 r3 D.to3.symm D.l3n.2.1
    refine wpAny_bind (wpAny_seqItems (s := ⟨q3, gg, dd, tk, os⟩) u3 rfl (wpAny_bind (wpAny_newTuple ?_)))
    have sz : q3.objs.size = hp.objs.size := by rw [r3.1, s3.1, r2.1, s2.1, r1.1, s1.1, s0.1, hs1.1]
    have hz3 : Zat q3 z ti to .ellipsis (.bool f1) := r3.extBut _ _ D.toz.symm (s3.extBut _ _ D.z3.symm (r2.extBut _ _ D.toz.symm (s2.extBut _ _ D.z2.symm (r1.extBut _ _ D.toz.symm (s1.extBut _ _ D.z1.symm z0)))))
    have kk : ∀ c o, c ≠ z → c ≠ to → c ≠ i1 → c ≠ i2 → c ≠ i3 → hp.get? c = some o → q3.get? c = some o := fun c o c0 ct c1 c2 c3 e =>
      r3.extBut _ _ ct (s3.extBut _ _ c3 (r2.extBut _ _ ct (s2.extBut _ _ c2 (r1.extBut _ _ ct (s1.extBut _ _ c1 (s0.extBut _ _ c0 (hs1.extBut _ _ c0 e)))))))
    have zlt : z < q3.objs.size := Heap.lt_size hz3
    show wpAny _ _ (Builtin.SmallTypes.ownedTupleHandOut (.ref z) (.ref q3.objs.size) >>= _) _ _ ⟨q3.push { cls := .type "tuple", data := .seq #[x1, x2, x3] }, gg, dd, tk, os⟩
    refine wpAny_bind ?_
    unfold Builtin.SmallTypes.ownedTupleHandOut
    have z5 : Zat (q3.push { cls := .type "tuple", data := .seq #[x1, x2, x3] }) z ti to .ellipsis (.bool f1) := Heap.get?_push_of_some _ hz3
    refine wpAny_bind (wpAny_setField_rec z5 (by simp) fun h7 z7 s7 => ?_)
    replace z7 : Zat h7 z ti to (rawInt q3.objs.size) (.bool f1) := z7
    replace s7 : Heap.SameBut z (q3.push { cls := .type "tuple", data := .seq #[x1, x2, x3] }) h7 := s7
    refine wpAny_setField_rec z7 (by simp) fun h8 z8 s8 => ?_
    replace z8 : Zat h8 z ti to (rawInt q3.objs.size) (.bool false) := z8
    replace s8 : Heap.SameBut z h7 h8 := s8
    have up : ∀ c o, c ≠ z → q3.get? c = some o → h8.get? c = some o := fun c o c1 e => s8.extBut _ _ c1 (s7.extBut _ _ c1 (Heap.get?_push_of_some _ e))
    have nw : IsTupOf3 h8 q3.objs.size x1 x2 x3 := s8.extBut _ _ (Nat.ne_of_gt zlt) (s7.extBut _ _ (Nat.ne_of_gt zlt) (Heap.get?_push_size _ rfl))
    have zw : h8.objs.size = q3.objs.size + 1 := by rw [s8.1, s7.1, Heap.size_push]
    have fin : ∀ {it l : Addr} {k : Nat} {vs : Array Value}, (q3.IsTupleIter it l k ∧ q3.IsTuple l vs) → it ≠ z → l ≠ z → h8.IsTupleIter it l k ∧ h8.IsTuple l vs := fun {it l k vs} st n1 n2 =>
      keepIt (keepIt ⟨st.1.at fun o e => Heap.get?_push_of_some _ e, st.2.push _⟩ s7 n1 n2) s8 n1 n2
    refine wpAny_pure ⟨_, rfl, ?_⟩
    show Q (.ref q3.objs.size) _
    rw [sz] at nw zw z8 ⊢
    exact hQ h8 _ false x1 x2 x3 (.inr ⟨_, rfl⟩) z8 (up _ _ D.toz u3) ⟨fin ta6 D.z1 D.l1n.1, fin tb6 D.z2 D.l2n.1, fin tc6 D.z3 D.l3n.1⟩ nw zw
      fun c o c0 ct c1 c2 c3 e => up c o c0 (kk c o c0 ct c1 c2 c3 e)

theorem end3 {Q : Fin → Shared → Prop} (hh : A.handled = none) (D : Far3 z ti to i1 i2 i3 l1 l2 l3) (ho : Out a) (hz : Zat s.heap z ti to a (.bool f))
    (hI : IsTupOf3 s.heap ti (.ref i1) (.ref i2) (.ref i3)) (st : s.heap.IsTupleIter i1 l1 i ∧ s.heap.IsTuple l1 xs) (hx : xs[i]? = none)
    (hE : ∀ h' e, (∀ c o, c ≠ z → c ≠ to → c ≠ i1 → c ≠ i2 → c ≠ i3 → s.heap.get? c = some o → h'.get? c = some o) → (∃ o, h'.get? e = some o ∧ o.cls = .type "StopIteration") → E (.ref e) { s with heap := h' }) :
    wpAny (model prog w) A (Builtin.«zip.__next__» ⟨[.ref z], []⟩) Q E s := by
  obtain ⟨hp, gg, dd, tk, os⟩ := s
  show wpAny _ _ (field (.ref z) 2 >>= _) _ _ _
  refine wpAny_bind (wpAny_field hz rfl (x := .bool false) rfl ?_)
  show wpAny _ _ (field (.ref z) 3 >>= _) _ _ _
  refine wpAny_bind (wpAny_field hz rfl (x := .ref ti) rfl ?_)
  refine wpAny_bind (wpAny_seqItems hI rfl ?_)
  show wpAny _ _ (Builtin.SmallTypes.ownedTupleIsFree (.ref z) >>= _) _ _ _
  refine wpAny_bind (freeOr ho hz fun b h1 f1 hz1 hs1 => ?_)
  replace hs1 : Heap.SameBut z hp h1 := hs1
  have sa1 := keepIt st hs1 D.z1 D.l1n.1
  cases b with
  | false =>
    simp only [Bool.false_eq_true, if_false]
    refine wpAny_bind ?_
    rw [← Array.forIn_toList]
    simp only [List.forIn_cons, List.forIn_nil]
    refine wpAny_bind (wpAny_bind (wpAny_holding ?_))
    show wpAny _ _ (Builtin.SmallTypes.nextOf (.ref i1) >>= _) _ _ ⟨h1, gg, dd, tk, os⟩
    refine wpAny_bind (RZ.nextOf_tuple_end (s := ⟨h1, gg, dd, tk, os⟩) hh sa1.1 sa1.2 hx fun h2 e hs2 he => ?_)
    exact hE h2 e (fun c o c0 _ c1 _ _ q => hs2 _ _ c1 (hs1.extBut _ _ c0 q)) he
  | true =>
    simp only [if_true]
    refine wpAny_bind (wpAny_rule ?_)
    refine wpAny_bind (wpAny_field (s := ⟨h1, gg, dd, tk, os⟩) hz1 rfl (x := .ref to) rfl ?_)
    refine wpAny_bind (wpAny_setField_rec (s := ⟨h1, gg, dd, tk, os⟩) hz1 (by simp) fun g0 z0 s0 => ?_)
    replace z0 : Zat g0 z ti to .ellipsis (.bool f1) := z0
    replace s0 : Heap.SameBut z h1 g0 := s0
    have ta0 := keepIt sa1 s0 D.z1 D.l1n.1
    refine wpAny_bind ?_
    simp only [List.zipIdx_cons, List.zipIdx_nil, List.forIn_cons, List.forIn_nil]
    refine wpAny_bind (wpAny_bind (wpAny_onRaise ?_))
    show wpAny _ _ (Builtin.SmallTypes.nextOf (.ref i1) >>= _) _ _ ⟨g0, gg, dd, tk, os⟩
    refine wpAny_bind (RZ.nextOf_tuple_end (s := ⟨g0, gg, dd, tk, os⟩) hh ta0.1 ta0.2 hx fun h2 e hs2 he => ?_)
    obtain ⟨oe, hoe, hce⟩ := he
    replace hs2 : Heap.ExtBut i1 g0 h2 := hs2
    replace hoe : h2.get? e = some oe := hoe
    have z2 : Zat h2 z ti to .ellipsis (.bool f1) := hs2 _ _ D.z1.symm z0
    have ne : e ≠ z := fun q => by subst q; rw [z2] at hoe; cases hoe; simp at hce
    refine wpAny_setField_rec (s := ⟨h2, gg, dd, tk, os⟩) z2 (by simp) fun h3 _ s3 => ?_
    replace s3 : Heap.SameBut z h2 h3 := s3
    exact hE h3 e (fun c o c0 _ c1 _ _ q => s3.extBut _ _ c0 (hs2 _ _ c1 (s0.extBut _ _ c0 (hs1.extBut _ _ c0 q)))) ⟨oe, s3.extBut _ _ ne hoe, hce⟩
end
end NB

set_option Elab.async false
set_option linter.all false
set_option maxRecDepth 100000
set_option maxHeartbeats 1000000
namespace NB
open PySem PySem.Spec PyProof.Rows L2

section
variable {prog : Program} {w : World} {A : Around} {E : Value → Shared → Prop} {s : Shared} {z ti to i1 i2 i3 l1 l2 l3 : Addr} {a a1 a2 a3 : Value} {f : Bool} {xs ys zs : Array Value} {i : Nat}

theorem pyNext3 {x1 x2 x3 : Value} {Q : Option Value → Shared → Prop} (D : Far3 z ti to i1 i2 i3 l1 l2 l3) (ho : Out a) (hz : Zat s.heap z ti to a (.bool f))
    (hI : IsTupOf3 s.heap ti (.ref i1) (.ref i2) (.ref i3)) (hO : IsTupOf3 s.heap to a1 a2 a3) (st : St3 s.heap i1 i2 i3 l1 l2 l3 xs ys zs i)
    (hx : xs[i]? = some x1) (hy : ys[i]? = some x2) (hw : zs[i]? = some x3)
    (hQ : ∀ (h' : Heap) (a' : Value) (g : Bool) (b1 b2 b3 : Value), Out a' → Zat h' z ti to a' (.bool g) → IsTupOf3 h' to b1 b2 b3 → St3 h' i1 i2 i3 l1 l2 l3 xs ys zs (i + 1) → IsTupOf3 h' s.heap.objs.size x1 x2 x3 → h'.objs.size = s.heap.objs.size + 1 →
      (∀ c o, c ≠ z → c ≠ to → c ≠ i1 → c ≠ i2 → c ≠ i3 → s.heap.get? c = some o → h'.get? c = some o) → Q (some (.ref s.heap.objs.size)) { s with heap := h' }) :
    wpAny (model prog w) A (pyNext (.ref z)) Q E s := by
  have ty : s.TypeIs (.ref z) "zip" := ⟨_, hz, rfl⟩
  unfold pyNext
  refine wpAny_bind (wpAny_attempt (wpAny_callSpecial?_slot (name := Str.ofString "__next__") ty F.slot_zip_next ?_))
  refine wpAny_call_entry F.slot_zip_next ty F.entry_zip_next ?_ (F.args_zip_next_1 _)
  exact next3 D ho hz hI hO st hx hy hw fun h' a' g b1 b2 b3 c1 c2 c3 c4 c5 c6 c7 => wpAny_pure (hQ h' a' g b1 b2 b3 c1 c2 c3 c4 c5 c6 c7)

theorem pyEnd3 {Q : Option Value → Shared → Prop} (hh : A.handled = none) (D : Far3 z ti to i1 i2 i3 l1 l2 l3) (ho : Out a) (hz : Zat s.heap z ti to a (.bool f))
    (hI : IsTupOf3 s.heap ti (.ref i1) (.ref i2) (.ref i3)) (st : s.heap.IsTupleIter i1 l1 i ∧ s.heap.IsTuple l1 xs) (hx : xs[i]? = none)
    (hQ : ∀ h', (∀ c o, c ≠ z → c ≠ to → c ≠ i1 → c ≠ i2 → c ≠ i3 → s.heap.get? c = some o → h'.get? c = some o) → Q none { s with heap := h' }) :
    wpAny (model prog w) A (pyNext (.ref z)) Q E s := by
  have ty : s.TypeIs (.ref z) "zip" := ⟨_, hz, rfl⟩
  unfold pyNext
  refine wpAny_bind (wpAny_attempt (wpAny_callSpecial?_slot (name := Str.ofString "__next__") ty F.slot_zip_next ?_))
  refine wpAny_call_entry F.slot_zip_next ty F.entry_zip_next (end3 hh D ho hz hI st hx fun h' e hk he => ?_) (F.args_zip_next_1 _)
  obtain ⟨o, h1, h2⟩ := he
  exact wpAny_bind (wpAny_isInstance (T := "StopIteration") (b := true) ⟨o, h1, h2⟩ isSubtype_stop (wpAny_pure (hQ _ hk)))

/-- ahead of the target's store: a target of several names lets the tuple go -/
theorem letGo3 {tg : Expr} {T : Addr} {Q : Unit → Shared → Prop} (ho : Out a) (hz : Zat s.heap z ti to a (.bool f))
    (h : ∀ (h' : Heap) (a' : Value), Out a' → Zat h' z ti to a' (.bool f) → Heap.SameBut z s.heap h' → Q () { s with heap := h' }) :
    wpAny (model prog w) A (letOwnedTupleGo tg (.ref z) (.ref T)) Q E s := by
  have same : Q () s := h s.heap a ho hz (Heap.SameBut.refl _ _)
  have main : wpAny (model prog w) A (do
      let o ← load z
      match o.cls, o.data with
      | .type n, .fields vs =>
        if ["enumerate", "zip", "dict_itemiterator", "dict_reverseitemiterator", "odict_iterator", "itertools.zip_longest", "itertools.pairwise"].contains n && vs[0]? == some (rawInt T) then
          rule "for.unpacks-the-owned-tuple"
          updateField z 0 .none
      | _, _ => pure ()) Q E s := by
    refine wpAny_bind (wpAny_load hz ?_)
    dsimp only
    split
    · refine wpAny_bind (wpAny_rule ?_)
      show wpAny _ _ (setField (.ref z) 0 .none) Q E s
      exact wpAny_setField_rec hz (by simp) fun h' z' s' => h h' .none (.inl rfl) z' s'
    · exact wpAny_pure same
  unfold letOwnedTupleGo
  cases tg <;> first
    | exact wpAny_pure same
    | exact main

theorem iter3 {Q : Value → Shared → Prop} (hz : Zat s.heap z ti to a (.bool f)) (h : Q (.ref z) s) : wpAny (model prog w) A (pyIter (.ref z)) Q E s := by
  have ty : s.TypeIs (.ref z) "zip" := ⟨_, hz, rfl⟩
  refine wpAny_pyIter_slot ty F.slot_zip_iter (wpAny_call_entry F.slot_zip_iter ty F.entry_zip_iter ?_ (F.args_zip_iter_1 _))
  show wpAny _ _ (ret (.ref z)) _ _ s
  exact wpAny_pure ⟨_, rfl, "zip", _, ty, F.slot_zip_next.lookup, h⟩
end

/-- three tuples of one length, turn by turn: a new tuple of the three items -/
def It3 (K : PySem.W.Frag) (a b c : Addr) : It :=
  ⟨fun i H => ∃ (xs ys zs : List V) (x y z : V), SqT K H a xs ∧ SqT K H b ys ∧ SqT K H c zs ∧ xs[i]? = some x ∧ ys[i]? = some y ∧ zs[i]? = some z,
    fun i H v H' => ∃ T x y z, v = .ref T ∧ H T = none ∧ H' = upd H T (.tup [x, y, z]) ∧ (∀ xs, SqT K H a xs → xs[i]? = some x) ∧ (∀ ys, SqT K H b ys → ys[i]? = some y) ∧ ∀ zs, SqT K H c zs → zs[i]? = some z,
    fun i H => ∃ xs : List V, SqT K H a xs ∧ xs.length ≤ i⟩

theorem turn3 {P : Program} {w : World} {K : PySem.W.Frag} {tg : Expr} {a b c z ti to i1 i2 i3 : Addr} (D : Far3 z ti to i1 i2 i3 a b c) :
    Turn P w K tg (It3 K a b c) [z, ti, to, i1, i2, i3] z (fun i h => (∃ v f, Out v ∧ Zat h z ti to v (.bool f)) ∧ IsTupOf3 h ti (.ref i1) (.ref i2) (.ref i3) ∧ (∃ b1 b2 b3, IsTupOf3 h to b1 b2 b3) ∧
      h.IsTupleIter i1 a i ∧ h.IsTupleIter i2 b i ∧ h.IsTupleIter i3 c i) where
  mem := by simp
  obj := fun i h st q hq => by
    obtain ⟨⟨v, f, _, hz⟩, hI, ⟨b1, b2, b3, hO⟩, ⟨o1, e1, _, d1⟩, ⟨o2, e2, _, d2⟩, ⟨o3, e3, _, d3⟩⟩ := st
    have e' : q = z ∨ q = ti ∨ q = to ∨ q = i1 ∨ q = i2 ∨ q = i3 := by simpa using hq
    rcases e' with r | r | r | r | r | r
    · rw [r]; exact ⟨_, hz, fun v q => nomatch q⟩
    · rw [r]; exact ⟨_, hI, fun v q => nomatch q⟩
    · rw [r]; exact ⟨_, hO, fun v q => nomatch q⟩
    · rw [r]; exact ⟨o1, e1, fun v q => by rw [d1] at q; cases q⟩
    · rw [r]; exact ⟨o2, e2, fun v q => by rw [d2] at q; cases q⟩
    · rw [r]; exact ⟨o3, e3, fun v q => by rw [d3] at q; cases q⟩
  keep := fun i h h' st k => by
    obtain ⟨⟨v, f, ho, hz⟩, hI, ⟨b1, b2, b3, hO⟩, h1, h2, h3⟩ := st
    exact ⟨⟨v, f, ho, k z (by simp) _ hz⟩, k ti (by simp) _ hI, ⟨b1, b2, b3, k to (by simp) _ hO⟩, h1.at fun o q => k i1 (by simp) o q, h2.at fun o q => k i2 (by simp) o q, h3.at fun o q => k i3 (by simp) o q⟩
  item := by
    intro X hP hw hK hc i pins s σ H E I hf st hg
    subst hP hw hK
    obtain ⟨⟨v, f, ho, hz⟩, hI, ⟨b1, b2, b3, hO⟩, h1, h2, h3⟩ := st
    obtain ⟨xs, ys, zs, x, y, u, qx, qy, qu, hx, hy, hu⟩ := hg
    obtain ⟨t1, r1, p1, _⟩ := I.tuple qx
    obtain ⟨t2, r2, p2, _⟩ := I.tuple qy
    obtain ⟨t3, r3, p3, _⟩ := I.tuple qu
    obtain ⟨v1, g1, rv1⟩ := r1.get hx
    obtain ⟨v2, g2, rv2⟩ := r2.get hy
    obtain ⟨v3, g3, rv3⟩ := r3.get hu
    have zl : z < s.heap.objs.size := Heap.lt_size hz
    refine pyNext3 D ho hz hI hO ⟨⟨h1, p1⟩, ⟨h2, p2⟩, ⟨h3, p3⟩⟩ (x1 := v1) (x2 := v2) (x3 := v3) (by simpa using g1) (by simpa using g2) (by simpa using g3) fun h' v' f' c1 c2 c3 ho' hz' hO' st' hT hsz hk => ?_
    refine ⟨_, rfl, letGo3 (s := { s with heap := h' }) ho' hz' fun h'' v'' ho'' hz'' sb => ?_⟩
    have hT2 : h''.get? s.heap.objs.size = some { cls := .type "tuple", data := .seq #[v1, v2, v3] } := (sb.2 _ (Nat.ne_of_gt zl)).trans hT
    have new : ObjOk X.prog X.w (upd H s.heap.objs.size (.tup [x, y, u])) h'' s.heap.objs.size (.tup [x, y, u]) :=
      ⟨by show 3 ≤ sizeLine; decide, [v1, v2, v3], .cons rv1 (.cons rv2 (.cons rv3 .nil)), ⟨_, hT2, rfl, _, rfl⟩⟩
    have I1 : Inv X pins σ (upd H s.heap.objs.size (.tup [x, y, u])) { s with heap := h'' } :=
      I.turnedNew (t' := s.toks) (ch := [z, ti, to, i1, i2, i3]) (fun q o hb e => (sb.2 q (fun q' => hb (by simp [q']))).trans
        (hk q o (fun q' => hb (by simp [q'])) (fun q' => hb (by simp [q'])) (fun q' => hb (by simp [q'])) (fun q' => hb (by simp [q'])) (fun q' => hb (by simp [q'])) e)) hf (Nat.le_refl _) new
    refine ⟨.ref s.heap.objs.size, _, I1, rfl, ⟨_, x, y, u, rfl, I.hok.fresh (Nat.le_refl _), rfl, fun l hl => by rw [I.tuple_inj hl qx]; exact hx, fun l hl => by rw [I.tuple_inj hl qy]; exact hy, fun l hl => by rw [I.tuple_inj hl qu]; exact hu⟩,
      ⟨⟨v'', f', ho'', hz''⟩, ?_, ⟨c1, c2, c3, (sb.2 _ D.toz).trans hO'⟩, st'.1.1.at fun o q => (sb.2 _ D.z1).trans q, st'.2.1.1.at fun o q => (sb.2 _ D.z2).trans q, st'.2.2.1.at fun o q => (sb.2 _ D.z3).trans q⟩, fun q hq => ?_⟩
    · exact (sb.2 _ D.tiz).trans (hk _ _ D.tiz D.tito D.ti1 D.ti2 D.ti3 hI)
    · have lt : q < s.heap.objs.size := by
        have e' : q = z ∨ q = ti ∨ q = to ∨ q = i1 ∨ q = i2 ∨ q = i3 := by simpa using hq
        rcases e' with r | r | r | r | r | r
        · rw [r]; exact zl
        · rw [r]; exact Heap.lt_size hI
        · rw [r]; exact Heap.lt_size hO
        · rw [r]; obtain ⟨_, e1, _⟩ := h1; exact Heap.lt_size e1
        · rw [r]; obtain ⟨_, e1, _⟩ := h2; exact Heap.lt_size e1
        · rw [r]; obtain ⟨_, e1, _⟩ := h3; exact Heap.lt_size e1
      rw [upd_ne (Nat.ne_of_lt lt)]
      exact (hf q hq).1
  done := by
    intro X hP hw hK hc i pins s σ H E I hf st hg
    subst hP hw hK
    obtain ⟨⟨v, f, ho, hz⟩, hI, ⟨b1, b2, b3, hO⟩, h1, h2, h3⟩ := st
    obtain ⟨xs, qx, hlen⟩ := hg
    obtain ⟨t1, r1, p1, _⟩ := I.tuple qx
    have le := r1.length
    refine pyEnd3 (I.ok.hd hc) D ho hz hI ⟨h1, p1⟩ (by simp; omega) fun h' hk => ⟨rfl, I.turnedL (t' := s.toks) (ch := [z, ti, to, i1, i2, i3]) (fun q o hb e => ?_) hf⟩
    exact hk q o (fun q' => hb (by simp [q'])) (fun q' => hb (by simp [q'])) (fun q' => hb (by simp [q'])) (fun q' => hb (by simp [q'])) (fun q' => hb (by simp [q'])) e
  self := fun A i s Q E st h => by
    obtain ⟨⟨v, f, _, hz⟩, _⟩ := st
    exact iter3 hz h

theorem far_at (n a b c : Nat) (ha : a < n) (hb : b < n) (hc : c < n) : Far3 (n + 5) (n + 3) (n + 4) n (n + 1) (n + 2) a b c := by
  constructor <;> first | (show (_ : Nat) ≠ _; omega) | (refine ⟨?_, ?_, ?_, ?_, ?_⟩ <;> (show (_ : Nat) ≠ _; omega))

def iZip3 (K : PySem.W.Frag) (ta : TA) : TI := fun σ H R => ta σ H fun vs H1 => ∃ a b c xs ys zs, vs = [.ref a, .ref b, .ref c] ∧ SqT K H1 a xs ∧ SqT K H1 b ys ∧ SqT K H1 c zs ∧ R (It3 K a b c) H1
/-- zip(e, e2, e3), tuples of one length; any target -/
theorem pi_zip3 {X : Cx} {tg e e2 e3 : Expr} {ta : TA} {p pos : Pos} (hg : Gl X "zip") (hm : X.mg "zip" = none) (ha : PA X [e, e2, e3] ta)
    (hs : starEach [e, e2, e3] X.env = (false, eval e X.env) :: starEach [e2, e3] X.env := by rfl) (hpl : (backTo pos (starEach [e2, e3] X.env)).any (·.1) = false := by rfl) :
    PI X tg (.Call (.Name "zip" p) [e, e2, e3] [] pos) (iZip3 X.K ta) := by
  refine ⟨fun pins s σ H R I h => ?_⟩
  refine Call_ (ld_blt I hg hm PyProof.Rows.boot_zip (PyProof.Rows.callWith_type1 (thn (ha.run pos pins s σ H _ I h) fun us s1 q => ?_) hs hpl))
  obtain ⟨vs, H1, I1, r1, a, b, c, xs, ys, zs, ex, q1, q2, q3, q⟩ := q
  subst ex
  cases r1 with
  | cons ra rr =>
    cases rr with
    | cons rb rr =>
      cases rr with
      | cons rc rr =>
        cases rr
        cases ra
        cases rb
        cases rc
        obtain ⟨t1, r1, p1, _⟩ := I1.tuple q1
        obtain ⟨t2, r2, p2, _⟩ := I1.tuple q2
        obtain ⟨t3, r3, p3, _⟩ := I1.tuple q3
        obtain ⟨o1, g1, _⟩ := id p1
        obtain ⟨o2, g2, _⟩ := id p2
        obtain ⟨o3, g3, _⟩ := id p3
        refine zip_begins3 (begins_tuple a t1.toArray) (begins_tuple b t2.toArray) (begins_tuple c t3.toArray) p1 p2 p3 fun h' hz hI hO e1 e2 e3 hsz hk => iter3 hz ?_
        have I2 : Inv X pins σ H1 { s1 with heap := h' } := I1.kept (t' := s1.toks) hk
        refine ⟨s1.heap.objs.size + 5, [s1.heap.objs.size + 5, s1.heap.objs.size + 3, s1.heap.objs.size + 4, s1.heap.objs.size, s1.heap.objs.size + 1, s1.heap.objs.size + 2], _, _, H1, rfl, I2, turn3 (far_at s1.heap.objs.size a b c (Heap.lt_size g1) (Heap.lt_size g2) (Heap.lt_size g3)),
          ⟨⟨.none, false, .inl rfl, hz⟩, hI, ⟨_, _, _, hO⟩, ⟨_, e1, rfl, rfl⟩, ⟨_, e2, rfl, rfl⟩, ⟨_, e3, rfl, rfl⟩⟩, fun q hq => ?_, q⟩
        have le : s1.heap.objs.size ≤ q := by
          have e' : q = s1.heap.objs.size + 5 ∨ q = s1.heap.objs.size + 3 ∨ q = s1.heap.objs.size + 4 ∨ q = s1.heap.objs.size ∨ q = s1.heap.objs.size + 1 ∨ q = s1.heap.objs.size + 2 := by simpa using hq
          rcases e' with r | r | r | r | r | r <;> rw [r] <;> first | exact Nat.le_add_right _ _ | exact Nat.le_refl _
        exact I1.fpOk le (I1.hok.fresh le)

/-- a new triple of the i-th ones -/
def Y3 (xs ys zs : List V) : Nat → Hp → V → Hp → Prop := fun i H v H' => ∃ T x y z, v = .ref T ∧ H T = none ∧ H' = upd H T (.tup [x, y, z]) ∧ xs[i]? = some x ∧ ys[i]? = some y ∧ zs[i]? = some z
theorem walk_zip3 {K : PySem.W.Frag} {a b c : Addr} {xs ys zs : List V} (h2 : ys.length = xs.length) (h3 : zs.length = xs.length) :
    Walk (It3 K a b c) xs.length (fun H => SqT K H a xs ∧ SqT K H b ys ∧ SqT K H c zs) (Y3 xs ys zs) := by
  refine ⟨fun i _ hi q => ?_, fun _ q => ⟨xs, q.1, Nat.le_refl _⟩, fun i H v H' _ q y => ?_⟩
  · exact ⟨xs, ys, zs, xs[i], ys[i]'(by omega), zs[i]'(by omega), q.1, q.2.1, q.2.2, by simp [hi], by simp [show i < ys.length by omega], by simp [show i < zs.length by omega]⟩
  · obtain ⟨T, x, y, z, e1, e2, e3, f1, f2, f3⟩ := y
    exact ⟨T, x, y, z, e1, e2, e3, f1 xs q.1, f2 ys q.2.1, f3 zs q.2.2⟩
theorem walk_zipT {K : PySem.W.Frag} {a b : Addr} {xs ys : List V} (h2 : ys.length = xs.length) :
    Walk (RZ.ItzT K a b) xs.length (fun H => SqT K H a xs ∧ SqT K H b ys) (YPair (fun i => xs[i]?) (fun i => ys[i]?)) := by
  refine ⟨fun i _ hi q => ?_, fun _ q => ⟨xs, ys, q.1, q.2, by omega⟩, fun i H v H' _ q y => ?_⟩
  · exact ⟨xs, ys, xs[i], ys[i]'(by omega), q.1, q.2, by simp [hi], by simp [show i < ys.length by omega]⟩
  · obtain ⟨T, x, u, e1, e2, e3, f1, f2⟩ := y
    exact ⟨T, x, u, e1, e2, e3, f1 xs q.1, f2 ys q.2⟩
end NB

set_option Elab.async false
set_option linter.all false
set_option maxRecDepth 100000
set_option maxHeartbeats 1000000
namespace NB
open PySem PySem.Spec PyProof.Rows L2

/-- the law's own call, its def kept to its promise where nothing is being shown -/
theorem law_end {P : Program} {w : World} {K : PySem.W.Frag} {mg mb : Str → Option Value} {k : Nat} {fa a : Addr} {fd : FuncData} {x : Str} {sp : Sp} {s : Shared} {vs : List Value} {ns : List Int}
    (hK : K.In s.heap) (hN : s.heap.Ns mainGlobals mg) (hB : s.heap.Ns builtinsNs mb) (hbb : ∀ x : Str, x ≠ "__name__" → mb x = bootBuiltins x) (lim : s.heap.NoLimit) (hg : s.gens = #[])
    (ha : s.heap.get? a = some { cls := .type "list", data := .seq vs.toArray }) (hi : IntsAre vs ns) (hl : ns.length ≤ sizeLine) (hr : Room k callerA)
    (F : ∀ base : Heap, K.In base → base.Ns mainGlobals mg → FnG P w K mg base k fa fd [x] sp) (hb : ∀ (s : Shared) (u : Value), BindsTo s fd ⟨[u], []⟩ [(x, u)])
    (hsp : ∀ H : Hp, SqL K H a (ns.map V.int) → sp [.ref a] H (fun v _ => v = .bl true) E0) :
    codeAny (model P w) callerA (.call (.ref fa) ⟨[.ref a], []⟩) (fun r s' => r = .ok (.ret (.bool true)) ∧ OldK s.heap s'.heap ∧ s'.os = s.os ∧ AllBare s'.gens) s := by
  have rv := vals_ints hi
  have lv := hi.length
  -- H: the script alone is tracked, or nothing
  suffices go : ∀ H : Hp, (∀ b, H b ≠ none → b = a ∧ K.lookup a = none ∧ ∃ o xs, H b = some (.frz o (.lst xs))) → SqL K H a (ns.map V.int) → HOk P w H s.heap →
      codeAny (model P w) callerA (.call (.ref fa) ⟨[.ref a], []⟩) (fun r s' => r = .ok (.ret (.bool true)) ∧ OldK s.heap s'.heap ∧ s'.os = s.os ∧ AllBare s'.gens) s by
    cases hk : K.lookup a with
    | some o =>
      have e := hK a o hk
      rw [ha] at e
      cases e
      refine go (fun _ => none) (fun b q => absurd rfl q) (.inr ⟨_, vs.toArray, _, hk, rfl, rfl, rfl, ?_, by simpa using rv⟩) (fun b u q => by cases (show (none : Option HO) = some u from q))
      rw [List.size_toArray, lv]
      exact hl
    | none =>
      refine go (fun b => if b = a then some (.frz { cls := .type "list", data := .seq vs.toArray } (.lst (ns.map V.int))) else none) (fun b q => ?_) (.inl (.inr ⟨_, if_pos rfl⟩)) (fun b u q => ?_)
      · by_cases h : b = a
        · exact ⟨h, hk, _, _, if_pos h⟩
        · exact absurd (if_neg h) q
      · by_cases h : b = a
        · have q' := (if_pos h).symm.trans q
          cases q'
          subst h
          exact ⟨ha, by rw [List.length_map]; exact hl, vs, _, rv, ha⟩
        · have q' := (if_neg h).symm.trans q
          cases q'
  intro H hO hS ok
  have dictFree : ∀ {b : Addr} {o : Obj} {es : Array DictEntry} {ep : Nat}, s.heap.get? b = some o → o.data = .dict es ep → H b = none := by
    intro b o es ep e d
    cases q : H b with
    | none => rfl
    | some u =>
      obtain ⟨e', _⟩ := hO b (by rw [q]; simp)
      subst e'
      rw [ha] at e
      cases e
      cases (show Data.seq vs.toArray _ = Data.dict es ep from d)
  have ns' : ∀ {b : Addr} {m : Str → Option Value}, s.heap.Ns b m → (hidT s.heap H).Ns b m := by
    rintro b m ⟨o, es, ep, e, d, r⟩
    exact ⟨o, es, ep, hidT_get e (dictFree e d), d, r⟩
  have kB : K.In (hidT s.heap H) := by
    intro b o e
    refine hidT_get (hK b o e) ?_
    cases q : H b with
    | none => rfl
    | some u =>
      obtain ⟨e', n, _⟩ := hO b (by rw [q]; simp)
      subst e'
      rw [n] at e
      cases e
  have md : Mod K mg (hidT s.heap H) := by
    obtain ⟨mc, h1, h2⟩ := lim
    exact ⟨kB, ns' hN, ⟨mb, ns' hB, hbb⟩, ⟨mc, ns' h1, h2⟩⟩
  have e0 : Env0 P w K mg (hidT s.heap H) callerA [] s H :=
    ⟨rfl, md, fun b o e => of_hidT e, Nat.le_of_eq (hidT_size _ _), trivial, fun b q => absurd (show b ∈ ([] : List Addr) from q) (by simp), ok, .of_eq hg⟩
  refine codeAny_mono ((F _ kB (ns' hN)).go callerA [] s H ⟨[.ref a], []⟩ [.ref a] [.ref a] _ _ rfl hr e0 (hb s (.ref a)) (.cons rfl .nil) (hsp H hS)) ?_
  intro r s' q
  cases r with
  | error e => exact False.elim q
  | ok fl =>
    cases fl with
    | next => exact False.elim q
    | brk => exact False.elim q
    | cont => exact False.elim q
    | ret u =>
      obtain ⟨v, H', os, bare, un, ok', r', q'⟩ := q
      have q2 : v = .bl true := q'
      subst q2
      obtain rfl : u = Value.bool true := r'
      refine ⟨rfl, OldK.of_keep fun b o e => ?_, os, bare⟩
      cases q : H b with
      | none => exact un.keep b o e q (fun z => absurd (show b ∈ ([] : List Addr) from z) (by simp)) (by simp)
      | some u =>
        obtain ⟨_, _, ob, xs, z⟩ := hO b (by rw [q]; simp)
        obtain ⟨e1, _⟩ := ok b _ z
        obtain ⟨e2, _⟩ := ok' b _ (un.frzs b ob _ z)
        rw [e] at e1
        cases e1
        exact e2

/-- what k_head leaves, from the promise of the law's def -/
theorem walkG {l : PySem.W.OpenLaw} {n k : Nat} {q : Program} {loose : List Str} {XP : (Str → Option Value) → Heap → Prop} {YP : World → Heap → Prop} {d : DefRec} {K : Params → PySem.W.Frag} {sp : World → Sp} {x : Str}
    (hn : l.most = some n) (hn2 : n ≤ sizeLine) (hdf : d.params.defaults = []) (hr : Room k callerA) (hY : ∀ (w : World) (h : Heap), YP w h → (K w.params).In h)
    (F : ∀ (w : World) (mg : Str → Option Value) (fa : Addr) (h : Heap), (K w.params).In h → h.Ns mainGlobals mg → mg d.name = some (.ref fa) →
      ∃ fd : FuncData, (∀ (s : Shared) (u : Value), BindsTo s fd ⟨[u], []⟩ [(x, u)]) ∧
        ∀ base : Heap, (K w.params).In base → base.Ns mainGlobals mg → FnG l.prog w (K w.params) mg base k fa fd [x] (sp w))
    (hsp : ∀ (w : World) (H : Hp) (a : Addr) (ns : List Int), ns.length ≤ n → SqL (K w.params) H a (ns.map V.int) → sp w [.ref a] H (fun v _ => v = .bl true) E0) :
    PySem.W.WalkO q loose XP YP l.row.toRowW d [] (fun f vs => PySem.call f vs) := by
  refine Att.attach_call hn hdf ?_
  intro w s₀ s₁ mg mb fa o pm cd doc a vs ns G Y ho hd hcd hmg hobj hints hlen hg
  have kX := hY w _ Y
  obtain ⟨fd, hb, hF⟩ := F w mg fa _ kX G.T.g hmg
  exact law_end kX G.T.g G.T.b G.T.builtins G.T.nolimit hg hobj hints (Nat.le_trans hlen hn2) hr hF hb fun H hS => hsp w H a ns hlen hS
end NB

set_option Elab.async false
set_option linter.all false
set_option maxRecDepth 100000
set_option maxHeartbeats 1000000
namespace NB
open PySem PySem.Spec PyProof.Rows L2
section
variable {prog : Program} {w : World} {A : Around} {E : Value → Shared → Prop} {s : Shared}
theorem sortedTuple {t : Addr} {vs : List Value} {ns : List Int} {Q : Value → Shared → Prop} (hl : s.heap.IsTuple t vs.toArray) (hI : IntsAre vs ns) (h64 : vs.length < 64)
    (h : ∀ (h1 h' : Heap) (p : Addr) (out : Array Value) (ep : Nat) (ns' : List Int), IntsAre out.toList ns' → ns'.Perm ns → ns'.Pairwise (· ≤ ·) → (∀ b o, s.heap.get? b = some o → h1.get? b = some o) → (∀ b o, h1.get? b = some o → h'.get? b = some o) → h1.objs.size ≤ p →
      h'.get? p = some (seqObj "list" out ep) → Q (.ref p) { s with heap := h' }) :
    wpAny (model prog w) A (call (.builtin "sorted") [.ref t]) Q E s := by
  obtain ⟨o, ho, hc, n, hd⟩ := hl
  refine Calls.call_function_entry kind_sorted plain_sorted entry_sorted (args_sorted1 _) ?_
  unfold Builtin.«sorted»
  refine wpAny_bind (m := checkCount "sorted" 1 1 _) (wpAny_pure ?_)
  refine wpAny_bind (wpAny_collect_seq t (.inr rfl) ho hc hd (fun h1 hk => ?_) (by rw [List.size_toArray, sizeLine_eq]; omega))
  refine wpAny_bind (wpAny_newList ?_)
  have e0 : (vs.toArray.toList) = vs := rfl
  have hoL : (h1.push (seqObj "list" vs.toArray 0)).get? h1.objs.size = some (seqObj "list" vs.toArray 0) := Heap.get?_push_size _ rfl
  show wpAny _ _ _ _ _ { s with heap := h1.push (seqObj "list" vs.toArray 0) }
  refine wpAny_bind (wpAny_holding (wpAny_call_entry slot_list_sort ⟨_, hoL, rfl⟩ entry_list_sort (list_sort_tree hoL hI h64 fun out ns' q1 q2 q3 => ⟨_, rfl, ?_⟩) (args_list_sort _)))
  refine wpAny_pure ⟨_, rfl, ?_⟩
  obtain ⟨ep, hat⟩ := sortedHeap_at (vs := vs) (out := out) hoL
  refine h h1 _ h1.objs.size out ep ns' q1 q2 q3 hk (fun b o q => ?_) (Nat.le_refl _) hat
  have lt := Heap.lt_size q
  rw [sortedHeap_old (Nat.ne_of_lt lt) (by rw [size_push']; exact Nat.lt_succ_of_lt lt)]
  exact Heap.get?_push_of_some _ q
end
section
variable {X : Cx}
/-- sorted(t), t a tuple of few ints -/
def rSortT (K : PySem.W.Frag) : List V → Hp → VK → Prop := fun vs H Q => ∃ (a : Addr) (ns : List Int), vs = [V.ref a] ∧ SqT K H a (ns.map V.int) ∧ ns.length < 64 ∧
  ∀ (ns' : List Int) (p : Addr), ns'.Perm ns → ns'.Pairwise (· ≤ ·) → H p = none → Q (.ref p) (upd H p (.lst (ns'.map V.int)))
theorem cr_sortT : CallR X (.builtin "sorted") (rSortT X.K) := by
  intro pins s σ H vs us Q I r h
  obtain ⟨a, ns, rfl, hs, h64, q⟩ := h
  obtain ⟨its, rv, hl, _⟩ := I.tuple hs
  rw [Vals.ref1 r]
  have hi := rv.ints
  refine sortedTuple hl hi (by rw [hi.length]; exact h64) fun h1 h' p out ep ns' q1 q2 q3 k1 k2 hp hat => ?_
  have I1 : Inv X pins σ H { s with heap := h1 } := I.kept (t' := s.toks) k1
  have hlen : (ns'.map V.int).length ≤ sizeLine := by rw [List.length_map, q2.length_eq]; exact small64 h64
  exact ⟨.ref p, upd H p (.lst (ns'.map V.int)), I1.laid (t' := s.toks) k2 hp ⟨hlen, out.toList, ep, vals_of_ints q1, hat⟩, rfl, q ns' p q2 q3 (I1.hok.fresh hp)⟩

theorem perm_sum {l l' : List Int} (h : l.Perm l') : l.sum = l'.sum := by
  induction h with
  | nil => rfl
  | cons x _ ih => simp only [List.sum_cons, ih]
  | swap x y l => simp only [List.sum_cons]; omega
  | trans _ _ i1 i2 => exact i1.trans i2
/-- the middle one of three -/
def mid3 (a b c : Int) : Int := if a ≤ b then (if b ≤ c then b else if a ≤ c then c else a) else (if a ≤ c then a else if b ≤ c then c else b)
theorem mid_of_sorted {a b c x y z : Int} (p : [x, y, z].Perm [a, b, c]) (s : [x, y, z].Pairwise (· ≤ ·)) : y = mid3 a b c := by
  have h1 : x ≤ y ∧ y ≤ z := by
    rw [List.pairwise_cons, List.pairwise_cons] at s
    exact ⟨s.1 y (by simp), s.2.1 z (by simp)⟩
  have ha : a ∈ [x, y, z] := p.symm.subset (by simp)
  have hb : b ∈ [x, y, z] := p.symm.subset (by simp)
  have hc : c ∈ [x, y, z] := p.symm.subset (by simp)
  have hs : x + y + z = a + b + c := by
    have e := perm_sum p
    simp only [List.sum_cons, List.sum_nil] at e
    omega
  simp only [List.mem_cons, List.not_mem_nil, or_false] at ha hb hc
  unfold mid3
  rcases ha with e | e | e <;> rcases hb with f | f | f <;> rcases hc with g | g | g <;> split <;> split <;> (try split) <;> omega
theorem max3 (hc : X.calm = true) : CallR X (.builtin "max") (fun xs H Q => ∃ i j k : Int, xs = [.int i, .int j, .int k] ∧ Q (.int (max (max i j) k)) H) := by
  intro pins s σ H xs us Q I r h
  obtain ⟨i, j, k, rfl, q⟩ := h
  refine call_max3Nu hc pins s σ H _ us Q I r ⟨_, _, _, _, rfl, ?_, q⟩
  have two : ∀ a b : Int, nuMax2 (.int a) (.int b) = some (.int (max a b)) := fun a b => by
    show some (if decide (a < b) = true then V.int b else V.int a) = _
    by_cases h : a < b
    · rw [if_pos (decide_eq_true h), Int.max_eq_right (Int.le_of_lt h)]
    · rw [if_neg (by simpa using h), Int.max_eq_left (by omega)]
  show (nuMax2 (.int i) (.int j)).bind (fun m => nuMax2 m (.int k)) = _
  rw [two]
  exact two _ _
theorem min3 (hc : X.calm = true) : CallR X (.builtin "min") (fun xs H Q => ∃ i j k : Int, xs = [.int i, .int j, .int k] ∧ Q (.int (min (min i j) k)) H) := by
  intro pins s σ H xs us Q I r h
  obtain ⟨i, j, k, rfl, q⟩ := h
  refine call_min3Nu hc pins s σ H _ us Q I r ⟨_, _, _, _, rfl, ?_, q⟩
  have two : ∀ a b : Int, nuMin2 (.int a) (.int b) = some (.int (min a b)) := fun a b => by
    show some (if decide (b < a) = true then V.int b else V.int a) = _
    by_cases h : b < a
    · rw [if_pos (decide_eq_true h), Int.min_eq_right (Int.le_of_lt h)]
    · rw [if_neg (by simpa using h), Int.min_eq_left (by omega)]
  show (nuMin2 (.int i) (.int j)).bind (fun m => nuMin2 m (.int k)) = _
  rw [two]
  exact two _ _
/-- a ** b: the result within 2 ^ 27 bits -/
def CPowW (i j : Int) : Prop := 0 ≤ j ∧ (Builtin.Int.intBits i : Int) * j ≤ 2 ^ 27
theorem op_powW : OpR X (binaryOp .Pow) (rI CPowW fun i j => .int (i ^ j.toNat)) := opI fun _ _ _ _ _ _ _ hc q => pow_int hc.1 hc.2 q
end
end NB

set_option Elab.async false
set_option linter.all false
set_option maxRecDepth 100000
set_option maxHeartbeats 1000000
/-! enumerate of a tuple -/
namespace NB
open PySem PySem.Spec PyProof.Rows L2

theorem enumNewT (l : Addr) (items : Array Value) : Meets (Builtin.«enumerate.__new__» ⟨[.type "enumerate", .ref l], []⟩) (fun _ R s => s.heap.IsTuple l items ∧
      R (.ok (.ret (.ref (s.heap.push { cls := .type "tuple_iterator", data := .fields #[.ref l, .int 0 0] }).objs.size)))
        { s with heap := (s.heap.push { cls := .type "tuple_iterator", data := .fields #[.ref l, .int 0 0] }).push { cls := .type "enumerate", data := .fields #[.none, .bool false, .ref s.heap.objs.size, rawInt 0, .none, .none] } }) :=
  .of_wp fun prog w A R s h => by
    obtain ⟨hp, g, d, tk, os⟩ := s
    obtain ⟨hl, h⟩ := h
    have hsub := sub_enumerate
    have hL : Heap.IsTuple (Shared.heap ⟨hp, g, d, tk, os⟩) l items := hl
    wp_walk
    refine wpAny_stack_any fun st => wpAny_pure ?_
    split
    · rename_i c _ _ _ _ _
      cases (c == Value.type "enumerate")
      · wp_walk using wpAny_pyIter_tuple hL
        exact ⟨_, rfl, h⟩
      · wp_walk using wpAny_pyIter_tuple hL
        exact ⟨_, rfl, h⟩
    · wp_walk using wpAny_pyIter_tuple hL
      exact ⟨_, rfl, h⟩
section
variable {prog : Program} {w : World} {A : Around} {E : Value → Shared → Prop} {s : Shared}
theorem enumT {l : Addr} {items : Array Value} {Q : Value → Shared → Prop} (hL : s.heap.IsTuple l items)
    (h : ∀ h', IsEnum h' (s.heap.objs.size + 1) s.heap.objs.size 0 .none → h'.IsTupleIter s.heap.objs.size l 0 → (∀ b o, s.heap.get? b = some o → h'.get? b = some o) → Q (.ref (s.heap.objs.size + 1)) { s with heap := h' }) :
    wpAny (model prog w) A (call (.type "enumerate") [.ref l]) Q E s := by
  refine callType_new F.called_enumerate (by decide) (F.typeCall_enumerate_1 _) (F.newCall_enumerate_1 _) (fun obj => F.args_object_init_2 obj _) F.entry_enumerate_new (enumNewT l items) ⟨hL, ?_⟩
  have z : (s.heap.push { cls := .type "tuple_iterator", data := .fields #[.ref l, .int 0 0] }).objs.size = s.heap.objs.size + 1 := Heap.size_push ..
  have he := Heap.get?_push_size (s.heap.push { cls := .type "tuple_iterator", data := .fields #[.ref l, .int 0 0] }) (o := { cls := .type "enumerate", data := .fields #[.none, .bool false, .ref s.heap.objs.size, rawInt 0, .none, .none] }) rfl
  show _ ∧ _
  rw [z] at he ⊢
  exact ⟨⟨_, he, rfl⟩, h _ he ⟨_, Heap.get?_push_of_some _ (Heap.get?_push_size _ rfl), rfl, rfl⟩ fun b o x => Heap.get?_push_of_some _ (Heap.get?_push_of_some _ x)⟩
end
/-- a tuple's items with their numbers, in new pairs -/
def ItE (K : PySem.W.Frag) (a : Addr) : It :=
  ⟨fun i H => ∃ (xs : List V) (x : V), SqT K H a xs ∧ xs[i]? = some x,
    fun i H v H' => ∃ T x, v = .ref T ∧ H T = none ∧ H' = upd H T (.tup [.int (i : Nat), x]) ∧ ∀ xs, SqT K H a xs → xs[i]? = some x,
    fun i H => ∃ xs : List V, SqT K H a xs ∧ xs.length = i⟩
theorem turnE {P : Program} {w : World} {K : PySem.W.Frag} {elts : List Expr} {kk : Nat} {tpos : Pos} (a e it : Addr) (n1 : e ≠ it) (n2 : a ≠ it) (n3 : e ≠ a) :
    Turn P w K (.Tuple elts kk tpos) (ItE K a) [e, it] e (fun i h => (∃ old, IsEnum h e it ((i : Nat) : Int) old) ∧ h.IsTupleIter it a i) where
  mem := by simp
  obj := fun i h st b hb => by
    obtain ⟨⟨old, he⟩, ⟨o, ho, hc, hd⟩⟩ := st
    have e' : b = e ∨ b = it := by simpa using hb
    rcases e' with z | z
    · rw [z]; exact ⟨_, he, fun v q => nomatch q⟩
    · rw [z]; exact ⟨o, ho, fun v q => by rw [hd] at q; cases q⟩
  keep := fun i h h' st k => by
    obtain ⟨⟨old, he⟩, hi⟩ := st
    exact ⟨⟨old, k e (by simp) _ he⟩, hi.at fun o q => k it (by simp) o q⟩
  item := by
    intro X hP hw hK hc i pins s σ H E I hf st hg
    subst hP hw hK
    obtain ⟨⟨old, he⟩, hit⟩ := st
    obtain ⟨xs, x, hq, hx⟩ := hg
    obtain ⟨its, rv, p, hz⟩ := I.tuple hq
    obtain ⟨u, hu, ru⟩ := rv.get hx
    have hel : e < s.heap.objs.size := Heap.lt_size he
    have hil : it < s.heap.objs.size := by obtain ⟨_, q, _⟩ := hit; exact Heap.lt_size q
    have lt : i < its.toArray.size := by
      have : i < its.length := by
        rcases Nat.lt_or_ge i its.length with q | q
        · exact q
        · rw [List.getElem?_eq_none q] at hu
          cases hu
      simpa using this
    have hD := I.ok.hd hc
    refine wpAny_pyNext_enum_itemD (Draws.tuple (A := X.A.in1) hD it a n2 its.toArray) he ⟨hit, p⟩ lt n1 (by simp; exact ⟨n1, n3⟩) fun y h' tk hy ho st' hT hsz hk => ?_
    have ey : y = u := by
      have q : its.toArray[i]? = some u := by simpa using hu
      exact Option.some.inj (hy.symm.trans q)
    subst ey
    refine ⟨_, rfl, wpAny_letOwnedTupleGo_enum (s := { s with heap := h', toks := tk + 1 }) ho fun h'' he' sb => ?_⟩
    have hT2 : h''.get? s.heap.objs.size = some { cls := .type "tuple", data := .seq #[.int i tk, y] } := (sb.2 _ (Nat.ne_of_gt hel)).trans hT
    have new : ObjOk X.prog X.w (upd H s.heap.objs.size (.tup [.int (i : Nat), x])) h'' s.heap.objs.size (.tup [.int (i : Nat), x]) :=
      ⟨by show 2 ≤ sizeLine; decide, [.int i tk, y], .cons ⟨_, rfl⟩ (.cons ru .nil), ⟨_, hT2, rfl, _, rfl⟩⟩
    have I1 : Inv X pins σ (upd H s.heap.objs.size (.tup [.int (i : Nat), x])) { s with heap := h'', toks := tk + 1 } :=
      I.turnedNew (ch := [e, it]) (fun b ob hb q => (sb.2 b (fun z => hb (by simp [z]))).trans (hk b ob (fun z => hb (by simp [z])) (fun z => hb (by simp [z])) q)) hf (Nat.le_refl _) new
    refine ⟨.ref s.heap.objs.size, _, I1, rfl, ⟨_, x, rfl, I.hok.fresh (Nat.le_refl _), rfl, fun ys hy => by rw [I.tuple_inj hy hq]; exact hx⟩, ⟨⟨y, ?_⟩, st'.1.at fun o q => (sb.2 it n1.symm).trans q⟩, fun b hb => ?_⟩
    · rw [show ((i + 1 : Nat) : Int) = (i : Int) + 1 by omega]
      exact he'
    · have hb' : b < s.heap.objs.size := by
        have e' : b = e ∨ b = it := by simpa using hb
        rcases e' with z | z
        · rw [z]; exact hel
        · rw [z]; exact hil
      rw [upd_ne (Nat.ne_of_lt hb')]
      exact (hf b hb).1
  done := by
    intro X hP hw hK hc i pins s σ H E I hf st hg
    subst hP hw hK
    obtain ⟨⟨old, he⟩, hit⟩ := st
    obtain ⟨xs, hq, hx⟩ := hg
    obtain ⟨its, rv, p, hz⟩ := I.tuple hq
    obtain ⟨f0, f1, f2, f3, f4, f5⟩ := hf it (by simp)
    have le : i = its.toArray.size := by
      have := rv.length
      simp
      omega
    subst le
    exact wpAny_pyNext_enum_endD (Draws.tuple (A := X.A.in1) (I.ok.hd hc) it a n2 its.toArray) he ⟨hit, p⟩ fun h' eb => ⟨rfl, I.turned (t' := s.toks) (fun b o hb q => eb b o hb q) f0 f1 f3 f4 f5⟩
  self := fun A i s Q E st h => by
    obtain ⟨⟨_, he⟩, _⟩ := st
    exact wpAny_pyIter_enum he h
def iEnumT (K : PySem.W.Frag) (ta : TA) : TI := fun σ H R => ta σ H fun vs H1 => ∃ a xs, vs = [.ref a] ∧ SqT K H1 a xs ∧ R (ItE K a) H1
theorem pi_enumT {X : Cx} {e : Expr} {ta : TA} {p pos tpos : Pos} {elts : List Expr} {kk : Nat} (hg : Gl X "enumerate") (hm : X.mg "enumerate" = none) (ha : PA X [e] ta) (hs : starEach [e] X.env = [(false, eval e X.env)] := by rfl) :
    PI X (.Tuple elts kk tpos) (.Call (.Name "enumerate" p) [e] [] pos) (iEnumT X.K ta) := by
  refine ⟨fun pins s σ H R I h => ?_⟩
  refine Call_ (ld_blt I hg hm boot_enumerate (PyProof.Rows.callWith_type1 (thn (ha.run pos pins s σ H _ I h) ?_) hs rfl))
  rintro us s1 ⟨vs, H1, I1, r1, a, xs, ex, hq, q⟩
  subst ex
  cases r1 with
  | cons r rr =>
    cases rr
    cases r
    obtain ⟨its, rv, p', hz⟩ := I1.tuple hq
    obtain ⟨o, g, _⟩ := id p'
    have la : a < s1.heap.objs.size := Heap.lt_size g
    refine enumT (items := its.toArray) p' fun h' he hit hk => wpAny_pyIter_enum he ?_
    have I2 : Inv X pins σ H1 { s1 with heap := h' } := I1.kept (t' := s1.toks) hk
    refine ⟨s1.heap.objs.size + 1, [s1.heap.objs.size + 1, s1.heap.objs.size], _, _, H1, rfl, I2, turnE a (s1.heap.objs.size + 1) s1.heap.objs.size (Nat.succ_ne_self _) (Nat.ne_of_lt la) (Nat.ne_of_gt (Nat.lt_succ_of_lt la)), ⟨⟨.none, he⟩, hit⟩, fun b hb => ?_, q⟩
    have e' : b = s1.heap.objs.size + 1 ∨ b = s1.heap.objs.size := by simpa using hb
    have hle : s1.heap.objs.size ≤ b := by
      rcases e' with z | z
      · rw [z]; exact Nat.le_add_right _ _
      · rw [z]; exact Nat.le_refl _
    exact I1.fpOk hle (I1.hok.fresh hle)
theorem walk_enumT {K : PySem.W.Frag} {a : Addr} {xs : List V} : Walk (ItE K a) xs.length (fun H => SqT K H a xs) (YPair (fun i => some (.int (i : Nat))) (fun i => xs[i]?)) := by
  refine ⟨fun i _ hi q => ⟨xs, xs[i], q, by simp [hi]⟩, fun _ q => ⟨xs, q, rfl⟩, fun i H v H' _ q y => ?_⟩
  obtain ⟨T, x, h1, h2, h3, h4⟩ := y
  exact ⟨T, .int (i : Nat), x, h1, h2, h3, rfl, h4 xs q⟩
end NB

set_option Elab.async false
set_option linter.all false
set_option maxRecDepth 100000
/-! t[::-1] of a tuple; repr of a truth. -/
namespace NB
open PySem PySem.Spec PyProof.Rows L2 HT

section
variable {prog : Program} {w : World} {A : Around} {E : Value → Shared → Prop} {s : Shared}
theorem adjust_back (n : Nat) : Builtin.Slice.sliceAdjust none none (-1) (n : Int) = ((n : Int) - 1, -1) := by
  unfold Builtin.Slice.sliceAdjust
  first
  | rfl
  | simp
theorem places_back (n : Nat) : Builtin.Slice.slicePlaces ((n : Int) - 1) (-1) (-1) = n := by
  unfold Builtin.Slice.slicePlaces
  have h1 : ¬ ((-1 : Int) > 0) := by decide
  simp only [h1, if_false]
  split <;> simp <;> omega
theorem sliceBack {sl : Addr} {vl vu vk : Value} {n : Nat} {Q : Int × Int × Nat → Shared → Prop} (hs : s.heap.IsSliceOf sl vl vu vk) (pl : IsPart vl none) (pu : IsPart vu none) (pk : IsPart vk (some (-1)))
    (h : Q ((n : Int) - 1, -1, n) s) : wpAny (model prog w) A (Builtin.Slice.sliceApplied (.ref sl) (pure (n : Int))) Q E s := by
  obtain ⟨os, hos, hcs, hds⟩ := id hs
  unfold Builtin.Slice.sliceApplied Builtin.Slice.sliceFields
  refine wpAny_bind (wpAny_bind (wpAny_field hos hds (x := vl) rfl (wpAny_bind (wpAny_field hos hds (x := vu) rfl (wpAny_bind (wpAny_field hos hds (x := vk) rfl (wpAny_pure ?_)))))))
  refine wpAny_bind (slicePart_ pk ?_)
  show wpAny _ _ (if ((-1 : Int) == 0) = true then _ else _) _ _ s
  rw [if_neg (by decide)]
  refine wpAny_bind (slicePart_ pl (wpAny_bind (slicePart_ pu (wpAny_bind (wpAny_pure ?_)))))
  show wpAny _ _ (match Builtin.Slice.sliceAdjust none none (-1) (n : Int) with | (lo, hi) => pure (lo, (-1 : Int), Builtin.Slice.slicePlaces lo hi (-1))) _ _ s
  rw [adjust_back n]
  show wpAny _ _ (pure ((n : Int) - 1, (-1 : Int), Builtin.Slice.slicePlaces ((n : Int) - 1) (-1) (-1))) _ _ s
  rw [places_back]
  exact wpAny_pure h
theorem pick_back (xs : Array Value) : ((List.range xs.size).filterMap fun (m : Nat) => xs[(((xs.size : Int) - 1) + (m : Int) * -1).toNat]?).toArray = xs.toList.reverse.toArray := by
  have e : ((List.range xs.size).filterMap fun (m : Nat) => xs[(((xs.size : Int) - 1) + (m : Int) * -1).toNat]?) = ((List.range xs.size).map fun k => xs.size - 1 - k).filterMap (xs[·]?) := by
    rw [List.filterMap_map]
    congr 1
    funext m
    have : (((xs.size : Int) - 1) + (m : Int) * -1).toNat = xs.size - 1 - m := by omega
    rw [this]
    rfl
  rw [e, PySem.W.krv_range, List.filterMap_reverse, PySem.W.krv_all]
theorem getItem_tuple_back {t sl : Addr} {items : Array Value} {vl vu vk : Value} {Q : Value → Shared → Prop} (ht : IsTup s.heap t items) (hs : s.heap.IsSliceOf sl vl vu vk) (pl : IsPart vl none) (pu : IsPart vu none) (pk : IsPart vk (some (-1)))
    (h : Q (.ref s.heap.objs.size) { s with heap := s.heap.push { cls := .type "tuple", data := .seq items.toList.reverse.toArray } })
    (hsz : items.size ≤ sizeLine) : wpAny (model prog w) A (getItem (.ref t) (.ref sl)) Q E s := by
  have htake : sizeOk (.seq items.toList.reverse.toArray) := by
    show items.toList.reverse.toArray.size ≤ sizeLine
    rw [List.size_toArray, List.length_reverse, Array.length_toList]
    exact hsz
  obtain ⟨os, hos, hcs, hds⟩ := id hs
  have hTs : s.TypeIs (.ref sl) "slice" := ⟨os, hos, hcs⟩
  unfold getItem
  try with_reducible refine wpAny_holding ?_
  first | refine wpAny_bind (wpAny_pure ?_) | skip
  refine wpAny_bind (wpAny_sequenceKey ht.typeIs (by decide) ?_)
  refine wpAny_bind (wpAny_callSpecial?_slot (name := Str.ofString "__getitem__") ht.typeIs PyProof.Rows.slot_tuple_getitem
    (wpAny_call_entry PyProof.Rows.slot_tuple_getitem ht.typeIs entry_tuple_getitem ?_ (args_tuple_getitem _ _)))
  show wpAny _ _ (Builtin.Tuple.tupleItemsOf (.ref t) >>= _) _ _ s
  refine wpAny_bind (tupleItemsOf_ ht ?_)
  refine wpAny_bind (wpAny_typeOf hTs ?_)
  rw [if_pos (by decide)]
  refine wpAny_bind (sliceBack hs pl pu pk ?_)
  have hno : ¬ ((((items.size : Int) - 1) == 0 && (-1 : Int) == 1 && items.size == items.size) = true) := by
    intro q
    rw [Bool.and_eq_true, Bool.and_eq_true] at q
    exact absurd q.1.2 (by decide)
  show wpAny _ _ (if (((items.size : Int) - 1) == 0 && (-1 : Int) == 1 && items.size == items.size) = true then _ else _) _ _ s
  rw [if_neg hno, pick_back]
  first
    | exact wpAny_bind (m := Builtin.Tuple.tupleExact _) (wpAny_newObj_type (wpAny_pure ⟨_, rfl, wpAny_pure h⟩) htake)
    | exact wpAny_bind (m := Builtin.Tuple.tupleExact _) (wpAny_newObj_type (wpAny_bind (wpAny_pure (wpAny_pure ⟨_, rfl, wpAny_pure h⟩))) htake)
    | exact wpAny_bind (wpAny_bind (m := Builtin.Tuple.tupleExact _) (wpAny_newObj_type (wpAny_pure (wpAny_pure ⟨_, rfl, wpAny_pure h⟩)) htake))
    | exact wpAny_bind (wpAny_bind (m := Builtin.Tuple.tupleExact _) (wpAny_newObj_type (wpAny_pure ⟨_, rfl, wpAny_pure h⟩) htake))
end

section
variable {X : Cx}
def tRevT (K : PySem.W.Frag) (te : TE) : TE := fun σ H Q => te σ H fun x H1 => ∃ a xs, x = .ref a ∧ SqT K H1 a xs ∧ ∀ p, H1 p = none → Q (.ref p) (upd H1 p (.tup xs.reverse))
theorem pe_revT {e : Expr} {te : TE} {k : Nat} {p1 p2 p3 pos : Pos} (he : PE X e te) : PE X (.Subscript e (.Slice none none (some (.UnaryOp .USub (.Constant (.int 1) k p1) p2)) p3) pos) (tRevT X.K te) := by
  refine ⟨fun pins s σ H Q I h => ?_⟩
  refine Subscript_ (thn (he.run pins s σ H _ I h) fun v s1 ⟨x, H1, I1, r1, q1⟩ => ?_)
  obtain ⟨a, xs, ex, hx, q⟩ := q1
  subst ex
  cases r1
  have hst : PO X (some (.UnaryOp .USub (.Constant (.int 1) k p1) p2)) (tPart (tUn (rU fun i => .int (-i)) (tC (.int 1)))) := po_some (pe_un un_neg pe_int)
  refine wpAny_Slice (thn (po_none.run pins s1 σ H1 (fun o H2 => o = none ∧ H2 = H1) I1 ⟨rfl, rfl⟩) fun vl s2 ⟨l, H2, I2, pl, el, e2⟩ => ?_)
  subst el e2
  refine thn (po_none.run pins s2 σ H2 (fun o H3 => o = none ∧ H3 = H2) I2 ⟨rfl, rfl⟩) fun vu s3 ⟨u, H3, I3, pu, eu, e3⟩ => ?_
  subst eu e3
  refine thn (hst.run pins s3 σ H3 (fun o H4 => o = some (-1) ∧ H4 = H3) I3 ⟨1, rfl, -1, rfl, rfl, rfl⟩) fun vs s4 ⟨o, H4, I4, ps, eo, e4⟩ => ?_
  subst eo e4
  have I5 : Inv X pins σ H4 { s4 with heap := s4.heap.push { cls := .type "slice", data := .fields #[vl, vu, vs] } } := I4.kept (t' := s4.toks) fun b ob q => Heap.get?_push_of_some _ q
  obtain ⟨its, r, ht, hz⟩ := I5.tuple hx
  have hlen := r.length
  show wpAny (model X.prog X.w) X.A (subscriptTail e (.Slice none none (some (.UnaryOp .USub (.Constant (.int 1) k p1) p2)) p3) (.ref a) (.ref s4.heap.objs.size)) (EP X pins σ Q) X.xe { s4 with heap := s4.heap.push { cls := .type "slice", data := .fields #[vl, vu, vs] } }
  refine tail_any (ops := [.ref a, .ref s4.heap.objs.size]) ht.typeIs (PyProof.Rows.slot_tuple_getitem.lookup) ?_ (by with_unfolding_all rfl)
  refine getItem_tuple_back ht (Heap.IsSliceOf.new _ vl vu vs) pl pu ps ?_ (by rw [List.size_toArray]; omega)
  refine ⟨.ref _, _, I5.laid (t' := s4.toks) (o := .tup xs.reverse) (fun b ob q => Heap.get?_push_of_some _ q) (Nat.le_refl _) ?_, rfl, q _ (I5.hok.fresh (Nat.le_refl _))⟩
  exact ⟨by rw [List.length_reverse]; exact hz, _, r.reverse, IsTup.new _ _⟩

/-- how a truth is written -/
def shB (b : Bool) : Str := if b then "True" else "False"
/-- repr(b), b a truth -/
theorem call_reprB : CallR X (.builtin "repr") (fun xs H Q => ∃ b, xs = [.bl b] ∧ Q (.str (shB b)) H) := by
  intro pins s σ H xs us Q I r h
  obtain ⟨b, rfl, q⟩ := h
  obtain ⟨u, rfl, r1⟩ := vals1 r
  cases r1
  exact P.repr_of_bool ⟨.str (shB b), H, I.tok _, ⟨_, rfl⟩, q⟩
end
end NB

set_option Elab.async false
set_option linter.all false
set_option maxRecDepth 100000
namespace NB
open PySem PySem.Spec PyProof.Rows L2
/-- data that repr writes: at most w by weight, nested at most n deep -/
structure Small (d : PyData) (w n : Nat) : Prop where
  sh : d.showable = true
  nd : d.hasDict = false
  dp : d.depth ≤ n
  lv : d.leavesShort 100 = true
  wt : d.weight ≤ w
structure SmallAll (ds : List PyData) (w n : Nat) : Prop where
  sh : PyData.showableAll ds = true
  nd : PyData.hasDictAll ds = false
  dp : PyData.depthAll ds ≤ n
  lv : PyData.leavesShortAll 100 ds = true
  wt : PyData.weightAll ds ≤ w
theorem Small.int {i : Int} (h : i.natAbs < 10 ^ 90) : Small (.int i) 310 0 := by
  have lg : i.natAbs.log2 < 300 := by
    have h2 : i.natAbs < 2 ^ 300 := Nat.lt_of_lt_of_le h (by decide)
    by_cases e : i.natAbs = 0
    · rw [e]; decide
    · exact (Nat.log2_lt e).mpr h2
  refine ⟨?_, rfl, Nat.le_refl _, ?_, ?_⟩
  · simp only [PyData.showable, decide_eq_true_eq]
    omega
  · simp only [PyData.leavesShort, decide_eq_true_eq]
    have e := int_text_length_le10 (k := 90) (by decide) h
    show (Str.ofString (toString i)).length ≤ 100
    rw [PySem.ofString_length]
    omega
  · show (if i == 0 then 0 else i.natAbs.log2 + 1) ≤ 310
    split <;> omega
theorem Small.bool (b : Bool) : Small (.bool b) 0 0 := ⟨rfl, rfl, Nat.le_refl _, rfl, Nat.le_refl _⟩
theorem Small.none : Small .none 0 0 := ⟨rfl, rfl, Nat.le_refl _, rfl, Nat.le_refl _⟩
theorem SmallAll.nil : SmallAll [] 0 0 := ⟨rfl, rfl, Nat.le_refl _, rfl, Nat.le_refl _⟩
theorem SmallAll.cons {d : PyData} {ds : List PyData} {w v n m : Nat} (h : Small d w n) (h' : SmallAll ds v m) : SmallAll (d :: ds) (w + 1 + v) (max n m) := by
  obtain ⟨a1, a2, a3, a4, a5⟩ := h
  obtain ⟨b1, b2, b3, b4, b5⟩ := h'
  refine ⟨?_, ?_, ?_, ?_, ?_⟩
  · simp only [PyData.showableAll, a1, b1, Bool.and_self]
  · simp only [PyData.hasDictAll, a2, b2, Bool.or_self]
  · simp only [PyData.depthAll]
    omega
  · simp only [PyData.leavesShortAll, a4, b4, Bool.and_self]
  · simp only [PyData.weightAll]
    omega
theorem Small.list {ds : List PyData} {w n : Nat} (h : SmallAll ds w n) : Small (.list ds) w (n + 1) := by
  obtain ⟨a1, a2, a3, a4, a5⟩ := h
  refine ⟨?_, ?_, ?_, ?_, ?_⟩
  · simpa only [PyData.showable] using a1
  · simpa only [PyData.hasDict] using a2
  · simp only [PyData.depth]
    omega
  · simpa only [PyData.leavesShort] using a4
  · simpa only [PyData.weight] using a5
theorem Small.tuple {ds : List PyData} {w n : Nat} (h : SmallAll ds w n) : Small (.tuple ds) w (n + 1) := by
  obtain ⟨a1, a2, a3, a4, a5⟩ := h
  refine ⟨?_, ?_, ?_, ?_, ?_⟩
  · simpa only [PyData.showable] using a1
  · simpa only [PyData.hasDict] using a2
  · simp only [PyData.depth]
    omega
  · simpa only [PyData.leavesShort] using a4
  · simpa only [PyData.weight] using a5
theorem SmallAll.ints : ∀ {xs : List Int}, (∀ x ∈ xs, x.natAbs < 10 ^ 90) → SmallAll (xs.map PyData.int) (311 * xs.length) 0
  | [], _ => .nil
  | x :: xs, h => by
    have c := SmallAll.cons (Small.int (h x List.mem_cons_self)) (SmallAll.ints fun y hy => h y (List.mem_cons_of_mem _ hy))
    refine ⟨c.sh, c.nd, c.dp, c.lv, Nat.le_trans c.wt ?_⟩
    rw [List.length_cons]
    omega
theorem Small.ok {d : PyData} {w n : Nat} (h : Small d w n) (hw : w ≤ 150000) (hn : n ≤ 60) : Showable d := by
  refine ⟨h.sh, h.nd, Nat.le_trans h.dp hn, ?_⟩
  have e := PyData.shown_le 100 (by decide) d h.lv
  have := h.wt
  rw [sizeLine_eq]
  have : (100 + 2) * d.weight ≤ (100 + 2) * 150000 := Nat.mul_le_mul_left _ (Nat.le_trans h.wt hw)
  omega
/-- what Dp reads of a tuple of ints -/
theorem dp_ints {K : PySem.W.Frag} {H : Hp} : ∀ xs : List Int, DpAll K H (xs.map V.int) (xs.map PyData.int)
  | [] => .nil
  | x :: xs => .cons (.int x) (dp_ints xs)
theorem dp_tup {K : PySem.W.Frag} {H : Hp} {p : Addr} {xs : List Int} (h : SqT K H p (xs.map V.int)) : Dp K H (.ref p) (.tuple (xs.map PyData.int)) := .tup h (dp_ints xs)
end NB

set_option Elab.async false
set_option linter.all false
set_option maxRecDepth 100000
namespace K19
open PySem PySem.Spec PyProof.Rows L2 NB
def topS (i : Nat) : Stmt := PySem.Challenge.pw_notbothout_k19_whole_things_called_other.main.body.getD i (.Pass ⟨0, 0, 0, 0⟩)

/-- all that was tracked stands, but for what is at a -/
def But (a : Addr) (H H' : Hp) : Prop := ∀ b o, b ≠ a → H b = some o → H' b = some o
theorem But.of {a : Addr} {H H' : Hp} (h : Same H H') : But a H H' := fun b o _ e => h b o e
theorem But.trans {a : Addr} {H H1 H2 : Hp} (h : But a H H1) (h' : But a H1 H2) : But a H H2 := fun b o n e => h' b o n (h b o n e)
theorem But.seq {K : PySem.W.Frag} {a l : Addr} {H H' : Hp} {xs : List V} (h : But a H H') (n : l ≠ a) (q : SqL K H l xs) : SqL K H' l xs := by
  rcases q with (q | ⟨o, q⟩) | q
  · exact .inl (.inl (h _ _ n q))
  · exact .inl (.inr ⟨o, h _ _ n q⟩)
  · exact .inr q
theorem But.tup {K : PySem.W.Frag} {a l : Addr} {H H' : Hp} {xs : List V} (h : But a H H') (n : l ≠ a) (q : SqT K H l xs) : SqT K H' l xs := by
  rcases q with (q | ⟨o, q⟩) | q
  · exact .inl (.inl (h _ _ n q))
  · exact .inl (.inr ⟨o, h _ _ n q⟩)
  · exact .inr q
theorem sameT {K : PySem.W.Frag} {l : Addr} {H H' : Hp} {xs : List V} (h : Same H H') (q : SqT K H l xs) : SqT K H' l xs := by
  rcases q with (q | ⟨o, q⟩) | q
  · exact .inl (.inl (h _ _ q))
  · exact .inl (.inr ⟨o, h _ _ q⟩)
  · exact .inr q
theorem same_new {H : Hp} {p : Addr} {o : HO} (h : H p = none) : Same H (upd H p o) := fun b x e => by
  rw [upd_ne (ne_of_none e h)]
  exact e
/-- a cell that was free and is written stands apart from what was -/
theorem same_over {H H' : Hp} {p : Addr} {o : HO} (h : Same H H') (n : H p = none) : Same H (upd H' p o) := fun b x e => by
  rw [upd_ne (ne_of_none e n)]
  exact h b x e

theorem mapGet {α β : Type} {f : α → β} {xs : List α} {i : Nat} {y : β} (h : (xs.map f)[i]? = some y) : ∃ x, xs[i]? = some x ∧ y = f x := by
  rw [List.getElem?_map] at h
  cases e : xs[i]? with
  | none => rw [e] at h; cases h
  | some x => rw [e] at h; exact ⟨x, rfl, (Option.some.inj h).symm⟩

theorem take_map {α β : Type} (f : α → β) (xs : List α) (i : Nat) (y : α) (h : xs[i]? = some y) : (xs.take (i + 1)).map f = (xs.take i).map f ++ [f y] := by
  rw [List.take_add_one, h, List.map_append]
  rfl
theorem take_small {α : Type} {xs : List α} {i : Nat} (h : xs.length ≤ 1000) {β : Type} (f : α → β) : ((xs.take i).map f).length < sizeLine := by
  rw [List.length_map, List.length_take]
  exact Nat.lt_of_le_of_lt (Nat.min_le_right _ _) (small1000 h)

abbrev sPot : Stmt := topS 49
abbrev sTake : Stmt := topS 50
abbrev sOf : Stmt := topS 51
abbrev sStand : Stmt := topS 52
theorem scPot : FnScope ["_law_script", "_law_k", "_law_cell", "_law_great_here"] ["_law_script", "_law_k"] (defScope sPot) := ⟨rfl, rfl, rfl, by decide +kernel, rfl, by decide +kernel, by decide +kernel⟩
theorem scTake : FnScope ["_law_pot_here", "_law_many", "_law_digit", "_law_prime", "_law_mixed"] ["_law_pot_here", "_law_many"] (defScope sTake) := ⟨rfl, rfl, rfl, by decide +kernel, rfl, by decide +kernel, by decide +kernel⟩
theorem scOf : FnScope ["_law_pot_here", "_law_some"] ["_law_pot_here", "_law_some"] (defScope sOf) := ⟨rfl, rfl, rfl, by decide +kernel, rfl, by decide +kernel, by decide +kernel⟩
theorem scStand : FnScope ["_law_pot_here", "_law_tops", "_law_top"] ["_law_pot_here", "_law_tops"] (defScope sStand) := ⟨rfl, rfl, rfl, by decide +kernel, rfl, by decide +kernel, by decide +kernel⟩

/-- a pot out of which at most c numbers were taken by reckoning -/
def PotAt (H : Hp) (a : Addr) (c : Nat) : Prop := ∃ p q r : Int, H a = some (.lst [.int p, .int q, .int r]) ∧ 0 ≤ p ∧ 0 ≤ r ∧ r ≤ c
theorem PotAt.mono {H : Hp} {a : Addr} {c d : Nat} (h : PotAt H a c) (le : c ≤ d) : PotAt H a d := by
  obtain ⟨p, q, r, e, h1, h2, h3⟩ := h
  exact ⟨p, q, r, e, h1, h2, by omega⟩
theorem PotAt.keep {H H' : Hp} {a : Addr} {c : Nat} (h : PotAt H a c) (s : Same H H') : PotAt H' a c := by
  obtain ⟨p, q, r, e, h1, h2, h3⟩ := h
  exact ⟨p, q, r, s _ _ e, h1, h2, h3⟩
theorem PotAt.ne {H : Hp} {a b : Addr} {c : Nat} (h : PotAt H a c) (n : H b = none) : b ≠ a := by
  obtain ⟨p, q, r, e, _⟩ := h
  exact (ne_of_none e n).symm
theorem But.free {a b : Addr} {H H' : Hp} (h : But a H H') (ne : b ≠ a) (n : H' b = none) : H b = none := by
  cases e : H b with
  | none => rfl
  | some o =>
    rw [h b o ne e] at n
    cases n
theorem but_new {a p : Addr} {H H' : Hp} {o : HO} (h : But a H H') (n : H p = none) : But a H (upd H' p o) := fun b x ne e => by
  rw [upd_ne (ne_of_none e n)]
  exact h b x ne e
theorem but_at {a : Addr} {H H' : Hp} {o : HO} (h : But a H H') : But a H (upd H' a o) := fun b x ne e => by
  rw [upd_ne ne]
  exact h b x ne e

theorem prime_at (j : Int) (h0 : 0 ≤ j) (h4 : j < 4) : ∃ pr : Int, atI [V.int 2305843009213693951, V.int 999999999989, V.int 1000000000039, V.int 67280421310721] j = some (.int pr) ∧ 0 < pr ∧ pr < 2 ^ 62 := by
  have : j = 0 ∨ j = 1 ∨ j = 2 ∨ j = 3 := by omega
  rcases this with rfl | rfl | rfl | rfl
  · exact ⟨_, atI_nat (j := 0) rfl, by decide, by decide⟩
  · exact ⟨_, atI_nat (j := 1) rfl, by decide, by decide⟩
  · exact ⟨_, atI_nat (j := 2) rfl, by decide, by decide⟩
  · exact ⟨_, atI_nat (j := 3) rfl, by decide, by decide⟩

section
variable {P : Program} {w : World} {K : PySem.W.Frag} {mg : Str → Option Value} {base : Heap}

def spPot (K : PySem.W.Frag) : Sp := fun vs H Q _ => ∃ (a : Addr) (ns : List Int) (k : Nat), vs = [.ref a, .int k] ∧ SqL K H a (ns.map V.int) ∧ k ≤ 1000 ∧
  ∀ H' p, Same H H' → H p = none → PotAt H' p 0 → Q (.ref p) H'
theorem ok_pot {f : Addr} {fd : FuncData} {k : Nat} (F : Fun K "_law_pot" "_law_pot" sPot f fd) (ml : mg "len" = none) (ma : mg "abs" = none) (mi : mg "int" = none) : FnOk P w K mg base CX0 (k + 1) f fd ["_law_script", "_law_k"] (spPot K) := by
  refine F.ok scPot (fun vs H Q E h => ?_) (fun cdv A outer s H vs Q E hr h => ?_)
  · obtain ⟨a, ns, k, rfl, _⟩ := h
    rfl
  · obtain ⟨a, ns, k, rfl, hS, hk, q⟩ := h
    refine ⟨_, pss_cons (ps_set (i := 2) scPot.nd rfl (.inl rfl) (pe_ifExp (pt_cmpR op_lt (pv 1) (pe_callB call_len_seq (by rfl) ml PySem.boot_len (pa_cons (pv 0) pa_nil)) (nomark _)) (pe_ix ix_list (pv 0) (pv 1) (fun _ _ => rfl)) (pe_op op_add (pe_op op_mul pe_int (pv 1)) pe_int)))
      (pss_cons (ps_set (i := 3) scPot.nd rfl (.inl rfl) (pe_op op_mul (pe_op op_mod (pe_callB call_abs (by rfl) ma (by decide +kernel) (pa_cons (pv 2) pa_nil)) (pe_op op_powW (pe_op op_pow pe_int pe_int) pe_int))
          (pe_callTy call_int1 (by rfl) mi (by decide +kernel) (pa_cons (pe_cmpR op_ge (pe_callB call_abs (by rfl) ma (by decide +kernel) (pa_cons (pv 2) pa_nil)) (pe_op op_pow pe_int pe_int) (nomark _)) pa_nil))))
      (pss_one (ps_ret (pe_lst (pa_cons (pv 3) (pa_cons (pe_op op_mod (pe_op op_mul (pe_op op_add (pe_op op_add (pe_op op_mod (pv 2) pe_int) (pe_op op_mul (pe_op op_mul pe_int (pv 1)) (pv 1))) pe_int) pe_int) pe_int) (pa_cons pe_int pa_nil))))))), ?_⟩
    have k1 : -(2 ^ 64) < (k : Int) ∧ (k : Int) < 2 ^ 64 := by omega
    have big : (0 : Int) < (10 ^ (60 : Int).toNat) ^ (5 : Int).toNat := by decide +kernel
    have one : ∀ b : Bool, -(2 ^ 64) < (if b = true then (1 : Int) else 0) ∧ (if b = true then (1 : Int) else 0) < 2 ^ 64 := fun b => by cases b <;> decide
    have nn : ∀ (x : Int) (b : Bool), 0 ≤ x % (10 ^ (60 : Int).toNat) ^ (5 : Int).toNat * (if b = true then (1 : Int) else 0) := fun x b => Int.mul_nonneg (Int.emod_nonneg _ (Int.ne_of_gt big)) (by cases b <;> decide)
    refine ⟨.int k, rfl, .ref a, rfl, a, _, rfl, .inl hS, _, _, rfl, rfl, _, rfl, ite2 (fun c => ?_) (fun c => ?_)⟩
    · have c' := of_decide_eq_true c
      rw [List.length_map] at c'
      have lt : k < ns.length := by omega
      refine ⟨.ref a, rfl, .int k, rfl, a, _, k, .int ns[k], rfl, rfl, hS, atI_nat (by rw [List.getElem?_map, List.getElem?_eq_getElem lt]; rfl), ?_⟩
      refine ⟨.int ns[k], rfl, _, rfl, 10, 60, rfl, rfl, ⟨by decide, by decide, by decide⟩, _, 5, rfl, rfl, ⟨by decide, by decide +kernel⟩, _, _, rfl, rfl, big, .int ns[k], rfl, _, rfl, 10, 18, rfl, rfl, ⟨by decide, by decide, by decide⟩, _, _, rfl, rfl, .inr ⟨_, rfl, _, _, rfl, rfl, .inr (one _), ?_⟩⟩
      refine ⟨_, rfl, .int ns[k], rfl, _, 2305843009213693951, rfl, rfl, (show (0 : Int) < 2305843009213693951 by decide), .int k, rfl, 7919, k, rfl, rfl, .inl ⟨by decide, by decide⟩, .int k, rfl, _, k, rfl, rfl, .inr k1, _, _, rfl, rfl, _, 17, rfl, rfl, _, 48271, rfl, rfl, .inr ⟨by decide, by decide⟩, _, 2305843009213693921, rfl, rfl, (show (0 : Int) < 2305843009213693921 by decide), (show 3 ≤ sizeLine by decide), fun p np => ?_⟩
      exact q _ p (same_new np) np ⟨_, _, 0, upd_same, nn _ _, Int.le_refl _, Int.le_refl _⟩
    · refine ⟨.int k, rfl, 7, _, rfl, rfl, .inl ⟨by decide, by decide⟩, _, 3, rfl, rfl, ?_⟩
      refine ⟨_, rfl, _, rfl, 10, 60, rfl, rfl, ⟨by decide, by decide, by decide⟩, _, 5, rfl, rfl, ⟨by decide, by decide +kernel⟩, _, _, rfl, rfl, big, _, rfl, _, rfl, 10, 18, rfl, rfl, ⟨by decide, by decide, by decide⟩, _, _, rfl, rfl, .inr ⟨_, rfl, _, _, rfl, rfl, .inr (one _), ?_⟩⟩
      refine ⟨_, rfl, _, rfl, _, 2305843009213693951, rfl, rfl, (show (0 : Int) < 2305843009213693951 by decide), .int k, rfl, 7919, k, rfl, rfl, .inl ⟨by decide, by decide⟩, .int k, rfl, _, k, rfl, rfl, .inr k1, _, _, rfl, rfl, _, 17, rfl, rfl, _, 48271, rfl, rfl, .inr ⟨by decide, by decide⟩, _, 2305843009213693921, rfl, rfl, (show (0 : Int) < 2305843009213693921 by decide), (show 3 ≤ sizeLine by decide), fun p np => ?_⟩
      exact q _ p (same_new np) np ⟨_, _, 0, upd_same, nn _ _, Int.le_refl _, Int.le_refl _⟩

/-- a drawn number -/
def spTake : Sp := fun vs H Q _ => ∃ (a : Addr) (m : Int) (c : Nat), vs = [.ref a, .int m] ∧ PotAt H a c ∧ 1 ≤ m ∧ m < 2 ^ 200 ∧ c < 1000000 ∧
  ∀ (d : Int) H', But a H H' → PotAt H' a (c + 1) → 0 ≤ d → d < m → Q (.int d) H'
theorem ok_take {f : Addr} {fd : FuncData} {k : Nat} (F : Fun K "_law_take" "_law_take" sTake f fd) : FnOk P w K mg base CX0 (k + 1) f fd ["_law_pot_here", "_law_many"] spTake := by
  refine F.ok scTake (fun vs H Q E h => ?_) (fun cdv A outer s H vs Q E hr h => ?_)
  · obtain ⟨a, m, c, rfl, _⟩ := h
    rfl
  · obtain ⟨a, m, c, rfl, ⟨p0, p1, p2, ea, n0, n2, l2⟩, m1, m2, hc, q⟩ := h
    refine ⟨_, pss_cons (ps_if (pt_cmpR op_gt (pe_ix ix_list (pv 0) pe_int (fun _ _ => rfl)) pe_int (nomark _))
        (pss_cons (ps_set (i := 2) scTake.nd rfl (.inl rfl) (pe_op op_mod (pe_ix ix_list (pv 0) pe_int (fun _ _ => rfl)) (pv 1)))
        (pss_cons (ps_asg (pe_op op_fdivW (pe_ix ix_list (pv 0) pe_int (fun _ _ => rfl)) (pv 1)) (pg_sub (pv 0) pe_int set_list))
        (pss_one (ps_ret (pv 2))))) pss_nil)
      (pss_cons (ps_asg (pe_op op_add (pe_ix ix_list (pv 0) pe_int (fun _ _ => rfl)) pe_int) (pg_sub (pv 0) pe_int set_list))
      (pss_cons (ps_set (i := 3) scTake.nd rfl (.inl rfl) (pe_ix ix_list (pe_lst (pa_cons pe_int (pa_cons pe_int (pa_cons pe_int (pa_cons pe_int pa_nil))))) (pe_op op_mod (pe_ix ix_list (pv 0) pe_int (fun _ _ => rfl)) pe_int) (fun _ _ => rfl)))
      (pss_cons (ps_set (i := 4) scTake.nd rfl (.inl rfl) (pe_op op_mod (pe_op op_add (pe_op op_add (pe_ix ix_list (pv 0) pe_int (fun _ _ => rfl)) (pe_op op_mul (pe_op op_mul pe_int (pe_ix ix_list (pv 0) pe_int (fun _ _ => rfl))) (pe_ix ix_list (pv 0) pe_int (fun _ _ => rfl)))) (pe_op op_mul pe_int (pe_ix ix_list (pv 0) pe_int (fun _ _ => rfl)))) (pv 3)))
      (pss_cons (ps_set (i := 4) scTake.nd rfl (.inl rfl) (pe_op op_mod (pe_op op_pow (pv 4) pe_int) (pv 3)))
      (pss_one (ps_ret (pe_op op_mod (pe_op op_add (pe_op op_fdiv (pv 4) pe_int) (pe_op op_mul (pe_op op_fdiv (pv 4) pe_int) pe_int)) (pv 1)))))))), ?_⟩
    have mpos : (0 : Int) < m := by omega
    refine ⟨.ref a, rfl, a, _, 0, .int p0, rfl, rfl, .inl (.inl ea), atI_nat (j := 0) rfl, _, 0, rfl, rfl, _, rfl, ite2 (fun _ => ?_) (fun _ => ?_)⟩
    · refine ⟨.ref a, rfl, a, _, 0, .int p0, rfl, rfl, .inl (.inl ea), atI_nat (j := 0) rfl, .int m, rfl, p0, m, rfl, rfl, mpos, ?_⟩
      refine ⟨.ref a, rfl, a, _, 0, .int p0, rfl, rfl, .inl (.inl ea), atI_nat (j := 0) rfl, .int m, rfl, p0, m, rfl, rfl, wide_div (b := 200) mpos (by omega) (by decide) (by decide), ?_⟩
      refine ⟨.ref a, rfl, a, _, 0, 0, rfl, rfl, ea, rfl, ?_⟩
      refine ⟨.int (p0 % m), rfl, ?_⟩
      refine q _ _ (but_at (fun _ _ _ e => e)) ⟨p0 / m, p1, p2, upd_same, Int.ediv_nonneg n0 (by omega), n2, by omega⟩ (Int.emod_nonneg _ (by omega)) (Int.emod_lt_of_pos _ mpos)
    · refine ⟨.ref a, rfl, a, _, 2, .int p2, rfl, rfl, .inl (.inl ea), atI_nat (j := 2) rfl, p2, 1, rfl, rfl, ?_⟩
      refine ⟨.ref a, rfl, a, _, 2, 2, rfl, rfl, ea, rfl, ?_⟩
      obtain ⟨pr, epr, pp, pl⟩ := prime_at ((p2 + 1) % 4) (Int.emod_nonneg _ (by decide)) (Int.emod_lt_of_pos _ (by decide))
      have ea2 : (upd H a (.lst [.int p0, .int p1, .int (p2 + 1)])) a = some (.lst [.int p0, .int p1, .int (p2 + 1)]) := upd_same
      refine ⟨(show 4 ≤ sizeLine by decide), fun l nl => ?_⟩
      have nla : a ≠ l := ne_of_none ea2 nl
      have ea3 : (upd (upd H a (.lst [.int p0, .int p1, .int (p2 + 1)])) l (.lst [V.int 2305843009213693951, V.int 999999999989, V.int 1000000000039, V.int 67280421310721])) a = some (.lst [.int p0, .int p1, .int (p2 + 1)]) := (upd_ne nla).trans ea2
      refine ⟨.ref a, rfl, a, _, 2, .int (p2 + 1), rfl, rfl, .inl (.inl ea3), atI_nat (j := 2) rfl, p2 + 1, 4, rfl, rfl, (show (0 : Int) < 4 by decide), l, _, (p2 + 1) % 4, .int pr, rfl, rfl, .inl (.inl upd_same), epr, ?_⟩
      have b2 : -(2 ^ 64) < p2 + 1 ∧ p2 + 1 < 2 ^ 64 := by omega
      refine ⟨.ref a, rfl, a, _, 1, .int p1, rfl, rfl, .inl (.inl ea3), atI_nat (j := 1) rfl, .ref a, rfl, a, _, 2, .int (p2 + 1), rfl, rfl, .inl (.inl ea3), atI_nat (j := 2) rfl, 7919, p2 + 1, rfl, rfl, .inl ⟨by decide, by decide⟩, .ref a, rfl, a, _, 2, .int (p2 + 1), rfl, rfl, .inl (.inl ea3), atI_nat (j := 2) rfl, _, p2 + 1, rfl, rfl, .inr b2, _, _, rfl, rfl,
        .ref a, rfl, a, _, 2, .int (p2 + 1), rfl, rfl, .inl (.inl ea3), atI_nat (j := 2) rfl, 65537, p2 + 1, rfl, rfl, .inl ⟨by decide, by decide⟩, _, _, rfl, rfl, .int pr, rfl, _, pr, rfl, rfl, pp, ?_⟩
      have mx : ∀ e : Int, (e % pr).natAbs < 2 ^ 64 := fun e => by
        have h1 := Int.emod_nonneg e (Int.ne_of_gt pp)
        have h2 := Int.emod_lt_of_pos e pp
        omega
      refine ⟨_, rfl, _, 5, rfl, rfl, ⟨by decide, by decide, mx _⟩, .int pr, rfl, _, pr, rfl, rfl, pp, ?_⟩
      refine ⟨_, rfl, _, 4099, rfl, rfl, ⟨by decide, by decide⟩, _, rfl, _, 1000003, rfl, rfl, ⟨by decide, by decide⟩, _, 7, rfl, rfl, .inr ⟨by decide, by decide⟩, _, _, rfl, rfl, .int m, rfl, _, m, rfl, rfl, mpos, ?_⟩
      refine q _ _ ?_ ⟨p0, p1, p2 + 1, ea3, n0, by omega, by omega⟩ (Int.emod_nonneg _ (by omega)) (Int.emod_lt_of_pos _ mpos)
      exact but_new (but_at (fun _ _ _ e => e)) (by rw [upd_ne nla.symm] at nl; exact nl)
end

/-- a def that is known by its promise -/
structure Kn (P : Program) (w : World) (K : PySem.W.Frag) (mg : Str → Option Value) (base : Heap) (k : Nat) (x : Str) (ps : List Str) (sp : Sp) (f : Addr) (fd : FuncData) : Prop where
  ok : FnOk P w K mg base CX0 k f fd ps sp
  gl : mg x = some (.ref f)
  kp : PySem.W.keepIn K (.ref f) = true
  bi : Binds K fd ps []
theorem pe_kn {X : Cx} {k j : Nat} {x : Str} {ps : List Str} {sp : Sp} {f : Addr} {fd : FuncData} {p pos : Pos} {e : Expr} {es : List Expr} {t : TA} (C : Kn X.prog X.w X.K X.mg X.base k x ps sp f fd) (hr : Room j X.A) (hj : k ≤ j) (ha : PA X (e :: es) t) (hg : Gl X x := by rfl) (hdb : (x == ("__debug__" : Str)) = false := by decide)
    (he : starEach (e :: es) X.env = (false, eval e X.env) :: starEach es X.env := by rfl) (hpl : (backTo pos (starEach es X.env)).any (·.1) = false := by rfl) :
    PE X (.Call (.Name x p) (e :: es) [] pos) (tCall sp [] E0 t) := pe_call C.ok (hr.mono hj) hg C.gl C.kp C.bi .nil pass0 ha hdb he hpl

theorem But.tupP {K : PySem.W.Frag} {a t : Addr} {H H' : Hp} {c : Nat} {xs : List V} (b : But a H H') (p : PotAt H a c) (q : SqT K H t xs) : SqT K H' t xs := by
  obtain ⟨_, _, _, e, _⟩ := p
  rcases q with (q | ⟨o, q⟩) | q
  · exact .inl (.inl (b _ _ (ne_of q e (by intro z; cases z)) q))
  · exact .inl (.inr ⟨o, b _ _ (ne_of q e (by intro z; cases z)) q⟩)
  · exact .inr q
/-- places, or tops -/
def Pl (xs : List Int) : Prop := ∀ x ∈ xs, 0 ≤ x ∧ x < 10 ^ 30
theorem Pl.snoc {xs : List Int} {x : Int} (h : Pl xs) (h0 : 0 ≤ x) (h1 : x < 10 ^ 30) : Pl (xs ++ [x]) := fun y hy => by
  rcases List.mem_append.mp hy with q | q
  · exact h y q
  · rw [List.mem_singleton.mp q]
    exact ⟨h0, h1⟩

section
variable {P : Program} {w : World} {K : PySem.W.Frag} {mg : Str → Option Value} {base : Heap}

/-- one of some -/
def spOf (K : PySem.W.Frag) : Sp := fun vs H Q _ => ∃ (a l : Addr) (xs : List V) (c : Nat), vs = [.ref a, .ref l] ∧ PotAt H a c ∧ l ≠ a ∧ (SqL K H l xs ∨ SqT K H l xs) ∧ 1 ≤ xs.length ∧ xs.length ≤ 1000000 ∧ c < 1000000 ∧
  ∀ x H', x ∈ xs → But a H H' → PotAt H' a (c + 1) → Q x H'
theorem ok_of {f fT : Addr} {fd fdT : FuncData} {k : Nat} (F : Fun K "_law_of" "_law_of" sOf f fd) (T : Kn P w K mg base 1 "_law_take" ["_law_pot_here", "_law_many"] spTake fT fdT) (ml : mg "len" = none) : FnOk P w K mg base CX0 (k + 2) f fd ["_law_pot_here", "_law_some"] (spOf K) := by
  refine F.ok scOf (fun vs H Q E h => ?_) (fun cdv A outer s H vs Q E hr h => ?_)
  · obtain ⟨a, l, xs, c, rfl, _⟩ := h
    rfl
  · obtain ⟨a, l, xs, c, rfl, pa, ne, hl, l1, l2, hc, q⟩ := h
    refine ⟨_, pss_one (ps_ret (pe_ix ix_seq (pv 1) (pe_kn T hr (Nat.le_add_left 1 k) (pa_cons (pv 0) (pa_cons (pe_callB call_len_seq (by rfl) ml PySem.boot_len (pa_cons (pv 1) pa_nil)) pa_nil))) (fun _ _ => rfl))), ?_⟩
    refine ⟨.ref l, rfl, .ref a, rfl, .ref l, rfl, l, xs, rfl, hl, a, _, c, rfl, pa, by omega, ?_, hc, fun d H' b p' d0 dm => ?_⟩
    · have : (xs.length : Int) ≤ 1000000 := by omega
      exact Int.lt_of_le_of_lt this (by decide)
    have lt : d.toNat < xs.length := by omega
    have ei : atI xs d = some xs[d.toNat] := by
      have := atI_nat (xs := xs) (j := d.toNat) (List.getElem?_eq_getElem lt)
      rwa [Int.toNat_of_nonneg d0] at this
    have fin := q xs[d.toNat] H' (List.getElem_mem lt) b p'
    rcases hl with h | h
    · exact .inl ⟨l, xs, d, _, rfl, rfl, b.seq ne h, ei, fin⟩
    · exact .inr (.inl ⟨l, xs, d, _, rfl, rfl, b.tup ne h, ei, fin⟩)

/-- none beyond its top -/
def Le (st tops : List Int) : Prop := ∀ (i : Nat) (x t : Int), st[i]? = some x → tops[i]? = some t → x ≤ t
theorem Le.snoc {st tops : List Int} {x t : Int} (h : Le st tops) (e : tops[st.length]? = some t) (l : x ≤ t) : Le (st ++ [x]) tops := fun i y u h1 h2 => by
  rcases Nat.lt_or_ge i st.length with q | q
  · rw [List.getElem?_append_left q] at h1
    exact h i y u h1 h2
  · rw [List.getElem?_append_right q] at h1
    have e0 : i - st.length = 0 := by
      rcases Nat.eq_zero_or_pos (i - st.length) with z | z
      · exact z
      · rw [List.getElem?_eq_none (by simp only [List.length_cons, List.length_nil]; omega)] at h1
        cases h1
    have ei : i = st.length := by omega
    subst ei
    rw [e0] at h1
    cases h1
    rw [e] at h2
    cases h2
    exact l
/-- a standing -/
def spStand (K : PySem.W.Frag) : Sp := fun vs H Q _ => ∃ (a t : Addr) (tops : List Int) (c : Nat), vs = [.ref a, .ref t] ∧ PotAt H a c ∧ SqT K H t (tops.map V.int) ∧ Pl tops ∧ tops.length ≤ 12 ∧ c < 900000 ∧
  ∀ H' p st, But a H H' → PotAt H' a (c + 12) → H p = none → H' p = some (.tup (st.map V.int)) → st.length = tops.length → Pl st → Le st tops → Q (.ref p) H'
theorem ok_stand {f fT : Addr} {fd fdT : FuncData} {k : Nat} (F : Fun K "_law_standing" "_law_standing" sStand f fd) (T : Kn P w K mg base 1 "_law_take" ["_law_pot_here", "_law_many"] spTake fT fdT) (mt : mg "tuple" = none) : FnOk P w K mg base CX0 (k + 2) f fd ["_law_pot_here", "_law_tops"] (spStand K) := by
  refine F.ok scStand (fun vs H Q E h => ?_) (fun cdv A outer s H vs Q E hr h => ?_)
  · obtain ⟨a, t, tops, c, rfl, _⟩ := h
    rfl
  · obtain ⟨a, t, tops, c, rfl, pa, ht, pl, l12, hc, q⟩ := h
    refine ⟨_, pss_one (ps_ret (pe_callTy call_tuple_of (by rfl) mt (by decide +kernel) (pa_cons
      (pe_lc (own := [("_law_top", 2)]) (g := gName 2) (tt := tYes) rfl scStand.nd (pi_tup (pv 1)) (blkOk_by (N := ["_law_pot_here", "_law_tops", "_law_top"]) (sc := defScope sStand) (by decide +kernel))
        (fun _ _ _ _ _ => pg_name (i := 2) scStand.nd rfl (.inl rfl) (hf := .inr rfl)) (fun _ _ _ _ _ => pts_nil)
        (fun _ _ _ _ _ => pe_kn T hr (Nat.le_add_left 1 k) (pa_cons (pv 0) (pa_cons (pe_op op_add (pv 2) pe_int) pa_nil)))) pa_nil))), ?_⟩
    refine ⟨.ref t, rfl, t, rfl, ⟨_, ht⟩, fun D nD => lc_it (walk_tup (xs := tops.map V.int)) (fun i H' => But a H H' ∧ PotAt H' a (c + i) ∧ ∃ st : List Int, H' D = some (.lst (st.map V.int)) ∧ st.length = i ∧ Pl st ∧ Le st tops)
      ⟨but_new (fun _ _ _ e => e) nD, pa.keep (same_new nD), [], upd_same, rfl, fun _ h => absurd h List.not_mem_nil, fun i x t h => by simp at h⟩ (fun i H' _ p => p.1.tupP pa ht) (fun i v H1 H2 hi p y => ?_) (fun H' p => ?_)⟩
    · obtain ⟨b, p1, st, eD, sl, sp, sle⟩ := p
      obtain ⟨rfl, gv⟩ := y
      obtain ⟨x, ex, rfl⟩ := mapGet gv
      have hx := pl x (List.mem_of_getElem? ex)
      have hi' : i < tops.length := by simpa using hi
      refine ⟨rfl, .ref a, rfl, .int x, rfl, x, 1, rfl, rfl, a, x + 1, c + i, rfl, p1, by omega, ?_, by omega, fun d H3 b3 p3 d0 dm => ?_⟩
      · have : x + 1 ≤ 10 ^ 30 := by omega
        exact Int.lt_of_le_of_lt this (by decide)
      have nDa : D ≠ a := pa.ne nD
      refine ⟨_, b3 _ _ nDa eD, ?_, but_new (b.trans b3) nD, ?_, st ++ [d], ?_, ?_, sp.snoc d0 (by omega), sle.snoc (by rw [sl]; exact ex) (by omega)⟩
      · rw [List.length_map]
        exact small1000 (by omega)
      · obtain ⟨u, v, r, e, z⟩ := p3
        exact ⟨u, v, r, (upd_ne nDa.symm).trans e, z⟩
      · rw [upd_same, List.map_append]
        rfl
      · rw [List.length_append, sl]
        rfl
    · obtain ⟨b, p1, st, eD, sl, sp, sle⟩ := p
      rw [List.length_map] at p1 sl
      refine ⟨D, _, rfl, .inl ⟨.inl (.inl eD), fun l nl => ?_⟩⟩
      have nla : l ≠ a := p1.ne nl
      have nlH : H l = none := b.free nla nl
      refine q _ l st (but_new b nlH) (((p1.mono (by omega)).keep (same_new nl))) nlH upd_same sl sp sle
end

section
variable {P : Program} {w : World} {K : PySem.W.Frag} {mg : Str → Option Value} {base : Heap}

theorem pot_upd {H : Hp} {a p : Addr} {c : Nat} {o : HO} (h : PotAt H a c) (n : p ≠ a) : PotAt (upd H p o) a c := by
  obtain ⟨x, y, z, e, r⟩ := h
  exact ⟨x, y, z, (upd_ne n.symm).trans e, r⟩
theorem e15 : (10 : Int) ^ (15 : Int).toNat = 1000000000000000 := by decide
theorem e30 : (10 : Int) ^ (30 : Int).toNat = 10 ^ 30 := by decide

end
end K19

set_option Elab.async false
set_option linter.all false
set_option maxRecDepth 100000
namespace K19
open PySem PySem.Spec PyProof.Rows L2 NB

/-! ### what stands though lists change -/
/-- all but lists stands -/
def Keep (H H' : Hp) : Prop := ∀ b o, (∀ xs, o ≠ .lst xs) → H b = some o → H' b = some o
theorem Keep.refl (H : Hp) : Keep H H := fun _ _ _ e => e
theorem Keep.trans {H H1 H2 : Hp} (a : Keep H H1) (b : Keep H1 H2) : Keep H H2 := fun c o n e => b c o n (a c o n e)
theorem Keep.same {H H' : Hp} (h : Same H H') : Keep H H' := fun b o _ e => h b o e
theorem Keep.but {a : Addr} {H H' : Hp} {c : Nat} (h : But a H H') (p : PotAt H a c) : Keep H H' := fun b o n e => by
  obtain ⟨x, y, z, ea, _⟩ := p
  exact h b o (fun q => n _ (by rw [q, ea] at e; exact (Option.some.inj e).symm)) e
theorem Keep.upd {H : Hp} {l : Addr} {o : HO} {xs : List V} (e : H l = some (.lst xs)) : Keep H (upd H l o) := fun b x n q => by
  rw [upd_ne (fun z => n xs (by rw [z, e] at q; exact (Option.some.inj q).symm))]
  exact q
theorem Keep.tup {H H' : Hp} {p : Addr} {xs : List V} (k : Keep H H') (e : H p = some (.tup xs)) : H' p = some (.tup xs) := k _ _ (fun _ q => by cases q) e
theorem Keep.sq {K : PySem.W.Frag} {H H' : Hp} {p : Addr} {xs : List V} (k : Keep H H') (e : SqT K H p xs) : SqT K H' p xs := by
  rcases e with (q | ⟨o, q⟩) | q
  · exact .inl (.inl (k _ _ (fun _ q => by cases q) q))
  · exact .inl (.inr ⟨o, k _ _ (fun _ q => by cases q) q⟩)
  · exact .inr q

/-! ### sides, rules, plans as data and as objects -/
abbrev Sd := Nat × Bool × Int
abbrev Rl := Sd × Sd
def word (b : Bool) : Str := if b then "from" else "to"
def SideAt (H : Hp) (p : Addr) (s : Sd) : Prop := H p = some (.tup [.int s.1, .str (word s.2.1), .int s.2.2])
def RuleAt (H : Hp) (r : Addr) (q : Rl) : Prop := ∃ p1 p2, H r = some (.tup [.ref p1, .ref p2]) ∧ SideAt H p1 q.1 ∧ SideAt H p2 q.2
def RulesAt (H : Hp) (R : Addr) (rs : List Rl) : Prop := ∃ as : List Addr, H R = some (.tup (as.map V.ref)) ∧ as.length = rs.length ∧ ∀ (i : Nat) (r : Addr) (q : Rl), as[i]? = some r → rs[i]? = some q → RuleAt H r q
def PlanAt (C : Addr) (H : Hp) (x : Addr) (tops : List Int) (rs : List Rl) : Prop := ∃ dx t R, H x = some (.ins C dx [("tops", .ref t), ("rules", .ref R)]) ∧ H t = some (.tup (tops.map V.int)) ∧ RulesAt H R rs
theorem SideAt.keep {H H' : Hp} {p : Addr} {s : Sd} (h : SideAt H p s) (k : Keep H H') : SideAt H' p s := k.tup h
theorem RuleAt.keep {H H' : Hp} {p : Addr} {q : Rl} (h : RuleAt H p q) (k : Keep H H') : RuleAt H' p q := by
  obtain ⟨p1, p2, e, h1, h2⟩ := h
  exact ⟨p1, p2, k.tup e, h1.keep k, h2.keep k⟩
theorem RulesAt.keep {H H' : Hp} {R : Addr} {rs : List Rl} (h : RulesAt H R rs) (k : Keep H H') : RulesAt H' R rs := by
  obtain ⟨as, e, l, a⟩ := h
  exact ⟨as, k.tup e, l, fun i r q h1 h2 => (a i r q h1 h2).keep k⟩
theorem PlanAt.keep {C : Addr} {H H' : Hp} {x : Addr} {tops : List Int} {rs : List Rl} (h : PlanAt C H x tops rs) (k : Keep H H') : PlanAt C H' x tops rs := by
  obtain ⟨dx, t, R, e, et, er⟩ := h
  exact ⟨dx, t, R, k _ _ (fun _ q => by cases q) e, k.tup et, er.keep k⟩
/-- a side of the plan -/
def SideOk (tops : List Int) (s : Sd) : Prop := ∃ t, tops[s.1]? = some t ∧ 0 ≤ s.2.2 ∧ s.2.2 ≤ t
def RuleOk (tops : List Int) (q : Rl) : Prop := SideOk tops q.1 ∧ SideOk tops q.2
theorem word_in (b : Bool) : inV (.str (word b)) [.str "from", .str "to"] = true := by cases b <;> decide +kernel
theorem word_from : word true = "from" := rfl

abbrev kWhole : Stmt := topS 9
abbrev kPlace : Stmt := topS 10
abbrev kTops : Stmt := topS 11
abbrev kSide : Stmt := topS 12
abbrev kSides : Stmt := topS 13
abbrev kRule : Stmt := topS 14
abbrev kRules : Stmt := topS 15
abbrev kInit : Stmt := inClass (topS 47) 0
theorem scWhole : FnScope ["thing"] ["thing"] (defScope kWhole) := ⟨rfl, rfl, rfl, by decide +kernel, rfl, by decide +kernel, by decide +kernel⟩
theorem scPlace : FnScope ["top", "thing"] ["top", "thing"] (defScope kPlace) := ⟨rfl, rfl, rfl, by decide +kernel, rfl, by decide +kernel, by decide +kernel⟩
theorem scTops : FnScope ["thing", "top"] ["thing"] (defScope kTops) := ⟨rfl, rfl, rfl, by decide +kernel, rfl, by decide +kernel, by decide +kernel⟩
theorem scSide : FnScope ["tops", "thing", "number", "word", "place"] ["tops", "thing"] (defScope kSide) := ⟨rfl, rfl, rfl, by decide +kernel, rfl, by decide +kernel, by decide +kernel⟩
theorem scSides : FnScope ["tops", "thing", "side"] ["tops", "thing"] (defScope kSides) := ⟨rfl, rfl, rfl, by decide +kernel, rfl, by decide +kernel, by decide +kernel⟩
theorem scRule : FnScope ["tops", "thing"] ["tops", "thing"] (defScope kRule) := ⟨rfl, rfl, rfl, by decide +kernel, rfl, by decide +kernel, by decide +kernel⟩
theorem scRules : FnScope ["tops", "thing", "rule"] ["tops", "thing"] (defScope kRules) := ⟨rfl, rfl, rfl, by decide +kernel, rfl, by decide +kernel, by decide +kernel⟩
theorem scInit : FnScope ["self", "tops", "rules"] ["self", "tops", "rules"] (defScope kInit) := ⟨rfl, rfl, rfl, by decide +kernel, rfl, by decide +kernel, by decide +kernel⟩

section
variable {P : Program} {w : World} {K : PySem.W.Frag} {mg : Str → Option Value} {base : Heap}

def spWhole : Sp := fun vs H Q _ => ∃ i : Int, vs = [.int i] ∧ Q (.bl true) H
theorem ok_whole {f : Addr} {fd : FuncData} {k : Nat} (F : Fun K "is_whole" "is_whole" kWhole f fd) (ms : mg "isinstance" = none) (mi : mg "int" = none) (mb : mg "bool" = none) : FnOk P w K mg base CX0 (k + 1) f fd ["thing"] spWhole := by
  refine F.ok scWhole (fun vs H Q E h => ?_) (fun cdv A outer s H vs Q E hr h => ?_)
  · obtain ⟨i, rfl, _⟩ := h
    rfl
  · obtain ⟨i, rfl, q⟩ := h
    refine ⟨_, pss_one (ps_ret (pe_and (pe_callB call_isi (by rfl) ms (by decide +kernel) (pa_cons (pv 0) (pa_cons (pe_bltn (v := .ty "int") (u := .type "int") (by rfl) mi (by decide +kernel) rfl) pa_nil)))
      (pe_one (pe_not (pe_callB call_isi (by rfl) ms (by decide +kernel) (pa_cons (pv 0) (pa_cons (pe_bltn (v := .ty "bool") (u := .type "bool") (by rfl) mb (by decide +kernel) rfl) pa_nil))))))), ?_⟩
    refine ⟨.int i, rfl, _, _, _, _, true, rfl, .ty "int", .base (.int i), kit_ty (by decide +kernel), true, rfl, iteT ?_⟩
    exact ⟨.int i, rfl, _, _, _, _, false, rfl, .ty "bool", .base (.int i), kit_ty (by decide +kernel), false, rfl, q⟩

def spPlace : Sp := fun vs H Q _ => ∃ t i : Int, vs = [.int t, .int i] ∧ Q (.bl (decide (0 ≤ i) && decide (i ≤ t))) H
theorem ok_place {f fW : Addr} {fd fdW : FuncData} {k : Nat} (F : Fun K "is_place" "is_place" kPlace f fd) (W : Kn P w K mg base 1 "is_whole" ["thing"] spWhole fW fdW) : FnOk P w K mg base CX0 (k + 2) f fd ["top", "thing"] spPlace := by
  refine F.ok scPlace (fun vs H Q E h => ?_) (fun cdv A outer s H vs Q E hr h => ?_)
  · obtain ⟨t, i, rfl, _⟩ := h
    rfl
  · obtain ⟨t, i, rfl, q⟩ := h
    refine ⟨_, pss_one (ps_ret (pe_and (pe_kn W hr (by omega) (pa_cons (pv 1) pa_nil)) (pe_one (pe_chain op_le op_le pe_int (pv 1) (pv 0))))), ?_⟩
    refine ⟨.int i, rfl, i, rfl, true, rfl, iteT ?_⟩
    refine ⟨.int i, rfl, 0, i, rfl, rfl, _, rfl, ite2 (fun c => ?_) (fun c => ?_)⟩
    · rw [show decide (0 ≤ i) = true from c, Bool.true_and] at q
      exact ⟨.int t, rfl, i, t, rfl, rfl, q⟩
    · rw [Bool.eq_false_iff.mpr c, Bool.false_and] at q
      exact q

def spTops (K : PySem.W.Frag) : Sp := fun vs H Q _ => ∃ (a : Addr) (tops : List Int), vs = [.ref a] ∧ H a = some (.tup (tops.map V.int)) ∧ 1 ≤ tops.length ∧ tops.length ≤ 12 ∧ Pl tops ∧ ∀ H', Same H H' → Q (.bl true) H'
theorem ok_tops {f fP : Addr} {fd fdP : FuncData} {k : Nat} {t1 t2 : Tok} (F : Fun K "are_tops" "are_tops" kTops f fd) (Pc : Kn P w K mg base 2 "is_place" ["top", "thing"] spPlace fP fdP) (ms : mg "isinstance" = none) (mt : mg "tuple" = none) (ml : mg "len" = none) (ma : mg "all" = none)
    (g1 : mg "MOST_THINGS" = some (.int 12 t1)) (g2 : mg "BEYOND_THIRTY_FIGURES" = some (.int 1000000000000000000000000000000 t2)) : FnOk P w K mg base CX0 (k + 3) f fd ["thing"] (spTops K) := by
  refine F.ok scTops (fun vs H Q E h => ?_) (fun cdv A outer s H vs Q E hr h => ?_)
  · obtain ⟨a, tops, rfl, _⟩ := h
    rfl
  · obtain ⟨a, tops, rfl, ea, l1, l12, pl, q⟩ := h
    refine ⟨_, pss_cons (ps_if (PW.pt (pw_or (pt_not (pt_val (pe_callB call_isi (by rfl) ms (by decide +kernel) (pa_cons (pv 0) (pa_cons (pe_bltn (v := .ty "tuple") (u := .type "tuple") (by rfl) mt (by decide +kernel) rfl) pa_nil)))))
        (pw_or1 (pt_not (pt_chain op_le op_le pe_int (pe_callB call_len_seq (by rfl) ml PySem.boot_len (pa_cons (pv 0) pa_nil)) (pe_glob (v := .int 12) rfl g1 ⟨_, rfl⟩)))))) (pss_one (ps_ret pe_bl)) pss_nil)
      (pss_one (ps_ret (pe_callB (cr_all rfl) (by rfl) ma (by decide +kernel) (pa_cons
        (pe_lc (own := [("top", 1)]) (g := gName 1) (tt := tYes) (te := tCall spPlace [] E0 (tCons (tOp (rI0 fun i j => .int (i - j)) (tC (.int 1000000000000000000000000000000)) (tC (.int 1))) (tCons (tVar 1) tNil))) rfl scTops.nd (pi_tup (pv 0)) (blkOk_by (N := ["thing", "top"]) (sc := defScope kTops) (by decide +kernel))
          (fun _ _ _ _ _ => pg_name (i := 1) scTops.nd rfl (.inl rfl) (hf := .inr rfl)) (fun _ _ _ _ _ => pts_nil)
          (fun _ _ _ _ _ => pe_kn Pc hr (by omega) (pa_cons (pe_op op_sub (pe_glob (v := .int 1000000000000000000000000000000) rfl g2 ⟨_, rfl⟩) pe_int) (pa_cons (pv 1) pa_nil)))) pa_nil)))), ?_⟩
    refine ⟨.ref a, rfl, _, _, _, _, true, rfl, .ty "tuple", .base (.tup ea), kit_ty (by decide +kernel), true, rfl, iteF ?_⟩
    refine ⟨.ref a, rfl, a, _, rfl, .inr (.inl (.inl ea)), 1, _, rfl, rfl, true, ?_, iteT ⟨_, 12, rfl, rfl, true, ?_, iteF ?_⟩⟩
    · rw [List.length_map]
      exact congrArg V.bl (decide_eq_true (by omega))
    · rw [List.length_map]
      exact congrArg V.bl (decide_eq_true (by omega))
    refine ⟨.ref a, rfl, a, rfl, ⟨_, .inl (.inl ea)⟩, fun D nD => lc_it (walk_tup (xs := tops.map V.int)) (fun i H' => Same H H' ∧ H' D = some (.lst ((List.replicate i true).map V.bl))) ⟨same_new nD, upd_same⟩ (fun i H' _ p => .inl (.inl (p.1 _ _ ea))) (fun i v H1 H2 hi p y => ?_) (fun H' p => ?_)⟩
    · obtain ⟨sm, eD⟩ := p
      obtain ⟨rfl, gv⟩ := y
      obtain ⟨x, ex, rfl⟩ := mapGet gv
      have hx := pl x (List.mem_of_getElem? ex)
      have hi' : i < tops.length := by simpa using hi
      refine ⟨rfl, _, _, rfl, rfl, .int x, rfl, _, x, rfl, _, eD, by rw [List.length_map, List.length_replicate]; exact small1000 (by omega), same_over sm nD, ?_⟩
      rw [upd_same, decide_eq_true hx.1, decide_eq_true (show x ≤ 1000000000000000000000000000000 - 1 by have := hx.2; omega), List.replicate_succ', List.map_append]
      rfl
    · obtain ⟨sm, eD⟩ := p
      refine ⟨D, _, rfl, .inl (.inl eD), ?_⟩
      rw [show (List.replicate (tops.map V.int).length true).all id = true by simp]
      exact q H' sm

def spSide (K : PySem.W.Frag) : Sp := fun vs H Q _ => ∃ (t p : Addr) (tops : List Int) (sd : Sd), vs = [.ref t, .ref p] ∧ H t = some (.tup (tops.map V.int)) ∧ SideAt H p sd ∧ SideOk tops sd ∧ Q (.bl true) H
theorem ok_side {f fP wa : Addr} {fd fdP : FuncData} {k : Nat} (F : Fun K "is_side_of" "is_side_of" kSide f fd) (Pc : Kn P w K mg base 2 "is_place" ["top", "thing"] spPlace fP fdP) (ms : mg "isinstance" = none) (mt : mg "tuple" = none) (ml : mg "len" = none) (mr : mg "str" = none)
    (g1 : mg "WORDS" = some (.ref wa)) (hW : ∀ H, SqT K H wa [.str "from", .str "to"]) : FnOk P w K mg base CX0 (k + 3) f fd ["tops", "thing"] (spSide K) := by
  refine F.ok scSide (fun vs H Q E h => ?_) (fun cdv A outer s H vs Q E hr h => ?_)
  · obtain ⟨t, p, tops, sd, rfl, _⟩ := h
    rfl
  · obtain ⟨t, p, tops, ⟨n, b, pl⟩, rfl, et, ep, ⟨tp, eg, p0, p1⟩, q⟩ := h
    have ep' : H p = some (.tup [.int (n : Int), .str (word b), .int pl]) := ep
    have hn : n < tops.length := (List.getElem?_eq_some_iff.mp eg).1
    refine ⟨_, pss_cons (ps_if (PW.pt (pw_or (pt_not (pt_val (pe_callB call_isi (by rfl) ms (by decide +kernel) (pa_cons (pv 1) (pa_cons (pe_bltn (v := .ty "tuple") (u := .type "tuple") (by rfl) mt (by decide +kernel) rfl) pa_nil)))))
        (pw_or1 (pt_cmpR op_ne (pe_callB call_len_seq (by rfl) ml PySem.boot_len (pa_cons (pv 1) pa_nil)) pe_int (nomark _))))) (pss_one (ps_ret pe_bl)) pss_nil)
      (pss_cons (ps_asg (pv 1) (pg_tup (by rfl) (pgs_cons (pg_name (i := 2) scSide.nd rfl (.inl rfl)) (pgs_cons (pg_name (i := 3) scSide.nd rfl (.inl rfl)) (pgs_cons (pg_name (i := 4) scSide.nd rfl (.inl rfl)) pgs_nil)))))
      (pss_cons (ps_if (pt_not (pt_val (pe_kn Pc hr (by omega) (pa_cons (pe_op op_sub (pe_callB call_len_seq (by rfl) ml PySem.boot_len (pa_cons (pv 0) pa_nil)) pe_int) (pa_cons (pv 2) pa_nil))))) (pss_one (ps_ret pe_bl)) pss_nil)
      (pss_one (ps_ret (pe_and (pe_callB call_isi (by rfl) ms (by decide +kernel) (pa_cons (pv 3) (pa_cons (pe_bltn (v := .ty "str") (u := .type "str") (by rfl) mr (by decide +kernel) rfl) pa_nil)))
        (pe_and (pe_cmpR op_in_seq (pv 3) (pe_glob (v := .ref wa) rfl g1 rfl) (by rfl)) (pe_one (pe_kn Pc hr (by omega) (pa_cons (pe_ix ix_tup (pv 0) (pv 2) (fun _ _ => rfl)) (pa_cons (pv 4) pa_nil)))))))))), ?_⟩
    refine ⟨.ref p, rfl, _, _, _, _, true, rfl, .ty "tuple", .base (.tup ep'), kit_ty (by decide +kernel), true, rfl, iteF ?_⟩
    refine ⟨.ref p, rfl, p, _, rfl, .inr (.inl (.inl ep')), rfl, _, rfl, iteNS rfl ?_⟩
    refine ⟨.ref p, rfl, p, _, rfl, .inl (.inl ep'), rfl, _, _, rfl, _, _, rfl, _, _, rfl, rfl, ?_⟩
    refine ⟨.ref t, rfl, t, _, rfl, .inr (.inl (.inl et)), _, 1, rfl, rfl, .int n, rfl, _, n, rfl, true, ?_, iteF ?_⟩
    · rw [List.length_map, decide_eq_true (show (0 : Int) ≤ n by omega), decide_eq_true (show (n : Int) ≤ tops.length - 1 by omega)]
      rfl
    refine ⟨_, rfl, _, _, _, _, true, rfl, .ty "str", .base (.str _), kit_ty (by decide +kernel), true, rfl, iteT ?_⟩
    refine ⟨_, rfl, wa, _, rfl, .inr (hW H), rfl, by decide +kernel, true, ?_, iteT ?_⟩
    · rw [word_in]
      rfl
    refine ⟨.ref t, rfl, .int n, rfl, t, _, n, .int tp, rfl, rfl, .inl (.inl et), atI_nat (by rw [List.getElem?_map, eg]; rfl), .int pl, rfl, tp, pl, rfl, ?_⟩
    rw [decide_eq_true p0, decide_eq_true p1]
    exact q

/-- a run of truths that a comprehension makes -/
theorem all_true (n : Nat) : (List.replicate n true).all id = true := by simp
theorem more_true (n : Nat) : (List.replicate (n + 1) true).map V.bl = (List.replicate n true).map V.bl ++ [V.bl true] := by
  rw [List.replicate_succ', List.map_append]
  rfl

def spSides (K : PySem.W.Frag) : Sp := fun vs H Q _ => ∃ (t r : Addr) (tops : List Int) (as : List Addr), vs = [.ref t, .ref r] ∧ H t = some (.tup (tops.map V.int)) ∧ H r = some (.tup (as.map V.ref)) ∧ as.length ≤ 100 ∧ (∀ p ∈ as, ∃ sd, SideAt H p sd ∧ SideOk tops sd) ∧ ∀ H', Same H H' → Q (.bl true) H'
theorem ok_sides {f fP : Addr} {fd fdP : FuncData} {k : Nat} (F : Fun K "are_sides_of" "are_sides_of" kSides f fd) (Si : Kn P w K mg base 3 "is_side_of" ["tops", "thing"] (spSide K) fP fdP) (ms : mg "isinstance" = none) (mt : mg "tuple" = none) (ma : mg "all" = none) : FnOk P w K mg base CX0 (k + 4) f fd ["tops", "thing"] (spSides K) := by
  refine F.ok scSides (fun vs H Q E h => ?_) (fun cdv A outer s H vs Q E hr h => ?_)
  · obtain ⟨t, r, tops, as, rfl, _⟩ := h
    rfl
  · obtain ⟨t, r, tops, as, rfl, et, er, l, ok, q⟩ := h
    refine ⟨_, pss_one (ps_ret (pe_and (pe_callB call_isi (by rfl) ms (by decide +kernel) (pa_cons (pv 1) (pa_cons (pe_bltn (v := .ty "tuple") (u := .type "tuple") (by rfl) mt (by decide +kernel) rfl) pa_nil)))
      (pe_one (pe_callB (cr_all rfl) (by rfl) ma (by decide +kernel) (pa_cons
        (pe_lc (own := [("side", 2)]) (g := gName 2) (tt := tYes) (te := tCall (spSide K) [] E0 (tCons (tVar 0) (tCons (tVar 2) tNil))) rfl scSides.nd (pi_tup (pv 1)) (blkOk_by (N := ["tops", "thing", "side"]) (sc := defScope kSides) (by decide +kernel))
          (fun _ _ _ _ _ => pg_name (i := 2) scSides.nd rfl (.inl rfl) (hf := .inr rfl)) (fun _ _ _ _ _ => pts_nil)
          (fun _ _ _ _ _ => pe_kn Si hr (by omega) (pa_cons (pv 0) (pa_cons (pv 2) pa_nil)))) pa_nil))))), ?_⟩
    refine ⟨.ref r, rfl, _, _, _, _, true, rfl, .ty "tuple", .base (.tup er), kit_ty (by decide +kernel), true, rfl, iteT ?_⟩
    refine ⟨.ref r, rfl, r, rfl, ⟨_, .inl (.inl er)⟩, fun D nD => lc_it (walk_tup (xs := as.map V.ref)) (fun i H' => Same H H' ∧ H' D = some (.lst ((List.replicate i true).map V.bl))) ⟨same_new nD, upd_same⟩ (fun i H' _ p => .inl (.inl (p.1 _ _ er))) (fun i v H1 H2 hi p y => ?_) (fun H' p => ?_)⟩
    · obtain ⟨sm, eD⟩ := p
      obtain ⟨rfl, gv⟩ := y
      obtain ⟨x, ex, rfl⟩ := mapGet gv
      have hi' : i < as.length := by simpa using hi
      obtain ⟨sd, a1, a2⟩ := ok x (List.mem_of_getElem? ex)
      refine ⟨rfl, .ref t, rfl, .ref x, rfl, t, x, tops, sd, rfl, sm _ _ et, a1.keep (.same sm), a2, _, eD, by rw [List.length_map, List.length_replicate]; exact small1000 (by omega), same_over sm nD, ?_⟩
      rw [upd_same, more_true]
    · obtain ⟨sm, eD⟩ := p
      refine ⟨D, _, rfl, .inl (.inl eD), ?_⟩
      rw [all_true]
      exact q H' sm

def spRule (K : PySem.W.Frag) : Sp := fun vs H Q _ => ∃ (t r : Addr) (tops : List Int) (rl : Rl), vs = [.ref t, .ref r] ∧ H t = some (.tup (tops.map V.int)) ∧ RuleAt H r rl ∧ RuleOk tops rl ∧ ∀ H', Same H H' → Q (.bl true) H'
theorem ok_rule {f fP : Addr} {fd fdP : FuncData} {k : Nat} (F : Fun K "is_rule_of" "is_rule_of" kRule f fd) (Ss : Kn P w K mg base 4 "are_sides_of" ["tops", "thing"] (spSides K) fP fdP) (ml : mg "len" = none) : FnOk P w K mg base CX0 (k + 5) f fd ["tops", "thing"] (spRule K) := by
  refine F.ok scRule (fun vs H Q E h => ?_) (fun cdv A outer s H vs Q E hr h => ?_)
  · obtain ⟨t, r, tops, rl, rfl, _⟩ := h
    rfl
  · obtain ⟨t, r, tops, rl, rfl, et, ⟨p1, p2, er, h1, h2⟩, ok, q⟩ := h
    refine ⟨_, pss_one (ps_ret (pe_and (pe_kn Ss hr (by omega) (pa_cons (pv 0) (pa_cons (pv 1) pa_nil))) (pe_one (pe_cmpR op_eq (pe_callB call_len_seq (by rfl) ml PySem.boot_len (pa_cons (pv 1) pa_nil)) pe_int (nomark _))))), ?_⟩
    refine ⟨.ref t, rfl, .ref r, rfl, t, r, tops, [p1, p2], rfl, et, er, (show 2 ≤ 100 by decide), fun p hp => ?_, fun H' sm => ⟨true, rfl, iteT ?_⟩⟩
    · simp only [List.mem_cons, List.not_mem_nil, or_false] at hp
      rcases hp with e | e <;> rw [e]
      · exact ⟨_, h1, ok.1⟩
      · exact ⟨_, h2, ok.2⟩
    · exact ⟨.ref r, rfl, r, _, rfl, .inr (.inl (.inl (sm _ _ er))), rfl, q H' sm⟩

def spRules (K : PySem.W.Frag) : Sp := fun vs H Q _ => ∃ (t R : Addr) (tops : List Int) (rs : List Rl), vs = [.ref t, .ref R] ∧ H t = some (.tup (tops.map V.int)) ∧ RulesAt H R rs ∧ rs.length ≤ 40 ∧ (∀ q ∈ rs, RuleOk tops q) ∧ ∀ H', Same H H' → Q (.bl true) H'
theorem ok_rules {f fP : Addr} {fd fdP : FuncData} {k : Nat} {t1 : Tok} (F : Fun K "are_rules_of" "are_rules_of" kRules f fd) (Ru : Kn P w K mg base 5 "is_rule_of" ["tops", "thing"] (spRule K) fP fdP) (ms : mg "isinstance" = none) (mt : mg "tuple" = none) (ml : mg "len" = none) (ma : mg "all" = none)
    (g1 : mg "MOST_RULES" = some (.int 40 t1)) : FnOk P w K mg base CX0 (k + 6) f fd ["tops", "thing"] (spRules K) := by
  refine F.ok scRules (fun vs H Q E h => ?_) (fun cdv A outer s H vs Q E hr h => ?_)
  · obtain ⟨t, R, tops, rs, rfl, _⟩ := h
    rfl
  · obtain ⟨t, R, tops, rs, rfl, et, ⟨as, eR, la, ha⟩, l40, ok, q⟩ := h
    refine ⟨_, pss_cons (ps_if (PW.pt (pw_or (pt_not (pt_val (pe_callB call_isi (by rfl) ms (by decide +kernel) (pa_cons (pv 1) (pa_cons (pe_bltn (v := .ty "tuple") (u := .type "tuple") (by rfl) mt (by decide +kernel) rfl) pa_nil)))))
        (pw_or1 (pt_cmpR op_gt (pe_callB call_len_seq (by rfl) ml PySem.boot_len (pa_cons (pv 1) pa_nil)) (pe_glob (v := .int 40) rfl g1 ⟨_, rfl⟩) (nomark _))))) (pss_one (ps_ret pe_bl)) pss_nil)
      (pss_one (ps_ret (pe_callB (cr_all rfl) (by rfl) ma (by decide +kernel) (pa_cons
        (pe_lc (own := [("rule", 2)]) (g := gName 2) (tt := tYes) (te := tCall (spRule K) [] E0 (tCons (tVar 0) (tCons (tVar 2) tNil))) rfl scRules.nd (pi_tup (pv 1)) (blkOk_by (N := ["tops", "thing", "rule"]) (sc := defScope kRules) (by decide +kernel))
          (fun _ _ _ _ _ => pg_name (i := 2) scRules.nd rfl (.inl rfl) (hf := .inr rfl)) (fun _ _ _ _ _ => pts_nil)
          (fun _ _ _ _ _ => pe_kn Ru hr (by omega) (pa_cons (pv 0) (pa_cons (pv 2) pa_nil)))) pa_nil)))), ?_⟩
    refine ⟨.ref R, rfl, _, _, _, _, true, rfl, .ty "tuple", .base (.tup eR), kit_ty (by decide +kernel), true, rfl, iteF ?_⟩
    refine ⟨.ref R, rfl, R, _, rfl, .inr (.inl (.inl eR)), _, 40, rfl, rfl, false, ?_, iteF ?_⟩
    · rw [List.length_map]
      exact congrArg V.bl (decide_eq_false (by omega))
    refine ⟨.ref R, rfl, R, rfl, ⟨_, .inl (.inl eR)⟩, fun D nD => lc_it (walk_tup (xs := as.map V.ref)) (fun i H' => Same H H' ∧ H' D = some (.lst ((List.replicate i true).map V.bl))) ⟨same_new nD, upd_same⟩ (fun i H' _ p => .inl (.inl (p.1 _ _ eR))) (fun i v H1 H2 hi p y => ?_) (fun H' p => ?_)⟩
    · obtain ⟨sm, eD⟩ := p
      obtain ⟨rfl, gv⟩ := y
      obtain ⟨x, ex, rfl⟩ := mapGet gv
      have hi' : i < as.length := by simpa using hi
      have hr' : i < rs.length := by omega
      have eq : rs[i]? = some rs[i] := List.getElem?_eq_getElem hr'
      refine ⟨rfl, .ref t, rfl, .ref x, rfl, t, x, tops, rs[i], rfl, sm _ _ et, (ha i x _ ex eq).keep (.same sm), ok _ (List.getElem_mem hr'), fun H3 s3 => ?_⟩
      have sm3 := sm.trans s3
      refine ⟨_, s3 _ _ eD, by rw [List.length_map, List.length_replicate]; exact small1000 (by omega), same_over sm3 nD, ?_⟩
      rw [upd_same, more_true]
    · obtain ⟨sm, eD⟩ := p
      refine ⟨D, _, rfl, .inl (.inl eD), ?_⟩
      rw [all_true]
      exact q H' sm

/-- what is asked of the class as the top has made it -/
structure PlanTxt (K : PySem.W.Frag) (mg : Str → Option Value) (C : Addr) : Prop where
  cl : Cls K C
  nT : NoAttr K C "tops"
  nR : NoAttr K C "rules"
  mgC : mg "Plan" = some (.ref C)
theorem put_two (t R : Addr) : putF "rules" (V.ref R) (putF "tops" (V.ref t) []) = ([("tops", V.ref t), ("rules", V.ref R)] : List (Str × V)) := by
  have n : ¬ (("tops" : Str) = "rules") := by decide +kernel
  show (if ("tops" : Str) = "rules" then [(("tops" : Str), V.ref R)] else (("tops" : Str), V.ref t) :: putF "rules" (V.ref R) []) = _
  rw [if_neg n]
  rfl
def spInit (C : Addr) : Sp := fun vs H Q _ => ∃ (x dx t R : Addr) (tops : List Int) (rs : List Rl), vs = [.ref x, .ref t, .ref R] ∧ H x = some (.ins C dx []) ∧ H t = some (.tup (tops.map V.int)) ∧ RulesAt H R rs ∧ 1 ≤ tops.length ∧ tops.length ≤ 12 ∧ Pl tops ∧ rs.length ≤ 40 ∧ (∀ q ∈ rs, RuleOk tops q) ∧
  ∀ H', (∀ b o, b ≠ x → H b = some o → H' b = some o) → H' x = some (.ins C dx [("tops", .ref t), ("rules", .ref R)]) → Q .non H'
theorem ok_init {f C fT fR : Addr} {fd fdT fdR : FuncData} {k : Nat} {dvs : List V} {kws : List (Str × V)} (F : FunD K "__init__" "Plan.__init__" (defArgs kInit) (defBody kInit) (defScope kInit) dvs kws f fd) (T : PlanTxt K mg C) (To : Kn P w K mg base 3 "are_tops" ["thing"] (spTops K) fT fdT) (Ru : Kn P w K mg base 6 "are_rules_of" ["tops", "thing"] (spRules K) fR fdR) :
    FnOk P w K mg base CX0 (k + 7) f fd ["self", "tops", "rules"] (spInit C) := by
  refine F.ok scInit (fun vs H Q E h => ?_) (fun cdv A outer s H vs Q E hr h => ?_)
  · obtain ⟨x, dx, t, R, tops, rs, rfl, _⟩ := h
    rfl
  · obtain ⟨x, dx, t, R, tops, rs, rfl, ex, et, eR, l1, l12, pl, l40, ok, q⟩ := h
    refine ⟨_, pss_cons (ps_if (pt_not (pt_val (pe_kn To hr (by omega) (pa_cons (pv 1) pa_nil)))) (pss_one ps_never) pss_nil)
      (pss_cons (ps_if (pt_not (pt_val (pe_kn Ru hr (by omega) (pa_cons (pv 1) (pa_cons (pv 2) pa_nil))))) (pss_one ps_never) pss_nil)
      (pss_cons (ps_fld (pv 0) (pv 1) rfl) (pss_one (ps_fld (pv 0) (pv 2) rfl)))), ?_⟩
    refine ⟨.ref t, rfl, t, tops, rfl, et, l1, l12, pl, fun H1 s1 => ⟨true, rfl, iteF ?_⟩⟩
    refine ⟨.ref t, rfl, .ref R, rfl, t, R, tops, rs, rfl, s1 _ _ et, eR.keep (.same s1), l40, ok, fun H2 s2 => ⟨true, rfl, iteF ?_⟩⟩
    have s02 := s1.trans s2
    refine ⟨.ref t, rfl, .ref x, rfl, x, C, dx, [], rfl, s02 _ _ ex, T.cl, T.nT, (show 0 < 1000 by decide), ?_⟩
    refine ⟨.ref R, rfl, .ref x, rfl, x, C, dx, _, rfl, upd_same, T.cl, T.nR, (show 1 < 1000 by decide), ?_⟩
    refine q _ (fun b o ne e => ?_) ?_
    · rw [upd_ne ne, upd_ne ne]
      exact s02 _ _ e
    · rw [upd_same]
      exact congrArg (fun z => some (HO.ins C dx z)) (put_two t R)
/-- Plan(tops, rules) -/
theorem plan_made {C x dx : Addr} {H : Hp} {t R : Addr} {tops : List Int} {rs : List Rl} {W : VK} {E : XK} (nx : H x = none) (ndx : H dx = none) (ne : dx ≠ x) (et : H t = some (.tup (tops.map V.int))) (eR : RulesAt H R rs) (l1 : 1 ≤ tops.length) (l12 : tops.length ≤ 12) (pl : Pl tops) (l40 : rs.length ≤ 40) (ok : ∀ q ∈ rs, RuleOk tops q)
    (q : ∀ H', Same H H' → PlanAt C H' x tops rs → W .non H') : spInit C [.ref x, .ref t, .ref R] (upd (upd H dx (.own x)) x (.ins C dx [])) W E := by
  have s1 : Same H (upd (upd H dx (.own x)) x (.ins C dx [])) := (same_new ndx).trans (same_new (by rw [upd_ne ne.symm]; exact nx))
  refine ⟨x, dx, t, R, tops, rs, rfl, upd_same, s1 _ _ et, eR.keep (.same s1), l1, l12, pl, l40, ok, fun H' k ex => ?_⟩
  have s2 : Same H H' := fun b o e => k b o (ne_of_none e nx) (s1 b o e)
  exact q H' s2 ⟨dx, t, R, ex, s2 _ _ et, eR.keep (.same s2)⟩
end
end K19

set_option Elab.async false
set_option linter.all false
set_option maxRecDepth 100000
namespace K19
open PySem PySem.Spec PyProof.Rows L2 NB

/-! ### standings -/
def inB (st : List Int) (s : Sd) : Bool := match st[s.1]? with
  | some v => if s.2.1 then decide (s.2.2 ≤ v) else decide (v ≤ s.2.2)
  | none => false
def kept (st : List Int) (q : Rl) : Bool := inB st q.1 || inB st q.2
/-- the numbers of the rules that are broken -/
def brok (st : List Int) (rs : List Rl) : List Int := rs.zipIdx.filterMap fun p => if kept st p.1 then none else some (p.2 : Int)
theorem brok_take (st : List Int) (rs : List Rl) (i : Nat) (q : Rl) (h : rs[i]? = some q) : brok st (rs.take (i + 1)) = brok st (rs.take i) ++ (if kept st q then [] else [(i : Int)]) := by
  have hi : i < rs.length := (List.getElem?_eq_some_iff.mp h).1
  have hl : (rs.take i).length = i := by rw [List.length_take]; omega
  unfold brok
  rw [List.take_add_one, h, List.zipIdx_append, List.filterMap_append, hl]
  congr 1
  show List.filterMap _ [(q, 0 + i)] = _
  simp only [List.filterMap_cons, List.filterMap_nil, Nat.zero_add]
  split <;> split <;> simp_all
theorem brok_len (st : List Int) (rs : List Rl) : (brok st rs).length ≤ rs.length := by
  unfold brok
  refine Nat.le_trans (List.length_filterMap_le _ _) ?_
  rw [List.length_zipIdx]
  exact Nat.le_refl _
theorem brok_nil (st : List Int) (rs : List Rl) : (brok st rs = []) ↔ rs.all (kept st) = true := by
  unfold brok
  rw [List.filterMap_eq_nil_iff, List.all_eq_true]
  constructor
  · intro h q hq
    obtain ⟨i, hi, e⟩ := List.getElem_of_mem hq
    have := h (q, i) (by rw [List.mem_zipIdx_iff_getElem?]; simp [hi, e])
    cases c : kept st q with
    | true => rfl
    | false => rw [c] at this; simp at this
  · rintro h ⟨q, i⟩ hq
    have hm : q ∈ rs := List.mem_of_getElem? (by rw [List.mem_zipIdx_iff_getElem?] at hq; exact hq)
    simp [h q hm]
theorem eqv_ints : ∀ xs ys : List Int, PyData.eqvAll (xs.map PyData.int) (ys.map PyData.int) = decide (xs = ys)
  | [], [] => by simp [PyData.eqvAll]
  | [], _ :: _ => by simp [PyData.eqvAll]
  | _ :: _, [] => by simp [PyData.eqvAll]
  | x :: xs, y :: ys => by
    simp only [List.map_cons, PyData.eqvAll, PyData.eqv, eqv_ints xs ys, List.cons.injEq, Bool.decide_and]
    congr 1
theorem lay_ints : ∀ xs : List Int, PyData.canLayAll0 (xs.map PyData.int) = true
  | [] => rfl
  | x :: xs => by simp only [List.map_cons, PyData.canLayAll0, PyData.canLay0, lay_ints xs, Bool.and_self]
theorem depth_ints : ∀ xs : List Int, PyData.depthAll (xs.map PyData.int) = 0
  | [] => rfl
  | x :: xs => by simp only [List.map_cons, PyData.depthAll, PyData.depth, depth_ints xs, Nat.max_self]
theorem shaped_ints (xs : List Int) : SeqAt.shaped (.tuple (xs.map PyData.int)) = true := by
  unfold SeqAt.shaped
  simp only [PyData.canLay0, lay_ints, PyData.depth, depth_ints, Bool.true_and]
  decide
theorem dps {K : PySem.W.Frag} {H : Hp} : ∀ xs : List Int, DpAll K H (xs.map V.int) (xs.map PyData.int)
  | [] => .nil
  | x :: xs => .cons (.int x) (dps xs)
theorem dpt {K : PySem.W.Frag} {H : Hp} {p : Addr} {xs : List Int} (h : H p = some (.tup (xs.map V.int))) : Dp K H (.ref p) (.tuple (xs.map PyData.int)) := .tup (.inl (.inl h)) (dps xs)

theorem w_from : decide (V.str (word true) = V.str "from") = true := by decide +kernel
theorem w_to : decide (V.str (word false) = V.str "from") = false := by decide +kernel

section
variable {P : Program} {w : World} {K : PySem.W.Frag} {mg : Str → Option Value} {base : Heap}

def spIn : Sp := fun vs H Q _ => ∃ (p t : Addr) (sd : Sd) (xs : List Int), vs = [.ref p, .ref t] ∧ SideAt H p sd ∧ H t = some (.tup (xs.map V.int)) ∧ sd.1 < xs.length ∧ Q (.bl (inB xs sd)) H
def Fit (xs : List Int) (q : Rl) : Prop := q.1.1 < xs.length ∧ q.2.1 < xs.length
theorem look_rules (t R : Addr) : ([("tops", V.ref t), ("rules", V.ref R)] : List (Str × V)).lookup ("rules" : Str) = some (V.ref R) := by
  have n : (("rules" : Str) == "tops") = false := by decide +kernel
  simp [List.lookup, n]
theorem look_tops (t R : Addr) : ([("tops", V.ref t), ("rules", V.ref R)] : List (Str × V)).lookup ("tops" : Str) = some (V.ref t) := by
  simp [List.lookup]

end
end K19

set_option Elab.async false
set_option linter.all false
set_option maxRecDepth 100000
namespace K19
open PySem PySem.Spec PyProof.Rows L2 NB

/-! ### the law's own draws -/
abbrev aSideIn : Stmt := topS 53
abbrev aRules : Stmt := topS 54
theorem scSideIn : FnScope ["_law_pot_here", "_law_tops", "_law_standing_here", "_law_thing"] ["_law_pot_here", "_law_tops", "_law_standing_here"] (defScope aSideIn) := ⟨rfl, rfl, rfl, by decide +kernel, rfl, by decide +kernel, by decide +kernel⟩
theorem scRulesL : FnScope ["_law_pot_here", "_law_tops", "_law_one", "_law_two", "_law_many", "_law_found", "_law_turn", "_law_both"] ["_law_pot_here", "_law_tops", "_law_one", "_law_two", "_law_many"] (defScope aRules) := ⟨rfl, rfl, rfl, by decide +kernel, rfl, by decide +kernel, by decide +kernel⟩

/-- a standing of the plan's tops -/
structure Std (tops : List Int) (H : Hp) (p : Addr) (st : List Int) : Prop where
  at' : H p = some (.tup (st.map V.int))
  len : st.length = tops.length
  pl : Pl st
  le : Le st tops
theorem Std.keep {tops : List Int} {H H' : Hp} {p : Addr} {st : List Int} (h : Std tops H p st) (k : Keep H H') : Std tops H' p st := ⟨k.tup h.at', h.len, h.pl, h.le⟩
abbrev refs (ps : List (Addr × List Int)) : List V := ps.map fun q => V.ref q.1
theorem words_mem {x : V} (h : x ∈ [V.str "from", V.str "to"]) : ∃ b, x = .str (word b) := by
  simp only [List.mem_cons, List.not_mem_nil, or_false] at h
  rcases h with e | e
  · exact ⟨true, e⟩
  · exact ⟨false, e⟩
theorem len_bd {tops : List Int} (l12 : tops.length ≤ 12) : (tops.length : Int) < 2 ^ 200 := Int.lt_of_le_of_lt (show (tops.length : Int) ≤ 12 by omega) (by decide)
theorem top_bd {t : Int} (h : t < 10 ^ 30) : t + 1 < 2 ^ 200 := Int.lt_of_le_of_lt (show t + 1 ≤ 10 ^ 30 by omega) (by decide)
theorem inB_from {st : List Int} {n : Nat} {pl : Int} (h : n < st.length) (l : pl ≤ st[n]) : inB st (n, true, pl) = true := by
  unfold inB
  simp [List.getElem?_eq_getElem h, l]
theorem inB_to {st : List Int} {n : Nat} {pl : Int} (h : n < st.length) (l : st[n] ≤ pl) : inB st (n, false, pl) = true := by
  unfold inB
  simp [List.getElem?_eq_getElem h, l]
theorem fit_of {tops : List Int} {q : Rl} (h : RuleOk tops q) {xs : List Int} (l : xs.length = tops.length) : Fit xs q := by
  obtain ⟨⟨t1, e1, _⟩, ⟨t2, e2, _⟩⟩ := h
  exact ⟨by rw [l]; exact (List.getElem?_eq_some_iff.mp e1).1, by rw [l]; exact (List.getElem?_eq_some_iff.mp e2).1⟩
/-- rules one by one -/
theorem rules_snoc {H H' : Hp} {as : List Addr} {rs : List Rl} {r : Addr} {q : Rl} (la : as.length = rs.length) (h : ∀ (i : Nat) (r : Addr) (q : Rl), as[i]? = some r → rs[i]? = some q → RuleAt H r q) (k : Keep H H') (e : RuleAt H' r q) :
    ∀ (i : Nat) (r' : Addr) (q' : Rl), (as ++ [r])[i]? = some r' → (rs ++ [q])[i]? = some q' → RuleAt H' r' q' := fun i r' q' h1 h2 => by
  rcases Nat.lt_or_ge i as.length with c | c
  · rw [List.getElem?_append_left c] at h1
    rw [List.getElem?_append_left (by omega)] at h2
    exact (h i r' q' h1 h2).keep k
  · rw [List.getElem?_append_right c] at h1
    rw [List.getElem?_append_right (by omega)] at h2
    have e0 : i - as.length = 0 := by
      rcases Nat.eq_zero_or_pos (i - as.length) with z | z
      · exact z
      · rw [List.getElem?_eq_none (by simp only [List.length_cons, List.length_nil]; omega)] at h1
        cases h1
    have e1 : i - rs.length = 0 := by omega
    rw [e0] at h1
    rw [e1] at h2
    cases h1
    cases h2
    exact e
theorem at_int {xs : List Int} {n : Nat} (h : n < xs.length) : atI (xs.map V.int) (n : Int) = some (.int xs[n]) := atI_nat (by rw [List.getElem?_map, List.getElem?_eq_getElem h]; rfl)
theorem ixN_nat {m n : Nat} (h : n < m) : ixN m (n : Int) = some n := by
  unfold ixN
  rw [if_pos (by omega), if_pos (by omega)]
  rfl
theorem set_ok {tops st : List Int} {n : Nat} {v : Int} (l : st.length = tops.length) (p : Pl st) (le : Le st tops) (hn : n < tops.length) (v0 : 0 ≤ v) (v1 : v ≤ tops[n]) (v2 : tops[n] < 10 ^ 30) : (st.set n v).length = tops.length ∧ Pl (st.set n v) ∧ Le (st.set n v) tops := by
  refine ⟨by rw [List.length_set, l], fun x hx => ?_, fun i x t h1 h2 => ?_⟩
  · rcases List.mem_or_eq_of_mem_set hx with h | h
    · exact p x h
    · rw [h]
      exact ⟨v0, by omega⟩
  · by_cases c : n = i
    · subst c
      rw [List.getElem?_set_self (by omega)] at h1
      cases h1
      rw [List.getElem?_eq_getElem hn] at h2
      cases h2
      exact v1
    · rw [List.getElem?_set_ne c] at h1
      exact le i x t h1 h2

section
variable {P : Program} {w : World} {K : PySem.W.Frag} {mg : Str → Option Value} {base : Heap}

def spSideIn : Sp := fun vs H Q _ => ∃ (a t s : Addr) (tops st : List Int) (c : Nat), vs = [.ref a, .ref t, .ref s] ∧ PotAt H a c ∧ H t = some (.tup (tops.map V.int)) ∧ Pl tops ∧ 1 ≤ tops.length ∧ tops.length ≤ 12 ∧ Std tops H s st ∧ c < 900000 ∧
  ∀ H' p sd, But a H H' → PotAt H' a (c + 3) → SideAt H' p sd → SideOk tops sd → inB st sd = true → Q (.ref p) H'
theorem ok_sideIn {f fT : Addr} {fd fdT : FuncData} {k : Nat} (F : Fun K "_law_side_in" "_law_side_in" aSideIn f fd) (T : Kn P w K mg base 1 "_law_take" ["_law_pot_here", "_law_many"] spTake fT fdT) (ml : mg "len" = none) : FnOk P w K mg base CX0 (k + 2) f fd ["_law_pot_here", "_law_tops", "_law_standing_here"] spSideIn := by
  refine F.ok scSideIn (fun vs H Q E h => ?_) (fun cdv A outer s H vs Q E hr h => ?_)
  · obtain ⟨a, t, s, tops, st, c, rfl, _⟩ := h
    rfl
  · obtain ⟨a, t, s', tops, st, c, rfl, pa, et, pl, l1, l12, S, hc, q⟩ := h
    refine ⟨_, pss_cons (ps_set (i := 3) scSideIn.nd rfl (.inl rfl) (pe_kn T hr (by omega) (pa_cons (pv 0) (pa_cons (pe_callB call_len_seq (by rfl) ml PySem.boot_len (pa_cons (pv 1) pa_nil)) pa_nil))))
      (pss_cons (ps_if (pt_cmpR op_eq (pe_kn T hr (by omega) (pa_cons (pv 0) (pa_cons pe_int pa_nil))) pe_int (nomark _))
        (pss_one (ps_ret (pe_tup (pa_cons (pv 3) (pa_cons pe_str (pa_cons (pe_kn T hr (by omega) (pa_cons (pv 0) (pa_cons (pe_op op_add (pe_ix ix_tup (pv 2) (pv 3) (fun _ _ => rfl)) pe_int) pa_nil))) pa_nil)))))) pss_nil)
      (pss_one (ps_ret (pe_tup (pa_cons (pv 3) (pa_cons pe_str (pa_cons (pe_op op_add (pe_ix ix_tup (pv 2) (pv 3) (fun _ _ => rfl)) (pe_kn T hr (by omega) (pa_cons (pv 0) (pa_cons (pe_op op_add (pe_op op_sub (pe_ix ix_tup (pv 1) (pv 3) (fun _ _ => rfl)) (pe_ix ix_tup (pv 2) (pv 3) (fun _ _ => rfl))) pe_int) pa_nil)))) pa_nil))))))), ?_⟩
    refine ⟨.ref a, rfl, .ref t, rfl, t, _, rfl, .inr (.inl (.inl et)), a, _, _, rfl, pa, by rw [List.length_map]; omega, by rw [List.length_map]; exact len_bd l12, by omega, fun n H1 b1 p1 n0 n1 => ?_⟩
    rw [List.length_map] at n1
    obtain ⟨n, rfl⟩ : ∃ m : Nat, n = m := ⟨n.toNat, by omega⟩
    have hn : n < tops.length := by omega
    have hs : n < st.length := by rw [S.len]; exact hn
    have ht := pl tops[n] (List.getElem_mem hn)
    have hv := S.pl st[n] (List.getElem_mem hs)
    have hle := S.le n _ _ (List.getElem?_eq_getElem hs) (List.getElem?_eq_getElem hn)
    refine ⟨.ref a, rfl, a, 2, _, rfl, p1, by decide, by decide, by omega, fun z H2 b2 p2 z0 z1 => ⟨rfl, _, rfl, ite2 (fun _ => ?_) (fun _ => ?_)⟩⟩
    · have k2 := (Keep.but b1 pa).trans (Keep.but b2 p1)
      refine ⟨.int n, rfl, .ref a, rfl, .ref s', rfl, .int n, rfl, s', _, n, _, rfl, rfl, .inl (.inl (k2.tup S.at')), at_int hs, _, 1, rfl, rfl, a, _, _, rfl, p2, by omega, top_bd hv.2, by omega, fun d H3 b3 p3 d0 d1 => ?_⟩
      refine ⟨(show 3 ≤ sizeLine by decide), fun p np => ?_⟩
      have npa : p ≠ a := p3.ne np
      have bA := (b1.trans b2).trans b3
      exact q _ p (n, true, d) (but_new bA (bA.free npa np)) (pot_upd (p3.mono (by omega)) npa) upd_same ⟨tops[n], List.getElem?_eq_getElem hn, d0, by show d ≤ tops[n]; omega⟩ (inB_from hs (by omega))
    · have k2 := (Keep.but b1 pa).trans (Keep.but b2 p1)
      refine ⟨.int n, rfl, .ref s', rfl, .int n, rfl, s', _, n, _, rfl, rfl, .inl (.inl (k2.tup S.at')), at_int hs, .ref a, rfl, .ref t, rfl, .int n, rfl, t, _, n, _, rfl, rfl, .inl (.inl (k2.tup et)), at_int hn, .ref s', rfl, .int n, rfl, s', _, n, _, rfl, rfl, .inl (.inl (k2.tup S.at')), at_int hs, _, _, rfl, rfl, _, 1, rfl, rfl, a, _, _, rfl, p2, by omega, top_bd (by omega), by omega, fun d H3 b3 p3 d0 d1 => ?_⟩
      refine ⟨_, d, rfl, rfl, (show 3 ≤ sizeLine by decide), fun p np => ?_⟩
      have npa : p ≠ a := p3.ne np
      have bA := (b1.trans b2).trans b3
      exact q _ p (n, false, st[n] + d) (but_new bA (bA.free npa np)) (pot_upd (p3.mono (by omega)) npa) upd_same ⟨tops[n], List.getElem?_eq_getElem hn, by show 0 ≤ st[n] + d; omega, by show st[n] + d ≤ tops[n]; omega⟩ (inB_to hs (by omega))

def spRulesL : Sp := fun vs H Q _ => ∃ (a t o1 o2 : Addr) (tops st1 st2 : List Int) (m : Int) (c : Nat), vs = [.ref a, .ref t, .ref o1, .ref o2, .int m] ∧ PotAt H a c ∧ H t = some (.tup (tops.map V.int)) ∧ Pl tops ∧ 1 ≤ tops.length ∧ tops.length ≤ 12 ∧ Std tops H o1 st1 ∧ Std tops H o2 st2 ∧ 0 ≤ m ∧ m ≤ 16 ∧ c < 800000 ∧
  ∀ H' R rs, But a H H' → PotAt H' a (c + 112) → RulesAt H' R rs → (rs.length : Int) ≤ m → (∀ q ∈ rs, RuleOk tops q ∧ kept st1 q = true ∧ kept st2 q = true) → Q (.ref R) H'
theorem ok_rulesL {f fT fS : Addr} {fd fdT fdS : FuncData} {k : Nat} (F : Fun K "_law_rules" "_law_rules" aRules f fd) (T : Kn P w K mg base 1 "_law_take" ["_law_pot_here", "_law_many"] spTake fT fdT)
    (S : Kn P w K mg base 2 "_law_side_in" ["_law_pot_here", "_law_tops", "_law_standing_here"] spSideIn fS fdS) (mr : mg "range" = none) (mt : mg "tuple" = none) : FnOk P w K mg base CX0 (k + 3) f fd ["_law_pot_here", "_law_tops", "_law_one", "_law_two", "_law_many"] spRulesL := by
  refine F.ok scRulesL (fun vs H Q E h => ?_) (fun cdv A outer s H vs Q E hr h => ?_)
  · obtain ⟨a, t, o1, o2, tops, st1, st2, m, c, rfl, _⟩ := h
    rfl
  · obtain ⟨a, t, o1, o2, tops, st1, st2, m, c, rfl, pa, et, pl, l1, l12, S1, S2, m0, m16, hc, q⟩ := h
    refine ⟨_, pss_cons (ps_set (i := 5) scRulesL.nd rfl (.inl rfl) (pe_lst pa_nil))
      (pss_cons (ps_for PassesOwn.never rfl (pi_range1 (by rfl) mr (pa_cons (pv 4) pa_nil)) (pg_name (i := 6) scRulesL.nd rfl (.inl rfl))
        (pss_cons (ps_set (i := 7) scRulesL.nd rfl (.inl rfl) (pe_tup (pa_cons (pe_kn S hr (by omega) (pa_cons (pv 0) (pa_cons (pv 1) (pa_cons (pv 2) pa_nil)))) (pa_cons (pe_kn S hr (by omega) (pa_cons (pv 0) (pa_cons (pv 1) (pa_cons (pv 3) pa_nil)))) pa_nil))))
        (pss_one (ps_expr (pe_bm PySem.F.plainAttrs_list PySem.F.slot_list_append PySem.F.type_list_append mt_append (pv 5) (pa_cons (pe_ifExp (pt_cmpR op_eq (pe_kn T hr (by omega) (pa_cons (pv 0) (pa_cons pe_int pa_nil))) pe_int (nomark _)) (pe_revT (pv 7)) (pv 7)) pa_nil))))))
      (pss_one (ps_ret (pe_callTy call_tuple_of (by rfl) mt (by decide +kernel) (pa_cons (pv 5) pa_nil))))), ?_⟩
    refine ⟨Nat.zero_le _, fun l nl => ?_⟩
    have nla : l ≠ a := pa.ne nl
    refine ⟨.int m, rfl, m, rfl, by omega, by omega, for_it walk_range (fun i σ H' => (∃ u v, σ = [some (.ref a), some (.ref t), some (.ref o1), some (.ref o2), some (.int m), some (.ref l), u, v]) ∧ But a H H' ∧ PotAt H' a (c + 7 * i) ∧ ∃ (as : List Addr) (rs : List Rl), H' l = some (.lst (as.map V.ref)) ∧ as.length = i ∧ as.length = rs.length ∧ (∀ (j : Nat) (r : Addr) (q : Rl), as[j]? = some r → rs[j]? = some q → RuleAt H' r q) ∧ ∀ q ∈ rs, RuleOk tops q ∧ kept st1 q = true ∧ kept st2 q = true)
      ⟨⟨none, none, rfl⟩, but_new (fun _ _ _ e => e) nl, pot_upd pa nla, [], [], upd_same, rfl, rfl, fun j r q h => by simp at h, fun _ h => absurd h List.not_mem_nil⟩ (fun _ _ _ _ _ => trivial) (fun i v σ H2 H3 hi p y => ?_) (fun σ H2 p => ?_)⟩
    · obtain ⟨⟨u, v', rfl⟩, b2, p2, as, rs, el2, li, la, ra, rok⟩ := p
      obtain ⟨rfl, rfl⟩ := y
      have i16 : i < 16 := by omega
      have k2 := Keep.but b2 pa
      refine ⟨.ref a, rfl, .ref t, rfl, .ref o1, rfl, a, t, o1, tops, st1, _, rfl, p2, k2.tup et, pl, l1, l12, S1.keep k2, by omega, fun H4 x1 s1 b4 p4 e1 ok1 in1 => ?_⟩
      have k4 := k2.trans (Keep.but b4 p2)
      refine ⟨.ref a, rfl, .ref t, rfl, .ref o2, rfl, a, t, o2, tops, st2, _, rfl, p4, k4.tup et, pl, l1, l12, S2.keep k4, by omega, fun H5 x2 s2 b5 p5 e2 ok2 in2 => ?_⟩
      refine ⟨(show 2 ≤ sizeLine by decide), fun g ng => ?_⟩
      have nga : g ≠ a := p5.ne ng
      have p6 := pot_upd (o := .tup [.ref x1, .ref x2]) p5 nga
      have e1' := e1.keep (Keep.but b5 p4)
      have b06 : But a H3 (upd H5 g (.tup [.ref x1, .ref x2])) := (b4.trans b5).trans (But.of (same_new ng))
      have k56 : Keep H5 (upd H5 g (.tup [.ref x1, .ref x2])) := .same (same_new ng)
      have e1'' := e1'.keep k56
      have e2'' := e2.keep k56
      have eg6 : (upd H5 g (.tup [.ref x1, .ref x2])) g = some (.tup [.ref x1, .ref x2]) := upd_same
      generalize (upd H5 g (.tup [.ref x1, .ref x2])) = H6 at p6 b06 e1'' e2'' eg6 ⊢
      have el6 : H6 l = some (.lst (as.map V.ref)) := b06 _ _ nla el2
      refine ⟨.ref l, rfl, .inl ⟨rfl, _, .inl (.inl el6)⟩, .ref a, rfl, a, 2, _, rfl, p6, by decide, by decide, by omega, fun z H7 b7 p7 z0 z1 => ⟨rfl, _, rfl, ite2 (fun _ => ?_) (fun _ => ?_)⟩⟩
      · have k7 := Keep.but b7 p6
        have b37 := b06.trans b7
        refine ⟨.ref g, rfl, g, _, rfl, .inl (.inl (k7.tup eg6)), fun r nr => ?_⟩
        have nra : r ≠ a := p7.ne nr
        have el7 : H7 l = some (.lst (as.map V.ref)) := b37 _ _ nla el2
        have nlr : l ≠ r := ne_of_none el7 nr
        have el8 : (upd H7 r (.tup [V.ref x1, V.ref x2].reverse)) l = some (.lst (as.map V.ref)) := (upd_ne nlr).trans el7
        have bH := (b2.trans b37)
        refine ⟨l, _, _, rfl, rfl, el8, by rw [List.length_map]; exact small1000 (by omega), ⟨_, _, rfl⟩, but_new (but_new bH (bH.free nra nr)) nl, pot_upd (pot_upd (p7.mono (by omega)) nra) nla, as ++ [r], rs ++ [(s2, s1)], ?_, by rw [List.length_append, li]; rfl, by rw [List.length_append, List.length_append, la]; rfl, ?_, fun y hy => ?_⟩
        · rw [upd_same, List.map_append]
          rfl
        · have k78 : Keep H7 (upd (upd H7 r (.tup [V.ref x1, V.ref x2].reverse)) l (.lst (as.map V.ref ++ [.ref r]))) := (Keep.same (same_new nr)).trans (.upd el8)
          refine rules_snoc la ra (((Keep.but b37 p2)).trans k78) ⟨x2, x1, ?_, (e2''.keep k7).keep k78, (e1''.keep k7).keep k78⟩
          rw [upd_ne nlr.symm, upd_same]
          rfl
        · rcases List.mem_append.mp hy with h | h
          · exact rok y h
          · rw [List.mem_singleton.mp h]
            refine ⟨⟨ok2, ok1⟩, ?_, ?_⟩
            · show (inB st1 s2 || inB st1 s1) = true
              rw [in1, Bool.or_true]
            · show (inB st2 s2 || inB st2 s1) = true
              rw [in2, Bool.true_or]
      · have k7 := Keep.but b7 p6
        have b37 := b06.trans b7
        have el7 : H7 l = some (.lst (as.map V.ref)) := b37 _ _ nla el2
        have bH := (b2.trans b37)
        refine ⟨.ref g, rfl, l, _, _, rfl, rfl, el7, by rw [List.length_map]; exact small1000 (by omega), ⟨_, _, rfl⟩, but_new bH nl, pot_upd (p7.mono (by omega)) nla, as ++ [g], rs ++ [(s1, s2)], ?_, by rw [List.length_append, li]; rfl, by rw [List.length_append, List.length_append, la]; rfl, ?_, fun y hy => ?_⟩
        · rw [upd_same, List.map_append]
          rfl
        · have k78 : Keep H7 (upd H7 l (.lst (as.map V.ref ++ [.ref g]))) := .upd el7
          exact rules_snoc la ra (((Keep.but b37 p2)).trans k78) ⟨x1, x2, (k7.trans k78).tup eg6, (e1''.keep k7).keep k78, (e2''.keep k7).keep k78⟩
        · rcases List.mem_append.mp hy with h | h
          · exact rok y h
          · rw [List.mem_singleton.mp h]
            refine ⟨⟨ok1, ok2⟩, ?_, ?_⟩
            · show (inB st1 s1 || inB st1 s2) = true
              rw [in1, Bool.true_or]
            · show (inB st2 s1 || inB st2 s2) = true
              rw [in2, Bool.or_true]
    · obtain ⟨⟨u, v', rfl⟩, b2, p2, as, rs, el2, li, la, ra, rok⟩ := p
      refine ⟨.ref l, rfl, l, _, rfl, .inl ⟨.inl (.inl el2), fun R nR => ?_⟩⟩
      have nRa : R ≠ a := p2.ne nR
      exact q _ R rs (but_new b2 (b2.free nRa nR)) (pot_upd (p2.mono (by omega)) nRa) ⟨as, upd_same, la, fun j r q h1 h2 => (ra j r q h1 h2).keep (.same (same_new nR))⟩ (by omega) rok

end
end K19

set_option Elab.async false
set_option linter.all false
set_option maxRecDepth 100000
namespace K19
open PySem PySem.Spec PyProof.Rows L2 NB

abbrev aBtw : Stmt := topS 56
abbrev aPlan : Stmt := topS 57
abbrev nBtw : List Str := ["_law_pot_here", "_law_tops", "_law_one", "_law_two", "_law_going", "_law_i", "_law_j", "_law_near", "_law_further", "_law_leaving", "_law_coming", "_law_thing"]
abbrev nPlan : List Str := ["_law_pot_here", "_law_tops", "_law_many", "_law_one", "_law_two", "_law_found", "_law_goal", "_law_turn", "_law_rule"]
theorem scBtw : FnScope nBtw ["_law_pot_here", "_law_tops", "_law_one", "_law_two"] (defScope aBtw) := ⟨rfl, rfl, rfl, by decide +kernel, rfl, by decide +kernel, by decide +kernel⟩
theorem scPlanL : FnScope nPlan ["_law_pot_here", "_law_tops", "_law_many"] (defScope aPlan) := ⟨rfl, rfl, rfl, by decide +kernel, rfl, by decide +kernel, by decide +kernel⟩
theorem eqv_nilL (xs : List Int) : PyData.eqv (.list (xs.map PyData.int)) (.list []) = decide (xs = []) := by
  have := eqv_ints xs []
  simp only [PyData.eqv]
  exact this
theorem shaped_ints_l (xs : List Int) : SeqAt.shaped (.list (xs.map PyData.int)) = true := by
  unfold SeqAt.shaped
  simp only [PyData.canLay0, lay_ints, PyData.depth, depth_ints, Bool.true_and]
  decide

section
variable {P : Program} {w : World} {K : PySem.W.Frag} {mg : Str → Option Value} {base : Heap}

def Few (xs : List Int) : Prop := ∀ x ∈ xs, 0 ≤ x ∧ x ≤ 3
theorem Few.pl {xs : List Int} (h : Few xs) : Pl xs := fun x hx => ⟨(h x hx).1, Int.lt_of_le_of_lt (h x hx).2 (by decide)⟩
def spBtw : Sp := fun vs H Q _ => ∃ (a t o1 o2 : Addr) (tops st1 st2 : List Int) (c : Nat), vs = [.ref a, .ref t, .ref o1, .ref o2] ∧ PotAt H a c ∧ H t = some (.tup (tops.map V.int)) ∧ Pl tops ∧ 1 ≤ tops.length ∧ tops.length ≤ 12 ∧ Std tops H o1 st1 ∧ Std tops H o2 st2 ∧ c < 900000 ∧
  (∀ H', But a H H' → PotAt H' a (c + 5) → Q .non H') ∧ ∀ H' r rl, But a H H' → PotAt H' a (c + 5) → RuleAt H' r rl → RuleOk tops rl → kept st1 rl = true → kept st2 rl = true → Q (.ref r) H'
set_option maxHeartbeats 4000000 in
theorem ok_btw {f fT fO : Addr} {fd fdT fdO : FuncData} {k : Nat} (F : Fun K "_law_between_rule" "_law_between_rule" aBtw f fd) (T : Kn P w K mg base 1 "_law_take" ["_law_pot_here", "_law_many"] spTake fT fdT)
    (O : Kn P w K mg base 2 "_law_of" ["_law_pot_here", "_law_some"] (spOf K) fO fdO) (mr : mg "range" = none) (ml : mg "len" = none) (mA : mg "abs" = none) : FnOk P w K mg base CX0 (k + 3) f fd ["_law_pot_here", "_law_tops", "_law_one", "_law_two"] spBtw := by
  refine F.ok scBtw (fun vs H Q E h => ?_) (fun cdv A outer s H vs Q E hr h => ?_)
  · obtain ⟨a, t, o1, o2, tops, st1, st2, c, rfl, _⟩ := h
    rfl
  · obtain ⟨a, t, o1, o2, tops, st1, st2, c, rfl, pa, et, pl, l1, l12, S1, S2, hc, q1, q2⟩ := h
    refine ⟨_, pss_cons (ps_setLc (i := 4) (own := [("_law_thing", 11)]) (g := gName 11) (tt := tTest (tOp rNe (tOp (rIxT K) (tVar 2) (tVar 11)) (tOp (rIxT K) (tVar 3) (tVar 11)))) (te := tVar 11) rfl scBtw.nd rfl rfl (sw_true rfl rfl rfl (by decide +kernel)) (pi_range1 (by rfl) mr (pa_cons (pe_callB call_len_seq (by rfl) ml PySem.boot_len (pa_cons (pv 1) pa_nil)) pa_nil)) (blkOk_by (N := nBtw) (sc := defScope aBtw) (by decide +kernel))
            (fun _ _ _ _ _ => pg_name (i := 11) scBtw.nd rfl (.inl rfl) (hf := .inr rfl)) (fun _ _ _ _ _ => pts_one (pt_cmpR (r := rNe) op_ne (pe_ix (r := rIxT K) ix_tup (pv 2) (pv 11) (fun _ _ => rfl)) (pe_ix (r := rIxT K) ix_tup (pv 3) (pv 11) (fun _ _ => rfl)) (nomark _))) (fun _ _ _ _ _ => pv 11))
      (pss_cons (ps_if (pt_cmpR (op_eqD hr.units) (pv 4) (pe_lst pa_nil) (nomark _)) (pss_one (ps_ret pe_non)) pss_nil)
      (pss_cons (ps_par (i := 5) (j := 6) (by rfl) scBtw.nd rfl rfl (by decide) rfl rfl (pa_cons (pe_kn O hr (by omega) (pa_cons (pv 0) (pa_cons (pv 4) pa_nil))) (pa_cons (pe_kn O hr (by omega) (pa_cons (pv 0) (pa_cons (pv 4) pa_nil))) pa_nil)) (by rfl))
      (pss_cons (ps_set (i := 7) scBtw.nd rfl (.inl rfl) (pe_kn T hr (by omega) (pa_cons (pv 0) (pa_cons (pe_callB call_abs (by rfl) mA (by decide +kernel) (pa_cons (pe_op op_sub (pe_ix ix_tup (pv 3) (pv 5) (fun _ _ => rfl)) (pe_ix ix_tup (pv 2) (pv 5) (fun _ _ => rfl))) pa_nil)) pa_nil))))
      (pss_cons (ps_set (i := 8) scBtw.nd rfl (.inl rfl) (pe_op op_add pe_int (pe_kn T hr (by omega) (pa_cons (pv 0) (pa_cons (pe_callB call_abs (by rfl) mA (by decide +kernel) (pa_cons (pe_op op_sub (pe_ix ix_tup (pv 3) (pv 6) (fun _ _ => rfl)) (pe_ix ix_tup (pv 2) (pv 6) (fun _ _ => rfl))) pa_nil)) pa_nil)))))
      (pss_cons (ps_par (i := 9) (j := 10) (by rfl) scBtw.nd rfl rfl (by decide) rfl rfl (pa_cons (pe_tup (pa_cons (pv 5) (pa_cons pe_str (pa_cons (pe_op op_sub (pe_ix ix_tup (pv 2) (pv 5) (fun _ _ => rfl)) (pv 7)) pa_nil)))) (pa_cons (pe_tup (pa_cons (pv 6) (pa_cons pe_str (pa_cons (pe_op op_sub (pe_ix ix_tup (pv 2) (pv 6) (fun _ _ => rfl)) (pv 8)) pa_nil)))) pa_nil)) (by rfl))
      (pss_cons (ps_if (pt_cmpR op_gt (pe_ix ix_tup (pv 3) (pv 5) (fun _ _ => rfl)) (pe_ix ix_tup (pv 2) (pv 5) (fun _ _ => rfl)) (nomark _)) (pss_one (ps_set (i := 9) scBtw.nd rfl (.inl rfl) (pe_tup (pa_cons (pv 5) (pa_cons pe_str (pa_cons (pe_op op_add (pe_ix ix_tup (pv 2) (pv 5) (fun _ _ => rfl)) (pv 7)) pa_nil)))))) pss_nil)
      (pss_cons (ps_if (pt_cmpR op_gt (pe_ix ix_tup (pv 3) (pv 6) (fun _ _ => rfl)) (pe_ix ix_tup (pv 2) (pv 6) (fun _ _ => rfl)) (nomark _)) (pss_one (ps_set (i := 10) scBtw.nd rfl (.inl rfl) (pe_tup (pa_cons (pv 6) (pa_cons pe_str (pa_cons (pe_op op_add (pe_ix ix_tup (pv 2) (pv 6) (fun _ _ => rfl)) (pv 8)) pa_nil)))))) pss_nil)
      (pss_one (ps_ret (pe_ifExp (pt_cmpR op_eq (pe_kn T hr (by omega) (pa_cons (pv 0) (pa_cons pe_int pa_nil))) pe_int (nomark _)) (pe_tup (pa_cons (pv 9) (pa_cons (pv 10) pa_nil))) (pe_tup (pa_cons (pv 10) (pa_cons (pv 9) pa_nil))))))))))))), ?_⟩
    refine ⟨.ref t, rfl, t, _, rfl, .inr (.inl (.inl et)), _, rfl, by omega, by rw [List.length_map]; omega, fun D nD => lc_it walk_range (fun i H' => Same H H' ∧ ∃ gs : List Int, H' D = some (.lst (gs.map V.int)) ∧ gs.length ≤ i ∧ ∀ g ∈ gs, ∃ n : Nat, g = n ∧ n < tops.length ∧ st1[n]? ≠ st2[n]?)
      ⟨same_new nD, [], upd_same, Nat.le_refl _, fun _ h => absurd h List.not_mem_nil⟩ (fun _ _ _ _ => trivial) (fun i v H1 H2 hi p y => ?_) (fun H1 p => ?_)⟩
    · obtain ⟨s1, gs, eD, lg, hg⟩ := p
      obtain ⟨rfl, rfl⟩ := y
      rw [List.length_map] at hi
      have hi' : i < tops.length := by omega
      have h1 : i < st1.length := by rw [S1.len]; exact hi'
      have h2 : i < st2.length := by rw [S2.len]; exact hi'
      refine ⟨rfl, _, rfl, _, rfl, o1, _, (i : Int), _, rfl, by show V.int (0 + (i : Int)) = _; rw [Int.zero_add], .inl (.inl (s1 _ _ S1.at')), at_int h1, _, rfl, _, rfl, o2, _, (i : Int), _, rfl, by show V.int (0 + (i : Int)) = _; rw [Int.zero_add], .inl (.inl (s1 _ _ S2.at')), at_int h2, rfl, _, rfl, ?_⟩
      by_cases e : V.int st1[i] = V.int st2[i]
      · refine iteNS e ⟨s1, gs, eD, by omega, hg⟩
      · rw [decide_eq_false e]
        refine iteT ⟨_, rfl, _, eD, by rw [List.length_map]; exact small1000 (by omega), same_over s1 nD, gs ++ [(i : Int)], ?_, by rw [List.length_append]; show gs.length + 1 ≤ i + 1; omega, fun y hy => ?_⟩
        · rw [upd_same, List.map_append]
          show some (HO.lst (gs.map V.int ++ [V.int (0 + (i : Int))])) = _
          rw [Int.zero_add]
          rfl
        · rcases List.mem_append.mp hy with h | h
          · exact hg y h
          · rw [List.mem_singleton.mp h]
            refine ⟨i, rfl, hi', fun z => e ?_⟩
            rw [List.getElem?_eq_getElem h1, List.getElem?_eq_getElem h2] at z
            rw [Option.some.inj z]
    obtain ⟨s1, gs, eD, lg, hg⟩ := p
    have nDa : D ≠ a := pa.ne nD
    have pa1 := pa.keep s1
    refine ⟨.ref D, rfl, Nat.zero_le _, fun e ne => ?_⟩
    refine ⟨_, _, .lst (.inl (.inl (same_new ne _ _ eD))) (dps _), .lst (.inl (.inl upd_same)) .nil, shaped_ints_l _, rfl, _, rfl, ?_⟩
    rw [eqv_nilL]
    have s2 := s1.trans (same_new (o := .lst []) ne)
    by_cases hgs : gs = []
    · rw [decide_eq_true hgs]
      exact iteT (q1 _ (But.of s2) ((pa.keep s2).mono (by omega)))
    · rw [decide_eq_false hgs]
      refine iteF ?_
      have eD2 := same_new (o := .lst []) ne _ _ eD
      have g1 : 1 ≤ gs.length := by
        cases gs with
        | nil => exact absurd rfl hgs
        | cons _ _ => simp
      rw [List.length_map] at lg
      refine ⟨.ref a, rfl, .ref D, rfl, a, D, _, _, rfl, pa.keep s2, nDa, .inl (.inl (.inl eD2)), by rw [List.length_map]; exact g1, by rw [List.length_map]; omega, by omega, fun v1 H3 hv1 b3 p3 => ?_⟩
      have eD3 : H3 D = some (.lst (gs.map V.int)) := b3 _ _ nDa eD2
      refine ⟨.ref a, rfl, .ref D, rfl, a, D, _, _, rfl, p3, nDa, .inl (.inl (.inl eD3)), by rw [List.length_map]; exact g1, by rw [List.length_map]; omega, by omega, fun v2 H4 hv2 b4 p4 => ⟨_, _, rfl, ?_⟩⟩
      obtain ⟨gi, hgi, rfl⟩ := List.mem_map.mp hv1
      obtain ⟨gj, hgj, rfl⟩ := List.mem_map.mp hv2
      obtain ⟨n, rfl, hn, nen⟩ := hg gi hgi
      obtain ⟨m, rfl, hm, nem⟩ := hg gj hgj
      have n1 : n < st1.length := by rw [S1.len]; exact hn
      have n2 : n < st2.length := by rw [S2.len]; exact hn
      have m1 : m < st1.length := by rw [S1.len]; exact hm
      have m2 : m < st2.length := by rw [S2.len]; exact hm
      have nn : st2[n] ≠ st1[n] := fun z => nen (by rw [List.getElem?_eq_getElem n1, List.getElem?_eq_getElem n2, z])
      have mm : st2[m] ≠ st1[m] := fun z => nem (by rw [List.getElem?_eq_getElem m1, List.getElem?_eq_getElem m2, z])
      have bn1 := S1.pl st1[n] (List.getElem_mem n1)
      have bn2 := S2.pl st2[n] (List.getElem_mem n2)
      have bm1 := S1.pl st1[m] (List.getElem_mem m1)
      have bm2 := S2.pl st2[m] (List.getElem_mem m2)
      have tn1 := S1.le n _ _ (List.getElem?_eq_getElem n1) (List.getElem?_eq_getElem hn)
      have tn2 := S2.le n _ _ (List.getElem?_eq_getElem n2) (List.getElem?_eq_getElem hn)
      have tm1 := S1.le m _ _ (List.getElem?_eq_getElem m1) (List.getElem?_eq_getElem hm)
      have tm2 := S2.le m _ _ (List.getElem?_eq_getElem m2) (List.getElem?_eq_getElem hm)
      have ab : ∀ u v : Int, u ≠ v → 0 ≤ u ∧ u < 10 ^ 30 → 0 ≤ v ∧ v < 10 ^ 30 → 1 ≤ (if u - v < 0 then -(u - v) else u - v) ∧ (if u - v < 0 then -(u - v) else u - v) < 2 ^ 200 := fun u v h hu hv => by
        have big : (10 : Int) ^ 30 < 2 ^ 200 := by decide
        split <;> omega
      have b04 : But a H H4 := (But.of s2).trans (b3.trans b4)
      have k4 := Keep.but b04 pa
      refine ⟨.ref a, rfl, .ref o2, rfl, .int n, rfl, o2, _, n, _, rfl, rfl, .inl (.inl (k4.tup S2.at')), at_int n2, .ref o1, rfl, .int n, rfl, o1, _, n, _, rfl, rfl, .inl (.inl (k4.tup S1.at')), at_int n1, _, _, rfl, rfl, _, rfl, a, _, _, rfl, p4, (ab _ _ nn bn2 bn1).1, (ab _ _ nn bn2 bn1).2, by omega, fun d H5 b5 p5 d0 d1 => ?_⟩
      have b05 := b04.trans b5
      have k5 := Keep.but b05 pa
      refine ⟨.ref a, rfl, .ref o2, rfl, .int m, rfl, o2, _, m, _, rfl, rfl, .inl (.inl (k5.tup S2.at')), at_int m2, .ref o1, rfl, .int m, rfl, o1, _, m, _, rfl, rfl, .inl (.inl (k5.tup S1.at')), at_int m1, _, _, rfl, rfl, _, rfl, a, _, _, rfl, p5, (ab _ _ mm bm2 bm1).1, (ab _ _ mm bm2 bm1).2, by omega, fun g H6 b6 p6 g0 g1' => ?_⟩
      have b06 := b05.trans b6
      have k6 := Keep.but b06 pa
      have e16 := k6.tup S1.at'
      have e26 := k6.tup S2.at'
      refine ⟨1, g, rfl, rfl, .int n, rfl, .ref o1, rfl, .int n, rfl, o1, _, n, _, rfl, rfl, .inl (.inl e16), at_int n1, .int d, rfl, _, _, rfl, rfl, (show 3 ≤ sizeLine by decide), fun x nx => ?_⟩
      have s7 : Same H6 (upd H6 x (.tup [.int n, .str "from", .int (st1[n] - d)])) := same_new nx
      refine ⟨.int m, rfl, .ref o1, rfl, .int m, rfl, o1, _, m, _, rfl, rfl, .inl (.inl (s7 _ _ e16)), at_int m1, _, rfl, _, _, rfl, rfl, (show 3 ≤ sizeLine by decide), fun y ny => ⟨_, _, rfl, ?_⟩⟩
      have s8 := s7.trans (same_new (o := .tup [.int m, .str "to", .int (st1[m] - (1 + g))]) ny)
      have ex8 : (upd (upd H6 x (.tup [.int n, .str "from", .int (st1[n] - d)])) y (.tup [.int m, .str "to", .int (st1[m] - (1 + g))])) x = some (.tup [.int n, .str "from", .int (st1[n] - d)]) := same_new ny _ _ upd_same
      have ey8 : (upd (upd H6 x (.tup [.int n, .str "from", .int (st1[n] - d)])) y (.tup [.int m, .str "to", .int (st1[m] - (1 + g))])) y = some (.tup [.int m, .str "to", .int (st1[m] - (1 + g))]) := upd_same
      generalize (upd (upd H6 x (.tup [.int n, .str "from", .int (st1[n] - d)])) y (.tup [.int m, .str "to", .int (st1[m] - (1 + g))])) = H8 at s8 ex8 ey8 ⊢
      have b08 := b06.trans (But.of s8)
      have p8 := p6.keep s8
      -- what comes last
      have last : ∀ (H9 : Hp) (x' y' : Addr) (u v : Sd) (n9 : L2.St), But a H H9 → PotAt H9 a (c + 4) → SideAt H9 x' u → SideAt H9 y' v → SideOk tops u → SideOk tops v → inB st1 u = true → inB st2 v = true → n9[0]? = some (some (.ref a)) → n9[9]? = some (some (.ref x')) → n9[10]? = some (some (.ref y')) →
          tIf (tTest (tOp rEq (tCall spTake [] E0 (tCons (tVar 0) (tCons (tC (.int 2)) tNil))) (tC (.int 0)))) (tTup (tCons (tVar 9) (tCons (tVar 10) tNil))) (tTup (tCons (tVar 10) (tCons (tVar 9) tNil))) n9 H9 Q := fun H9 x' y' u v n9 b9 p9 eu ev ou ov iu iv i0 i9 i10 => by
        refine ⟨.ref a, i0, a, 2, _, rfl, p9, by decide, by decide, by omega, fun z H10 b10 p10 z0 z1 => ⟨rfl, _, rfl, ite2 (fun _ => ?_) (fun _ => ?_)⟩⟩
        · refine ⟨.ref x', i9, .ref y', i10, (show 2 ≤ sizeLine by decide), fun r nr => ?_⟩
          have nra : r ≠ a := p10.ne nr
          have b0 := b9.trans b10
          have k10 := (Keep.but b10 p9).trans (.same (same_new (o := .tup [.ref x', .ref y']) nr))
          exact q2 _ r (u, v) (but_new b0 (b0.free nra nr)) (pot_upd (p10.mono (by omega)) nra) ⟨x', y', upd_same, eu.keep k10, ev.keep k10⟩ ⟨ou, ov⟩ (by show (inB st1 u || inB st1 v) = true; rw [iu, Bool.true_or]) (by show (inB st2 u || inB st2 v) = true; rw [iv, Bool.or_true])
        · refine ⟨.ref y', i10, .ref x', i9, (show 2 ≤ sizeLine by decide), fun r nr => ?_⟩
          have nra : r ≠ a := p10.ne nr
          have b0 := b9.trans b10
          have k10 := (Keep.but b10 p9).trans (.same (same_new (o := .tup [.ref y', .ref x']) nr))
          exact q2 _ r (v, u) (but_new b0 (b0.free nra nr)) (pot_upd (p10.mono (by omega)) nra) ⟨y', x', upd_same, ev.keep k10, eu.keep k10⟩ ⟨ov, ou⟩ (by show (inB st1 v || inB st1 u) = true; rw [iu, Bool.or_true]) (by show (inB st2 v || inB st2 u) = true; rw [iv, Bool.true_or])
      refine ⟨.ref o2, rfl, .int n, rfl, o2, _, n, _, rfl, rfl, .inl (.inl (s8 _ _ e26)), at_int n2, .ref o1, rfl, .int n, rfl, o1, _, n, _, rfl, rfl, .inl (.inl (s8 _ _ e16)), at_int n1, _, _, rfl, rfl, _, rfl, ite2 (fun c1 => ?_) (fun c1 => ?_)⟩
      · have c1' := of_decide_eq_true c1
        refine ⟨.int n, rfl, .ref o1, rfl, .int n, rfl, o1, _, n, _, rfl, rfl, .inl (.inl (s8 _ _ e16)), at_int n1, .int d, rfl, _, _, rfl, rfl, (show 3 ≤ sizeLine by decide), fun x2 nx2 => ?_⟩
        have nx2a : x2 ≠ a := p8.ne nx2
        have s9 : Same H8 (upd H8 x2 (.tup [.int n, .str "to", .int (st1[n] + d)])) := same_new nx2
        have hu : SideOk tops (n, false, st1[n] + d) := ⟨tops[n], List.getElem?_eq_getElem hn, by show 0 ≤ st1[n] + d; omega, by
          show st1[n] + d ≤ tops[n]
          revert d1
          split <;> intro d1 <;> omega⟩
        have iu : inB st1 (n, false, st1[n] + d) = true := inB_to n1 (by omega)
        refine ⟨.ref o2, rfl, .int m, rfl, o2, _, m, _, rfl, rfl, .inl (.inl (s9 _ _ (s8 _ _ e26))), at_int m2, .ref o1, rfl, .int m, rfl, o1, _, m, _, rfl, rfl, .inl (.inl (s9 _ _ (s8 _ _ e16))), at_int m1, _, _, rfl, rfl, _, rfl, ite2 (fun c2 => ?_) (fun c2 => ?_)⟩
        · have c2' := of_decide_eq_true c2
          refine ⟨.int m, rfl, .ref o1, rfl, .int m, rfl, o1, _, m, _, rfl, rfl, .inl (.inl (s9 _ _ (s8 _ _ e16))), at_int m1, _, rfl, _, _, rfl, rfl, (show 3 ≤ sizeLine by decide), fun y2 ny2 => ?_⟩
          have s10 := same_new (o := .tup [.int m, .str "from", .int (st1[m] + (1 + g))]) ny2
          refine last _ x2 y2 (n, false, st1[n] + d) (m, true, st1[m] + (1 + g)) _ (b08.trans (But.of (s9.trans s10))) ((p8.keep (s9.trans s10)).mono (by omega)) (s10 _ _ upd_same) upd_same hu ⟨tops[m], List.getElem?_eq_getElem hm, by show 0 ≤ st1[m] + (1 + g); omega, by
            show st1[m] + (1 + g) ≤ tops[m]
            revert g1'
            split <;> intro g1' <;> omega⟩ iu (inB_from m2 (by
            revert g1'
            split <;> intro g1' <;> omega)) rfl rfl rfl
        · have c2' := of_decide_eq_false (Bool.eq_false_iff.mpr c2)
          refine last _ x2 y (n, false, st1[n] + d) (m, false, st1[m] - (1 + g)) _ (b08.trans (But.of s9)) ((p8.keep s9).mono (by omega)) upd_same (s9 _ _ ey8) hu ⟨tops[m], List.getElem?_eq_getElem hm, by
            show 0 ≤ st1[m] - (1 + g)
            revert g1'
            split <;> intro g1' <;> omega, by show st1[m] - (1 + g) ≤ tops[m]; omega⟩ iu (inB_to m2 (by
            revert g1'
            split <;> intro g1' <;> omega)) rfl rfl rfl
      · have c1' := of_decide_eq_false (Bool.eq_false_iff.mpr c1)
        have hu : SideOk tops (n, true, st1[n] - d) := ⟨tops[n], List.getElem?_eq_getElem hn, by
          show 0 ≤ st1[n] - d
          revert d1
          split <;> intro d1 <;> omega, by show st1[n] - d ≤ tops[n]; omega⟩
        have iu : inB st1 (n, true, st1[n] - d) = true := inB_from n1 (by omega)
        refine ⟨.ref o2, rfl, .int m, rfl, o2, _, m, _, rfl, rfl, .inl (.inl (s8 _ _ e26)), at_int m2, .ref o1, rfl, .int m, rfl, o1, _, m, _, rfl, rfl, .inl (.inl (s8 _ _ e16)), at_int m1, _, _, rfl, rfl, _, rfl, ite2 (fun c2 => ?_) (fun c2 => ?_)⟩
        · have c2' := of_decide_eq_true c2
          refine ⟨.int m, rfl, .ref o1, rfl, .int m, rfl, o1, _, m, _, rfl, rfl, .inl (.inl (s8 _ _ e16)), at_int m1, _, rfl, _, _, rfl, rfl, (show 3 ≤ sizeLine by decide), fun y2 ny2 => ?_⟩
          have s10 := same_new (o := .tup [.int m, .str "from", .int (st1[m] + (1 + g))]) ny2
          refine last _ x y2 (n, true, st1[n] - d) (m, true, st1[m] + (1 + g)) _ (b08.trans (But.of s10)) ((p8.keep s10).mono (by omega)) (s10 _ _ ex8) upd_same hu ⟨tops[m], List.getElem?_eq_getElem hm, by show 0 ≤ st1[m] + (1 + g); omega, by
            show st1[m] + (1 + g) ≤ tops[m]
            revert g1'
            split <;> intro g1' <;> omega⟩ iu (inB_from m2 (by
            revert g1'
            split <;> intro g1' <;> omega)) rfl rfl rfl
        · have c2' := of_decide_eq_false (Bool.eq_false_iff.mpr c2)
          refine last _ x y (n, true, st1[n] - d) (m, false, st1[m] - (1 + g)) _ b08 (p8.mono (by omega)) ex8 ey8 hu ⟨tops[m], List.getElem?_eq_getElem hm, by
            show 0 ≤ st1[m] - (1 + g)
            revert g1'
            split <;> intro g1' <;> omega, by show st1[m] - (1 + g) ≤ tops[m]; omega⟩ iu (inB_to m2 (by
            revert g1'
            split <;> intro g1' <;> omega)) rfl rfl rfl
end
end K19

set_option Elab.async false
set_option linter.all false
set_option maxRecDepth 100000
namespace K19
open PySem PySem.Spec PyProof.Rows L2 NB

theorem rules_cat {H : Hp} {as bs : List Addr} {rs ss : List Rl} (la : as.length = rs.length) (f : ∀ (i : Nat) (r : Addr) (q : Rl), as[i]? = some r → rs[i]? = some q → RuleAt H r q) (g : ∀ (i : Nat) (r : Addr) (q : Rl), bs[i]? = some r → ss[i]? = some q → RuleAt H r q) :
    ∀ (i : Nat) (r : Addr) (q : Rl), (as ++ bs)[i]? = some r → (rs ++ ss)[i]? = some q → RuleAt H r q := fun i r q h1 h2 => by
  rcases Nat.lt_or_ge i as.length with c | c
  · rw [List.getElem?_append_left c] at h1
    rw [List.getElem?_append_left (by omega)] at h2
    exact f i r q h1 h2
  · rw [List.getElem?_append_right c] at h1
    rw [List.getElem?_append_right (by omega), ← la] at h2
    exact g _ r q h1 h2
section
variable {P : Program} {w : World} {K : PySem.W.Frag} {mg : Str → Option Value} {base : Heap}
def spPlanL : Sp := fun vs H Q _ => ∃ (a t : Addr) (tops : List Int) (m : Int) (c : Nat), vs = [.ref a, .ref t, .int m] ∧ PotAt H a c ∧ H t = some (.tup (tops.map V.int)) ∧ Pl tops ∧ 1 ≤ tops.length ∧ tops.length ≤ 12 ∧ 0 ≤ m ∧ m ≤ 16 ∧ c < 700000 ∧
  ∀ H' g R o1 o2 st1 st2 rs, But a H H' → PotAt H' a (c + 2000) → H' g = some (.tup [.ref R, .ref o1, .ref o2]) → RulesAt H' R rs → (rs.length : Int) ≤ m → Std tops H' o1 st1 → Std tops H' o2 st2 → (∀ q ∈ rs, RuleOk tops q ∧ kept st1 q = true ∧ kept st2 q = true) → Q (.ref g) H'
theorem ok_planL {f fT fS fB fR : Addr} {fd fdT fdS fdB fdR : FuncData} {k : Nat} (F : Fun K "_law_plan" "_law_plan" aPlan f fd) (T : Kn P w K mg base 1 "_law_take" ["_law_pot_here", "_law_many"] spTake fT fdT) (St : Kn P w K mg base 2 "_law_standing" ["_law_pot_here", "_law_tops"] (spStand K) fS fdS)
    (Bt : Kn P w K mg base 3 "_law_between_rule" ["_law_pot_here", "_law_tops", "_law_one", "_law_two"] spBtw fB fdB) (Ru : Kn P w K mg base 3 "_law_rules" ["_law_pot_here", "_law_tops", "_law_one", "_law_two", "_law_many"] spRulesL fR fdR) (mr : mg "range" = none) (mL : mg "list" = none) (mt : mg "tuple" = none) : FnOk P w K mg base CX0 (k + 4) f fd ["_law_pot_here", "_law_tops", "_law_many"] spPlanL := by
  refine F.ok scPlanL (fun vs H Q E h => ?_) (fun cdv A outer s H vs Q E hr h => ?_)
  · obtain ⟨a, t, tops, m, c, rfl, _⟩ := h
    rfl
  · obtain ⟨a, t, tops, m, c, rfl, pa, et, pl, l1, l12, m0, m16, hc, q⟩ := h
    refine ⟨_, pss_cons (ps_par (i := 3) (j := 4) (by rfl) scPlanL.nd rfl rfl (by decide) rfl rfl (pa_cons (pe_kn St hr (by omega) (pa_cons (pv 0) (pa_cons (pv 1) pa_nil))) (pa_cons (pe_kn St hr (by omega) (pa_cons (pv 0) (pa_cons (pv 1) pa_nil))) pa_nil)) (by rfl))
      (pss_cons (ps_par (i := 5) (j := 6) (by rfl) scPlanL.nd rfl rfl (by decide) rfl rfl (pa_cons (pe_lst pa_nil) (pa_cons (pe_kn T hr (by omega) (pa_cons (pv 0) (pa_cons (pe_op op_add (pv 2) pe_int) pa_nil))) pa_nil)) (by rfl))
      (pss_cons (ps_for PassesOwn.never rfl (pi_range1 (by rfl) mr (pa_cons (pv 6) pa_nil)) (pg_name (i := 7) scPlanL.nd rfl (.inl rfl))
        (pss_cons (ps_set (i := 8) scPlanL.nd rfl (.inl rfl) pe_non)
        (pss_cons (ps_if (pt_cmpR op_eq (pe_kn T hr (by omega) (pa_cons (pv 0) (pa_cons pe_int pa_nil))) pe_int (nomark _)) (pss_one (ps_set (i := 8) scPlanL.nd rfl (.inl rfl) (pe_kn Bt hr (by omega) (pa_cons (pv 0) (pa_cons (pv 1) (pa_cons (pv 3) (pa_cons (pv 4) pa_nil))))))) pss_nil)
        (pss_one (ps_expr (pe_bm PySem.F.plainAttrs_list PySem.F.slot_list_extend PySem.F.type_list_extend mt_extend (pv 5) (pa_cons (pe_ifExp (pt_cmpR op_notN (pv 8) pe_non (nomark _)) (pe_lst (pa_cons (pv 8) pa_nil)) (pe_callTy call_list_of (by rfl) mL (by decide +kernel) (pa_cons (pe_kn Ru hr (by omega) (pa_cons (pv 0) (pa_cons (pv 1) (pa_cons (pv 3) (pa_cons (pv 4) (pa_cons pe_int pa_nil)))))) pa_nil))) pa_nil)))))))
      (pss_one (ps_ret (pe_tup (pa_cons (pe_callTy call_tuple_of (by rfl) mt (by decide +kernel) (pa_cons (pv 5) pa_nil)) (pa_cons (pv 3) (pa_cons (pv 4) pa_nil)))))))), ?_⟩
    refine ⟨.ref a, rfl, .ref t, rfl, a, t, tops, _, rfl, pa, .inl (.inl et), pl, l12, by omega, fun H1 o1 st1 b1 p1 n1 e1 ln1 pl1 le1 => ?_⟩
    have k1 := Keep.but b1 pa
    refine ⟨.ref a, rfl, .ref t, rfl, a, t, tops, _, rfl, p1, .inl (.inl (k1.tup et)), pl, l12, by omega, fun H2 o2 st2 b2 p2 n2 e2 ln2 pl2 le2 => ⟨_, _, rfl, ?_⟩⟩
    have k12 := Keep.but b2 p1
    have S1 : Std tops H2 o1 st1 := Std.keep ⟨e1, ln1, pl1, le1⟩ k12
    have S2 : Std tops H2 o2 st2 := ⟨e2, ln2, pl2, le2⟩
    have et2 := k12.tup (k1.tup et)
    refine ⟨Nat.zero_le _, fun l nl => ?_⟩
    have nla : l ≠ a := p2.ne nl
    have b02 := b1.trans b2
    have nlH : H l = none := b02.free nla nl
    have s3 : Same H2 (upd H2 l (.lst [])) := same_new nl
    refine ⟨.ref a, rfl, .int m, rfl, m, 1, rfl, rfl, a, _, _, rfl, p2.keep s3, by omega, Int.lt_of_le_of_lt (show m + 1 ≤ 17 by omega) (by decide), by omega, fun d H4 b4 p4 d0 d1 => ⟨_, _, rfl, ?_⟩⟩
    have b04 : But a H H4 := (b02.trans (But.of s3)).trans b4
    have k24 : Keep H2 H4 := (Keep.same s3).trans (Keep.but b4 (p2.keep s3))
    have el4 : H4 l = some (.lst (([] : List Addr).map V.ref)) := b4 _ _ nla upd_same
    refine ⟨.int d, rfl, d, rfl, by omega, by omega, for_it walk_range (fun i σ H' => (∃ u7 u8, σ = [some (.ref a), some (.ref t), some (.int m), some (.ref o1), some (.ref o2), some (.ref l), some (.int d), u7, u8]) ∧ But a H H' ∧ (Std tops H' o1 st1 ∧ Std tops H' o2 st2) ∧ PotAt H' a (c + 30 + 118 * i) ∧ ∃ (as : List Addr) (rs : List Rl), H' l = some (.lst (as.map V.ref)) ∧ as.length ≤ i ∧ as.length = rs.length ∧ (∀ (j : Nat) (r : Addr) (q : Rl), as[j]? = some r → rs[j]? = some q → RuleAt H' r q) ∧ ∀ q ∈ rs, RuleOk tops q ∧ kept st1 q = true ∧ kept st2 q = true)
      ⟨⟨none, none, rfl⟩, b04, ⟨S1.keep k24, S2.keep k24⟩, p4.mono (by omega), [], [], el4, Nat.le_refl _, rfl, fun j r q h => by simp at h, fun _ h => absurd h List.not_mem_nil⟩ (fun _ _ _ _ _ => trivial) (fun i v σ H5 H6 hi p y => ?_) (fun σ H5 p => ?_)⟩
    · obtain ⟨⟨u7, u8, rfl⟩, b5, ⟨S1', S2'⟩, p5, as, rs, el, li, la, ra, rok⟩ := p
      obtain ⟨rfl, rfl⟩ := y
      have i16 : i < 16 := by omega
      have k5 := Keep.but b5 pa
      have et5 := k5.tup et
      refine ⟨.ref a, rfl, a, 2, _, rfl, p5, by decide, by decide, by omega, fun z H7 b7 p7 z0 z1 => ⟨rfl, _, rfl, ite2 (fun _ => ?_) (fun _ => ?_)⟩⟩
      · have k7 := Keep.but b7 p5
        refine ⟨.ref a, rfl, .ref t, rfl, .ref o1, rfl, .ref o2, rfl, a, t, o1, o2, tops, st1, st2, _, rfl, p7, k7.tup et5, pl, l1, l12, S1'.keep k7, S2'.keep k7, by omega, fun H8 b8 p8 => ?_, fun H8 r rl b8 p8 er ok kp1 kp2 => ?_⟩
        · have b78 := b7.trans b8
          refine ⟨.ref l, rfl, .inl ⟨rfl, _, .inl (.inl (b78 _ _ nla el))⟩, .non, rfl, rfl, _, rfl, iteNS rfl ?_⟩
          have k8 := Keep.but b78 p5
          refine ⟨.ref a, rfl, .ref t, rfl, .ref o1, rfl, .ref o2, rfl, a, t, o1, o2, tops, st1, st2, 1, _, rfl, p8, k8.tup et5, pl, l1, l12, S1'.keep k8, S2'.keep k8, by decide, by decide, by omega, fun H9 R ss b9 p9 hR lR rk => ?_⟩
          have b59 := b78.trans b9
          have el9 : H9 l = some (.lst (as.map V.ref)) := b59 _ _ nla el
          obtain ⟨as2, eR, la2, f2⟩ := hR
          refine ⟨R, _, rfl, .inr (.inl (.inl eR)), fun l2 nl2 => ?_⟩
          have nl2a : l2 ≠ a := p9.ne nl2
          have nll : l ≠ l2 := ne_of_none el9 nl2
          have el10 : (upd H9 l2 (.lst (as2.map V.ref))) l = some (.lst (as.map V.ref)) := (upd_ne nll).trans el9
          have bH := b5.trans b59
          refine ⟨l, l2, _, _, rfl, rfl, el10, upd_same, by rw [List.length_map, List.length_map]; exact Nat.le_of_lt (small1000 (by omega)), ⟨_, _, rfl⟩, but_new (but_new bH (bH.free nl2a nl2)) nlH, ⟨(S1'.keep (Keep.but b59 p5)).keep ((Keep.same (same_new nl2)).trans (.upd el10)), (S2'.keep (Keep.but b59 p5)).keep ((Keep.same (same_new nl2)).trans (.upd el10))⟩, pot_upd (pot_upd (p9.mono (by omega)) nl2a) nla, as ++ as2, rs ++ ss, ?_, by rw [List.length_append]; omega, by rw [List.length_append, List.length_append, la, la2], ?_, fun y hy => ?_⟩
          · rw [upd_same, List.map_append]
          · have kE : Keep H9 (upd (upd H9 l2 (.lst (as2.map V.ref))) l (.lst (as.map V.ref ++ as2.map V.ref))) := (Keep.same (same_new nl2)).trans (.upd el10)
            exact rules_cat la (fun i r q h1 h2 => (ra i r q h1 h2).keep ((Keep.but b59 p5).trans kE)) (fun i r q h1 h2 => (f2 i r q h1 h2).keep kE)
          · rcases List.mem_append.mp hy with h | h
            · exact rok y h
            · exact rk y h
        · have b78 := b7.trans b8
          have el8 : H8 l = some (.lst (as.map V.ref)) := b78 _ _ nla el
          refine ⟨.ref l, rfl, .inl ⟨rfl, _, .inl (.inl el8)⟩, .ref r, rfl, rfl, _, rfl, ?_⟩
          rw [show decide (V.ref r = V.non) = false from decide_eq_false (fun z => by cases z)]
          refine iteT ⟨.ref r, rfl, (show 1 ≤ sizeLine by decide), fun l2 nl2 => ?_⟩
          have nl2a : l2 ≠ a := p8.ne nl2
          have nll : l ≠ l2 := ne_of_none el8 nl2
          have el10 : (upd H8 l2 (.lst [.ref r])) l = some (.lst (as.map V.ref)) := (upd_ne nll).trans el8
          have bH := b5.trans b78
          refine ⟨l, l2, _, _, rfl, rfl, el10, upd_same, by rw [List.length_map]; exact Nat.le_of_lt (small1000 (show as.length + 1 ≤ 1000 by omega)), ⟨_, _, rfl⟩, but_new (but_new bH (bH.free nl2a nl2)) nlH, ⟨(S1'.keep (Keep.but b78 p5)).keep ((Keep.same (same_new nl2)).trans (.upd el10)), (S2'.keep (Keep.but b78 p5)).keep ((Keep.same (same_new nl2)).trans (.upd el10))⟩, pot_upd (pot_upd (p8.mono (by omega)) nl2a) nla, as ++ [r], rs ++ [rl], ?_, by rw [List.length_append]; show as.length + 1 ≤ i + 1; omega, by rw [List.length_append, List.length_append, la]; rfl, ?_, fun y hy => ?_⟩
          · rw [upd_same, List.map_append]
            rfl
          · have kE : Keep H8 (upd (upd H8 l2 (.lst [.ref r])) l (.lst (as.map V.ref ++ [.ref r]))) := (Keep.same (same_new nl2)).trans (.upd el10)
            exact rules_snoc la ra ((Keep.but b78 p5).trans kE) (er.keep kE)
          · rcases List.mem_append.mp hy with h | h
            · exact rok y h
            · rw [List.mem_singleton.mp h]
              exact ⟨ok, kp1, kp2⟩
      · skip
        refine ⟨.ref l, rfl, .inl ⟨rfl, _, .inl (.inl (b7 _ _ nla el))⟩, .non, rfl, rfl, _, rfl, iteNS rfl ?_⟩
        have k8 := Keep.but b7 p5
        refine ⟨.ref a, rfl, .ref t, rfl, .ref o1, rfl, .ref o2, rfl, a, t, o1, o2, tops, st1, st2, 1, _, rfl, p7, k8.tup et5, pl, l1, l12, S1'.keep k8, S2'.keep k8, by decide, by decide, by omega, fun H9 R ss b9 p9 hR lR rk => ?_⟩
        have b59 := b7.trans b9
        have el9 : H9 l = some (.lst (as.map V.ref)) := b59 _ _ nla el
        obtain ⟨as2, eR, la2, f2⟩ := hR
        refine ⟨R, _, rfl, .inr (.inl (.inl eR)), fun l2 nl2 => ?_⟩
        have nl2a : l2 ≠ a := p9.ne nl2
        have nll : l ≠ l2 := ne_of_none el9 nl2
        have el10 : (upd H9 l2 (.lst (as2.map V.ref))) l = some (.lst (as.map V.ref)) := (upd_ne nll).trans el9
        have bH := b5.trans b59
        refine ⟨l, l2, _, _, rfl, rfl, el10, upd_same, by rw [List.length_map, List.length_map]; exact Nat.le_of_lt (small1000 (by omega)), ⟨_, _, rfl⟩, but_new (but_new bH (bH.free nl2a nl2)) nlH, ⟨(S1'.keep (Keep.but b59 p5)).keep ((Keep.same (same_new nl2)).trans (.upd el10)), (S2'.keep (Keep.but b59 p5)).keep ((Keep.same (same_new nl2)).trans (.upd el10))⟩, pot_upd (pot_upd (p9.mono (by omega)) nl2a) nla, as ++ as2, rs ++ ss, ?_, by rw [List.length_append]; omega, by rw [List.length_append, List.length_append, la, la2], ?_, fun y hy => ?_⟩
        · rw [upd_same, List.map_append]
        · have kE : Keep H9 (upd (upd H9 l2 (.lst (as2.map V.ref))) l (.lst (as.map V.ref ++ as2.map V.ref))) := (Keep.same (same_new nl2)).trans (.upd el10)
          exact rules_cat la (fun i r q h1 h2 => (ra i r q h1 h2).keep ((Keep.but b59 p5).trans kE)) (fun i r q h1 h2 => (f2 i r q h1 h2).keep kE)
        · rcases List.mem_append.mp hy with h | h
          · exact rok y h
          · exact rk y h
    · obtain ⟨⟨u7, u8, rfl⟩, b5, ⟨S1', S2'⟩, p5, as, rs, el, li, la, ra, rok⟩ := p
      refine ⟨.ref l, rfl, l, _, rfl, .inl ⟨.inl (.inl el), fun R nR => ?_⟩⟩
      have nRa : R ≠ a := p5.ne nR
      refine ⟨.ref o1, rfl, .ref o2, rfl, (show 3 ≤ sizeLine by decide), fun g ng => ?_⟩
      have s6 : Same H5 (upd H5 R (.tup (as.map V.ref))) := same_new nR
      have s7 := s6.trans (same_new (o := .tup [.ref R, .ref o1, .ref o2]) ng)
      exact q _ g R o1 o2 st1 st2 rs (b5.trans (But.of s7)) ((p5.keep s7).mono (by omega)) upd_same ⟨as, same_new ng _ _ upd_same, la, fun j r q h1 h2 => (ra j r q h1 h2).keep (.same s7)⟩ (by omega) (S1'.keep (.same s7)) (S2'.keep (.same s7)) rok

end
end K19

set_option Elab.async false
set_option linter.all false
set_option maxRecDepth 100000
/-! xs.insert(k, y), k a place of the list or its end. -/
namespace NB
open PySem PySem.Spec PyProof.Rows L2
section
variable {X : Cx}
def rInsert : V → List V → Hp → VK → Prop := fun x vs H Q => ∃ (l : Addr) (xs : List V) (k : Int) (y : V), x = .ref l ∧ vs = [.int k, y] ∧ H l = some (.lst xs) ∧ 0 ≤ k ∧ k ≤ (xs.length : Int) ∧ k < 1000000 ∧ xs.length < sizeLine ∧ Q .non (upd H l (.lst (xs.take k.toNat ++ y :: xs.drop k.toNat)))
theorem fits {k : Int} (h0 : 0 ≤ k) (h1 : k < 1000000) : Builtin.List.listFitsIndex k = true := by
  unfold Builtin.List.listFitsIndex
  simp
  omega
theorem ins_list (its : List Value) (k : Int) (u : Value) (h0 : 0 ≤ k) (h1 : k ≤ (its.length : Int)) :
    (have j := if k < 0 then (k + (its.toArray.size : Int)).toNat else min k.toNat its.toArray.size; (its.toArray.extract 0 j).push u ++ its.toArray.extract j) = (its.take k.toNat ++ u :: its.drop k.toNat).toArray := by
  show (its.toArray.extract 0 (if k < 0 then (k + (its.toArray.size : Int)).toNat else min k.toNat its.toArray.size)).push u ++ its.toArray.extract (if k < 0 then (k + (its.toArray.size : Int)).toNat else min k.toNat its.toArray.size) = _
  rw [if_neg (by omega), List.size_toArray, Nat.min_eq_left (by omega)]
  simp [List.extract_toArray, List.extract_eq_drop_take]
  exact List.take_of_length_le (by rw [List.length_drop]; exact Nat.le_refl _)
theorem mt_insert : MtM X "list.insert" rInsert := by
  intro pins s σ H x vs v us Q I rx rv h
  obtain ⟨l, xs, k, y, rfl, rfl, hH, h0, hk, hb, hz, q⟩ := h
  cases rx
  obtain ⟨u1, u2, rfl, r1, r2⟩ : ∃ u1 u2, us = [u1, u2] ∧ RelV (.int k) u1 ∧ RelV y u2 := by
    cases rv with
    | cons p q =>
      cases q with
      | cons p' q' =>
        cases q'
        exact ⟨_, _, rfl, p, p'⟩
  obtain ⟨t, rfl⟩ := r1
  obtain ⟨z, its, n, r, hl, e⟩ := I.lstM hH
  have hlen := r.length
  have hf := fits h0 hb
  have h1 : its.toArray.size ≤ sizeLine := by
    rw [List.size_toArray]
    omega
  refine call_meets PySem.F.slot_list_insert ⟨_, e, rfl⟩ PySem.F.entry_list_insert (PySem.F.args_list_insert_3 _ _ _) (PySem.AutoSeq1.list_insert_list_int_val_1 l _ n k t u2 (by simp [hf]) h1) ⟨e, ?_⟩
  refine ⟨.non, _, I.lset (its' := its.take k.toNat ++ u2 :: its.drop k.toNat) hH e (ins_list its k u2 h0 (by omega)) ((r.take k.toNat).append (.cons r2 (r.drop k.toNat))) ?_, rfl, q⟩
  rw [List.length_append, List.length_cons, List.length_take, List.length_drop]
  omega
end
end NB

set_option Elab.async false
set_option linter.all false
set_option maxRecDepth 100000
namespace K19
open PySem PySem.Spec PyProof.Rows L2 NB

/-! ### great plans -/
abbrev aGTops : Stmt := topS 55
abbrev aGreat : Stmt := topS 58
theorem scGTops : FnScope ["_law_pot_here", "_law_some", "_law_found", "_law_thing"] ["_law_pot_here"] (defScope aGTops) := ⟨rfl, rfl, rfl, by decide +kernel, rfl, by decide +kernel, by decide +kernel⟩
theorem scGreat : FnScope ["_law_pot_here", "_law_tops", "_law_rules_here", "_law_one", "_law_two"] ["_law_pot_here"] (defScope aGreat) := ⟨rfl, rfl, rfl, by decide +kernel, rfl, by decide +kernel, by decide +kernel⟩

section
variable {P : Program} {w : World} {K : PySem.W.Frag} {mg : Str → Option Value} {base : Heap}
def spGTops : Sp := fun vs H Q _ => ∃ (a : Addr) (c : Nat), vs = [.ref a] ∧ PotAt H a c ∧ c < 900000 ∧
  ∀ H' p tops, But a H H' → PotAt H' a (c + 60) → H' p = some (.tup (tops.map V.int)) → 2 ≤ tops.length → tops.length ≤ 12 → Pl tops → Q (.ref p) H'
theorem ok_gtops {f fT fO : Addr} {fd fdT fdO : FuncData} {k : Nat} (F : Fun K "_law_great_tops" "_law_great_tops" aGTops f fd) (T : Kn P w K mg base 1 "_law_take" ["_law_pot_here", "_law_many"] spTake fT fdT)
    (O : Kn P w K mg base 2 "_law_of" ["_law_pot_here", "_law_some"] (spOf K) fO fdO) (mr : mg "range" = none) (mt : mg "tuple" = none) : FnOk P w K mg base CX0 (k + 3) f fd ["_law_pot_here"] spGTops := by
  refine F.ok scGTops (fun vs H Q E h => ?_) (fun cdv A outer s H vs Q E hr h => ?_)
  · obtain ⟨a, c, rfl, _⟩ := h
    rfl
  · obtain ⟨a, c, rfl, pa, hc, q⟩ := h
    refine ⟨_, pss_cons (ps_par (i := 1) (j := 2) (by rfl) scGTops.nd rfl rfl (by decide) rfl rfl (pa_cons (pe_lst (pa_cons pe_int (pa_cons pe_int (pa_cons pe_int (pa_cons pe_int (pa_cons (pe_op op_sub (pe_op op_pow pe_int pe_int) pe_int) pa_nil)))))) (pa_cons (pe_lst pa_nil) pa_nil)) (by rfl))
      (pss_cons (ps_for PassesOwn.never rfl (pi_range1 (by rfl) mr (pa_cons (pe_op op_add pe_int (pe_kn T hr (by omega) (pa_cons (pv 0) (pa_cons pe_int pa_nil)))) pa_nil)) (pg_name (i := 3) scGTops.nd rfl (.inl rfl))
        (pss_one (ps_expr (pe_bm PySem.F.plainAttrs_list PySem.F.slot_list_append PySem.F.type_list_append mt_append (pv 2) (pa_cons (pe_kn O hr (by omega) (pa_cons (pv 0) (pa_cons (pe_op op_cat (pv 1) (pe_lst (pa_cons (pe_op op_mul (pe_kn T hr (by omega) (pa_cons (pv 0) (pa_cons (pe_op op_pow pe_int pe_int) pa_nil))) (pe_op op_pow pe_int pe_int)) pa_nil))) pa_nil))) pa_nil)))))
      (pss_one (ps_ret (pe_callTy call_tuple_of (by rfl) mt (by decide +kernel) (pa_cons (pv 2) pa_nil))))), ?_⟩
    refine ⟨10, 30, rfl, rfl, ⟨by decide, by decide, by decide⟩, _, 1, rfl, rfl, (show 5 ≤ sizeLine by decide), fun S nS => ⟨Nat.zero_le _, fun l nl => ⟨_, _, rfl, ?_⟩⟩⟩
    have nSa : S ≠ a := pa.ne nS
    have sS : Same H (upd H S (.lst [.int 0, .int 1, .int 2, .int 9, .int (10 ^ (30 : Int).toNat - 1)])) := same_new nS
    have nla : l ≠ a := (pa.keep sS).ne nl
    have nlH : H l = none := sS.free nl
    have sl := sS.trans (same_new (o := .lst []) nl)
    have eS0 : (upd (upd H S (.lst [.int 0, .int 1, .int 2, .int 9, .int (10 ^ (30 : Int).toNat - 1)])) l (.lst [])) S = some (.lst [.int 0, .int 1, .int 2, .int 9, .int (10 ^ (30 : Int).toNat - 1)]) := same_new nl _ _ upd_same
    have nSl : S ≠ l := ne_of_none (show (upd H S (.lst [.int 0, .int 1, .int 2, .int 9, .int (10 ^ (30 : Int).toNat - 1)])) S = some (.lst [.int 0, .int 1, .int 2, .int 9, .int (10 ^ (30 : Int).toNat - 1)]) from upd_same) nl
    refine ⟨.ref a, rfl, a, 11, c, rfl, pa.keep sl, by decide, by decide, by omega, fun d H1 b1 p1 d0 d1 => ?_⟩
    have el1 : H1 l = some (.lst []) := b1 _ _ nla upd_same
    have eS1 := b1 _ _ nSa eS0
    have bl1 : But a H H1 := (But.of sl).trans b1
    refine ⟨2, d, rfl, rfl, 2 + d, rfl, by omega, by omega, for_it walk_range (fun i σ H' => (∃ u, σ = [some (.ref a), some (.ref S), some (.ref l), u]) ∧ But a H H' ∧ PotAt H' a (c + 1 + 2 * i) ∧ H' S = some (.lst [.int 0, .int 1, .int 2, .int 9, .int (10 ^ (30 : Int).toNat - 1)]) ∧ ∃ ts : List Int, H' l = some (.lst (ts.map V.int)) ∧ ts.length = i ∧ Pl ts)
      ⟨⟨none, rfl⟩, bl1, p1, eS1, [], el1, rfl, fun _ h => absurd h List.not_mem_nil⟩ (fun _ _ _ _ _ => trivial) (fun i v σ H2 H3 hi p y => ?_) (fun σ H2 p => ?_)⟩
    · obtain ⟨⟨u, rfl⟩, b2, p2, eS, ts, el2, tl, tp⟩ := p
      obtain ⟨rfl, rfl⟩ := y
      have hi' : i < 12 := by omega
      refine ⟨.ref l, rfl, .inl ⟨rfl, _, .inl (.inl el2)⟩, .ref a, rfl, .ref S, rfl, .ref a, rfl, 10, 15, rfl, rfl, ⟨by decide, by decide, by decide⟩, a, _, _, rfl, p2, by rw [e15]; decide, by rw [e15]; decide, by omega, fun g1 H4 b4 p4 g0 gm => ?_⟩
      rw [e15] at gm
      refine ⟨10, 15, rfl, rfl, ⟨by decide, by decide, by decide⟩, g1, _, rfl, rfl, .inr (by rw [e15]; exact ⟨by decide, by decide⟩), (show 1 ≤ sizeLine by decide), fun o no => ?_⟩
      have noa : o ≠ a := p4.ne no
      have eS4 := b4 _ _ nSa eS
      have s5 : Same H4 (upd H4 o (.lst [.int (g1 * 10 ^ (15 : Int).toNat)])) := same_new no
      refine ⟨S, o, _, _, rfl, rfl, s5 _ _ eS4, upd_same, (show 5 + 1 ≤ sizeLine by decide), fun m nm => ?_⟩
      have s6 := s5.trans (same_new (o := .lst ([.int 0, .int 1, .int 2, .int 9, .int (10 ^ (30 : Int).toNat - 1)] ++ [.int (g1 * 10 ^ (15 : Int).toNat)])) nm)
      have nma : m ≠ a := (p4.keep s5).ne nm
      refine ⟨a, m, _, _, rfl, p4.keep s6, nma, .inl (.inl (.inl upd_same)), (show 1 ≤ 6 by decide), (show 6 ≤ 1000000 by decide), by omega, fun x H7 hx b7 p7 => ?_⟩
      have hx' : ∃ v : Int, x = .int v ∧ 0 ≤ v ∧ v < 10 ^ 30 := by
        simp only [List.cons_append, List.nil_append, List.mem_cons, List.not_mem_nil, or_false] at hx
        rcases hx with e | e | e | e | e | e
        · exact ⟨_, e, by decide, by decide⟩
        · exact ⟨_, e, by decide, by decide⟩
        · exact ⟨_, e, by decide, by decide⟩
        · exact ⟨_, e, by decide, by decide⟩
        · exact ⟨_, e, by decide, by decide⟩
        · refine ⟨_, e, ?_, ?_⟩
          · rw [e15]
            omega
          · rw [e15]
            omega
      obtain ⟨v, rfl, v0, v1⟩ := hx'
      have b37 : But a H3 H7 := b4.trans ((But.of s6).trans b7)
      have el7 : H7 l = some (.lst (ts.map V.int)) := b37 _ _ nla el2
      refine ⟨l, _, _, rfl, rfl, el7, by rw [List.length_map]; exact small1000 (by omega), ⟨_, rfl⟩, but_new (b2.trans b37) nlH, pot_upd (p7.mono (by omega)) nla, (upd_ne nSl).trans (b37 _ _ nSa eS), ts ++ [v], ?_, by rw [List.length_append, tl]; rfl, tp.snoc v0 v1⟩
      rw [upd_same, List.map_append]
      rfl
    · obtain ⟨⟨u, rfl⟩, b2, p2, eS, ts, el2, tl, tp⟩ := p
      refine ⟨.ref l, rfl, l, _, rfl, .inl ⟨.inl (.inl el2), fun m nm => ?_⟩⟩
      have nma : m ≠ a := p2.ne nm
      exact q _ m ts (but_new b2 (b2.free nma nm)) (pot_upd (p2.mono (by omega)) nma) upd_same (by omega) (by omega) tp

def spGreat : Sp := fun vs H Q _ => ∃ (a : Addr) (c : Nat), vs = [.ref a] ∧ PotAt H a c ∧ c < 600000 ∧
  ∀ H' g t R o1 o2 tops st1 st2 rs, But a H H' → PotAt H' a (c + 3000) → H' g = some (.tup [.ref t, .ref R, .ref o1, .ref o2]) → H' t = some (.tup (tops.map V.int)) → 1 ≤ tops.length → tops.length ≤ 12 → Pl tops → RulesAt H' R rs → rs.length ≤ 16 → Std tops H' o1 st1 → Std tops H' o2 st2 → (∀ q ∈ rs, RuleOk tops q ∧ kept st1 q = true ∧ kept st2 q = true) → Q (.ref g) H'
theorem ok_great {f fT fP : Addr} {fd fdT fdP : FuncData} {k : Nat} (F : Fun K "_law_great" "_law_great" aGreat f fd) (To : Kn P w K mg base 3 "_law_great_tops" ["_law_pot_here"] spGTops fT fdT) (Pl' : Kn P w K mg base 4 "_law_plan" ["_law_pot_here", "_law_tops", "_law_many"] spPlanL fP fdP) : FnOk P w K mg base CX0 (k + 5) f fd ["_law_pot_here"] spGreat := by
  refine F.ok scGreat (fun vs H Q E h => ?_) (fun cdv A outer s H vs Q E hr h => ?_)
  · obtain ⟨a, c, rfl, _⟩ := h
    rfl
  · obtain ⟨a, c, rfl, pa, hc, q⟩ := h
    refine ⟨_, pss_cons (ps_set (i := 1) scGreat.nd rfl (.inl rfl) (pe_kn To hr (by omega) (pa_cons (pv 0) pa_nil)))
      (pss_cons (ps_asg (pe_kn Pl' hr (by omega) (pa_cons (pv 0) (pa_cons (pv 1) (pa_cons pe_int pa_nil)))) (pg_tup (by rfl) (pgs_cons (pg_name (i := 2) scGreat.nd rfl (.inl rfl)) (pgs_cons (pg_name (i := 3) scGreat.nd rfl (.inl rfl)) (pgs_cons (pg_name (i := 4) scGreat.nd rfl (.inl rfl)) pgs_nil)))))
      (pss_one (ps_ret (pe_tup (pa_cons (pv 1) (pa_cons (pv 2) (pa_cons (pv 3) (pa_cons (pv 4) pa_nil)))))))), ?_⟩
    refine ⟨.ref a, rfl, a, c, rfl, pa, by omega, fun H1 t tops b1 p1 e1 l1 l4 fw => ?_⟩
    refine ⟨.ref a, rfl, .ref t, rfl, a, t, tops, 16, _, rfl, p1, e1, fw, by omega, by omega, by decide, by decide, by omega, fun H2 g R o1 o2 st1 st2 rs b2 p2 eg hR lR S1 S2 rok => ?_⟩
    refine ⟨g, _, rfl, .inl (.inl eg), rfl, _, _, rfl, _, _, rfl, _, _, rfl, rfl, ?_⟩
    refine ⟨.ref t, rfl, .ref R, rfl, .ref o1, rfl, .ref o2, rfl, (show 4 ≤ sizeLine by decide), fun g2 ng2 => ?_⟩
    have s3 : Same H2 (upd H2 g2 (.tup [.ref t, .ref R, .ref o1, .ref o2])) := same_new ng2
    exact q _ g2 t R o1 o2 tops st1 st2 rs ((b1.trans b2).trans (But.of s3)) ((p2.keep s3).mono (by omega)) upd_same (((Keep.but b2 p1).trans (.same s3)).tup e1) (by omega) l4 fw (hR.keep (.same s3)) (by omega) (S1.keep (.same s3)) (S2.keep (.same s3)) rok
end
end K19

set_option Elab.async false
set_option linter.all false
set_option maxRecDepth 100000
set_option maxHeartbeats 1000000
/-! What a plain search wants: sorted of any number of tuples, dicts whose keys are tuples. -/
namespace SrtO
open PySem PyProof.Rows Srt
section
variable {prog : Program} {w : World} {A : Around} {E : Value → Shared → Prop} {s : Shared}
def rkT (h : Heap) (B : Int) (v : Value) : Int := TS.code B (TS.intsOf h v)
theorem swo_rk (r : Value → Int) : Swo fun v u => decide (r v < r u) := by
  refine ⟨fun x y h => ?_, fun x y z h1 h2 => ?_⟩
  · have a := of_decide_eq_true h
    exact decide_eq_false (by omega)
  · have a := of_decide_eq_false h1
    have b := of_decide_eq_false h2
    exact decide_eq_false (by omega)
theorem tups_cmp {d : Nat} {B : Int} {vs : List Value} {r : Value → Int} (x : TS.TupsOk s.heap d B vs) (hr : ∀ v, v ∈ vs → ∀ ns, TS.TupInts s.heap v ns → r v = TS.code B ns) : Cmp prog w A s (tuples' true) (fun p => p.1 ∈ vs) (lt2 fun v u => decide (r v < r u)) := by
  intro p q hp hq
  obtain ⟨ns, tp, lp, bp⟩ := x _ hp
  obtain ⟨ms, tq, lq, bq⟩ := x _ hq
  have ep := hr _ hp _ tp
  have eq2 := hr _ hq _ tq
  show wpAny (model prog w) A (keyLt' (tuples' true) p.1 q.1) (fun b s' => s' = s ∧ b = decide (r p.1 < r q.1)) (fun _ _ => False) s
  rw [ep, eq2]
  obtain ⟨a, xs, e1, ⟨o, ho, hc, n, hdt⟩, i⟩ := tp
  obtain ⟨a', ys, e2, ⟨o', ho', hc', n', hdt'⟩, i'⟩ := tq
  rw [e1, e2]
  refine PySem.W.kat_lt ho hdt ho' hdt' ?_
  have sz : decide (xs.size < ys.size) = false := by
    have l1 := i.length
    have l2 := i'.length
    rw [Array.length_toList] at l1 l2
    exact decide_eq_false (by omega)
  rw [sz]
  exact TS.lex_ints 0 i i' (by omega) bp bq ⟨rfl, rfl⟩
theorem tups_sortableO {a : Addr} {vs : List Value} {d : Nat} {B : Int} {r : Value → Int} (hd1 : 1 ≤ d) (h2 : 2 ≤ vs.length) (x : TS.TupsOk s.heap d B vs) (hr : ∀ v, v ∈ vs → ∀ ns, TS.TupInts s.heap v ns → r v = TS.code B ns) (ha : ∀ o, s.heap.get? a = some o → o.cls ≠ .type "tuple") :
    SortableO prog w A s a vs fun v u => decide (r v < r u) := by
  intro h' keep
  have kp : ∀ b o, s.heap.get? b = some o → o.cls = .type "tuple" → h'.get? b = some o := fun b o e c => keep b o (fun z => by subst z; exact ha o e c) e
  have x' : TS.TupsOk h' d B vs := x.keeps kp
  obtain ⟨fs, h1, hl, h3⟩ := TS.firsts_of hd1 vs x'
  refine ⟨tuples' true, fun Q E hq => ?_, tups_cmp (s := { s with heap := h' }) x' fun v hv ns t => ?_⟩
  · refine PySem.W.kat_kind (T := .type "int") h1 (by omega) (fun f hm => ?_) (by rfl) ?_
    · obtain ⟨n, t, rfl⟩ := h3 f hm
      exact PySem.W.Looks.of_pure rfl
    · have e : (Value.type "int" != Value.type "tuple") = true := by first | decide +kernel | rfl | decide
      rw [e]
      exact hq
  · obtain ⟨ns0, t0, _⟩ := x v hv
    have e : ns = ns0 := t.ints.symm.trans (t0.keeps kp).ints
    rw [e]
    exact hr v hv ns0 t0
end
end SrtO

namespace NB
open PySem PySem.Spec PyProof.Rows L2
/-- sorted(xs), xs a list of tuples of d whole numbers each: a new list of the same ones -/
def rSortTT (K : PySem.W.Frag) (d : Nat) (B : Int) : List V → Hp → VK → Prop := fun vs H Q => ∃ (a : Addr) (L : List (Addr × List Int)), vs = [V.ref a] ∧ SqL K H a (L.map fun z => V.ref z.1) ∧ (∀ z ∈ L, H z.1 = some (.tup (z.2.map V.int)) ∧ z.2.length = d ∧ TS.Bd B z.2) ∧
  ∀ (ys : List V) (p : Addr), ys.Perm (L.map fun z => V.ref z.1) → H p = none → Q (.ref p) (upd H p (.lst ys))
section
variable {X : Cx}
theorem cr_sortTT {d : Nat} {B : Int} (hd1 : 1 ≤ d) : CallR X (.builtin "sorted") (rSortTT X.K d B) := by
  intro pins s σ H vs us Q I r h
  obtain ⟨a, L, rfl, hs, hx, q⟩ := h
  obtain ⟨its, rv, hl, hz⟩ := I.list hs
  obtain ⟨u, rfl, ru⟩ := vals1 r
  obtain rfl : u = Value.ref a := ru
  obtain ⟨e1, e2⟩ := refs_back rv fun x m => by
    obtain ⟨z, _, e⟩ := List.mem_map.mp m
    exact ⟨z.1, e.symm⟩
  have ok : TS.TupsOk s.heap d B its := fun v hv => by
    obtain ⟨t, rfl⟩ := e2 v hv
    have hm : V.ref t ∈ L.map fun z => V.ref z.1 := by rw [e1]; exact List.mem_map.mpr ⟨_, hv, rfl⟩
    obtain ⟨z, hz, e⟩ := List.mem_map.mp hm
    obtain ⟨ht, hn, hb⟩ := hx z hz
    have e' : z.1 = t := V.ref.inj e
    subst e'
    obtain ⟨its2, r2, p2, _⟩ := I.tuple (.inl (.inl ht))
    exact ⟨z.2, ⟨z.1, _, rfl, p2, by simpa using r2.ints⟩, hn, hb⟩
  refine SrtO.sorted_ord (SrtO.swo_rk fun v => TS.code B (TS.intsOf s.heap v)) hl.isList (by rw [← rv.length]; exact hz) (fun h2 h₁ a' ha' kk => ?_) fun out h1 h2 => ?_
  · have kp : ∀ b o, s.heap.get? b = some o → o.cls = .type "tuple" → h₁.get? b = some o := fun b o e _ => (kk b o e).2
    refine SrtO.tups_sortableO (s := { s with heap := h₁ }) hd1 h2 (ok.keeps kp) (fun v hv ns t => ?_) fun o e => ?_
    · obtain ⟨ns0, t0, _⟩ := ok v hv
      have e : ns = ns0 := t.ints.symm.trans (t0.keeps kp).ints
      rw [e, t0.ints]
    · have e' : some o = some (seqObj "list" its.toArray 0) := e.symm.trans ha'
      cases e'
      intro c
      exact absurd (Value.type.inj c) (by decide)
  · have h3 : ∀ u ∈ out, ∃ a, u = Value.ref a := fun u hu => e2 u (h2.perm.mem_iff.mp hu)
    obtain ⟨ep, he'⟩ := PyProof.Rows.sortedAll_at s.heap its out.toArray
    have hp : (out.map backV).Perm (L.map fun z => V.ref z.1) := by
      rw [e1]
      exact h2.perm.map backV
    refine ⟨.ref _, upd H (s.heap.objs.size + 1) (.lst (out.map backV)), I.laid (t' := s.toks) (fun _ _ => PyProof.Rows.sortedAll_old) (Nat.le_succ _) ⟨?_, out, ep, vals_back h3, he'⟩, rfl, q _ _ hp (I.hok.fresh (Nat.le_succ _))⟩
    rw [hp.length_eq]
    exact hz
/-- a dict made of pairs, each key a tuple -/
def putAll (ms : List (List Key × V)) : List (List Key × V) := ms.foldl (fun acc kv => putK acc kv.1 kv.2) []
theorem KT.putAll {H : Hp} {ms : List (List Key × V)} {ps : List (List Key × Addr × Value)} (r : Paired (fun m p => m.1 = p.1 ∧ H p.2.1 = some (.tup (p.1.map kV)) ∧ L2.RelV m.2 p.2.2) ms ps) : ∀ {acc : List (List Key × V)} {xs : List (List Key × Addr × Value)}, KT H acc xs →
    KT H (ms.foldl (fun acc kv => putK acc kv.1 kv.2) acc) (storedAllH xs ps) := by
  induction r with
  | nil => exact fun h => h
  | @cons m p ms ps h t ih =>
    intro acc xs hk
    have e : KT H (putK acc m.1 m.2) (storedH xs p.1 p.2.1 p.2.2) := by
      rw [h.1]
      exact hk.put p.1 h.2.1 h.2.2
    exact ih e
theorem putAll_len : ∀ (ms acc : List (List Key × V)), (ms.foldl (fun acc kv => putK acc kv.1 kv.2) acc).length ≤ acc.length + ms.length
  | [], acc => by simp
  | m :: ms, acc => by
    have h1 := putAll_len ms (putK acc m.1 m.2)
    have h2 := length_putK acc m.1 m.2
    rw [List.foldl_cons, List.length_cons]
    omega
/-- dict(xs), xs a list of pairs (tuple, value) -/
theorem call_dictT (hcalm : X.calm = true) (hu : X.A.units + 8 < cLine) : CallR X (.type "dict") (fun xs H Q => ∃ (a : Addr) (L : List (Addr × Addr × List Key × V)), xs = [.ref a] ∧ H a = some (.lst (L.map fun z => V.ref z.1)) ∧ (∀ z ∈ L, H z.1 = some (.tup [.ref z.2.1, z.2.2.2]) ∧ H z.2.1 = some (.tup (z.2.2.1.map kV))) ∧
    ∀ p, H p = none → Q (.ref p) (upd H p (.dT (putAll (L.map fun z => (z.2.2.1, z.2.2.2)))))) := by
  intro pins s σ H xs us Q I r q
  obtain ⟨a, L, ex, hq, hp, q⟩ := q
  subst ex
  obtain ⟨u, eu, rx⟩ := vals1 r
  subst eu
  cases rx
  obtain ⟨its, rv, pl, hz⟩ := I.list (.inl (.inl hq))
  have ei : its = L.map fun z => Value.ref z.1 := by
    have e : (L.map fun z => V.ref z.1) = (L.map (·.1)).map V.ref := by rw [List.map_map]; rfl
    rw [e] at rv
    rw [refs_at rv, List.map_map]
    rfl
  subst ei
  rw [List.length_map] at hz
  -- the pairs as they stand in the machine
  have mk : ∀ (M : List (Addr × Addr × List Key × V)), (∀ z ∈ M, z ∈ L) → ∃ ps : List (List Key × Addr × Value), Paired (fun m p => m.1 = p.1 ∧ H p.2.1 = some (.tup (p.1.map kV)) ∧ RelV m.2 p.2.2) (M.map fun z => (z.2.2.1, z.2.2.2)) ps ∧ ps.length = M.length ∧
      ∀ (j : Nat) (p : List Key × Addr × Value), ps[j]? = some p → ∃ z, M[j]? = some z ∧ p.1 = z.2.2.1 ∧ p.2.1 = z.2.1 ∧ IsTup s.heap z.1 #[.ref p.2.1, p.2.2] := by
    intro M
    induction M with
    | nil => exact fun _ => ⟨[], .nil, rfl, fun j p e => by simp at e⟩
    | cons z M ih =>
      intro hM
      obtain ⟨ps, h1, h2, h3⟩ := ih fun y hy => hM y (List.mem_cons_of_mem _ hy)
      obtain ⟨hz1, hz2⟩ := hp z (hM z List.mem_cons_self)
      obtain ⟨its2, r2, p2, _⟩ := I.tuple (.inl (.inl hz1))
      obtain ⟨u1, u2, rfl, ra, rb⟩ := vals2 r2
      obtain rfl : u1 = Value.ref z.2.1 := ra
      refine ⟨(z.2.2.1, z.2.1, u2) :: ps, .cons ⟨rfl, hz2, rb⟩ h1, by rw [List.length_cons, List.length_cons, h2], fun j p e => ?_⟩
      cases j with
      | zero =>
        have e' : (z.2.2.1, z.2.1, u2) = p := Option.some.inj e
        subst e'
        exact ⟨z, rfl, rfl, rfl, p2⟩
      | succ j => exact h3 j p (by simpa using e)
  obtain ⟨ps, rel, hl, hps⟩ := mk L fun z hz => hz
  obtain ⟨o, n, ho, hc, hd, hdat⟩ := pl
  have items : PairItems s.heap (L.map fun z => Value.ref z.1).toArray (fun j => (L.getD j (0, 0, [], .non)).1) (ps.map fun p => (Value.ref p.2.1, p.2.2)) := by
    refine ⟨by simp [hl], fun j k v e => ?_⟩
    rw [List.getElem?_map] at e
    cases ej : ps[j]? with
    | none => rw [ej] at e; cases e
    | some p =>
      rw [ej] at e
      have e' : (Value.ref p.2.1, p.2.2) = (k, v) := Option.some.inj e
      cases e'
      obtain ⟨z, hz1, _, _, hz4⟩ := hps j p ej
      have eg : L.getD j (0, 0, [], .non) = z := by rw [List.getD_eq_getElem?_getD, hz1]; rfl
      refine ⟨by simp [hz1, eg], .inl ?_⟩
      show s.heap.IsTuple (L.getD j (0, 0, [], .non)).1 _
      rw [eg]
      exact hz4
  have hst : KeysStay (tupleKind (mixKind X.prog X.w)) s.heap s.heap.objs.size [] ps := fun h' hk x hx => by
    obtain ⟨j, hj, e⟩ := List.getElem_of_mem hx
    obtain ⟨z, hz1, e1, e2, _⟩ := hps j x (by rw [List.getElem?_eq_getElem hj, e])
    have hz2 := (hp z (List.mem_of_getElem? hz1)).2
    rw [e1, e2]
    obtain ⟨_, its3, r3, o3, q1, q2, n3, q3⟩ := (show ObjOk X.prog X.w H s.heap z.2.1 (.tup (z.2.2.1.map kV)) from I.hok _ _ hz2)
    exact ⟨o3, its3.toArray, n3, hk _ _ (Nat.ne_of_lt (Heap.lt_size q1)) (by simp) q1, q2, q3, by simpa using items_are r3⟩
  refine PySem.call_dict_pairsH (knd := tupleKind (mixKind X.prog X.w)) (ps := ps) (PairArg.list a _ _ (ps.map fun p => (Value.ref p.2.1, p.2.2))) (I.ok.hd hcalm) (tupleKind_room_in1 (A := X.A.in1) (by show X.A.units + 1 + 1 < cLine; omega)) ⟨⟨o, n, ho, hc, hd, hdat⟩, items⟩ ⟨by rw [List.length_map], fun i key v e => ?_⟩ hst (by rw [List.length_map, hl]; exact hz) fun h' tk hd' k => ?_
  · have e' : (ps.map fun p => (Value.ref p.2.1, p.2.2))[i]? = some (key, v) := e
    rw [List.getElem?_map] at e'
    cases ej : ps[i]? with
    | none => rw [ej] at e'; cases e'
    | some p =>
      rw [ej] at e'
      have e2 : (Value.ref p.2.1, p.2.2) = (key, v) := Option.some.inj e'
      cases e2
      exact ⟨p.1, p.2.1, rfl, rfl⟩
  · have hm : (s.heap.objs.size == sysModules) = false := beq_eq_false_iff_ne.mpr (Nat.ne_of_gt I.big)
    have hlen : (putAll (L.map fun z => (z.2.2.1, z.2.2.2))).length ≤ sizeLine := by
      have := putAll_len (L.map fun z => (z.2.2.1, z.2.2.2)) []
      rw [List.length_nil, List.length_map] at this
      unfold putAll
      omega
    have nw := I.hok.fresh (Nat.le_refl s.heap.objs.size)
    have kt : KT (upd H s.heap.objs.size (.dT (putAll (L.map fun z => (z.2.2.1, z.2.2.2))))) (putAll (L.map fun z => (z.2.2.1, z.2.2.2))) (storedAllH [] ps) := (KT.putAll (acc := []) (xs := []) rel .nil).keeps fun b ys e => by
      rw [upd_ne (ne_of_none e nw)]
      exact e
    obtain ⟨q', es, ep, g1, g2, g3, g4, _, g5⟩ := hd'
    exact ⟨.ref s.heap.objs.size, upd H s.heap.objs.size (.dT (putAll (L.map fun z => (z.2.2.1, z.2.2.2)))), I.laid (t' := tk) (fun b o e => k b o (by simp) e) (Nat.le_refl _) (show ObjOk X.prog X.w _ _ _ (.dT (putAll (L.map fun z => (z.2.2.1, z.2.2.2)))) from ⟨hlen, hm, _, kt, q', es, ep, g1, g2, g3, g4, g5⟩), rfl, q _ nw⟩
/-- {t: v}, t a tuple -/
def tDispT (tk tv : TE) : TE := fun σ H Q => ∀ p, H p = none → tk σ (upd H p (.dT [])) fun x H1 => tv σ H1 fun y H2 => ∃ (b : Addr) (k : List Key), x = .ref b ∧ H2 b = some (.tup (k.map kV)) ∧ H2 p = some (.dT []) ∧ Q (.ref p) (upd H2 p (.dT [(k, y)]))
theorem pe_dispT {pos : Pos} {ke ve : Expr} {tk tv : TE} (hk : PE X ke tk) (hv : PE X ve tv) (hu : X.A.units + 8 < cLine) : PE X (.Dict [some ke] [ve] pos) (tDispT tk tv) := by
  refine ⟨fun pins s σ H Q I q => ?_⟩
  have hn := I.hok.fresh (Nat.le_refl s.heap.objs.size)
  have hsys : (s.heap.objs.size == sysModules) = false := beq_eq_false_iff_ne.mpr (Nat.ne_of_gt I.big)
  have I1 := I.laid (a := s.heap.objs.size) (o := .dT []) (h' := s.heap.push { cls := .type "dict", data := .dict #[] }) (t' := s.toks) (fun _ _ q => Heap.get?_push_of_some _ q) (Nat.le_refl _)
    (show ObjOk X.prog X.w _ _ _ (.dT []) from ⟨Nat.zero_le _, hsys, [], .nil, by
      obtain ⟨o, es, ep, g1, g2, g3, g4, _, g5⟩ := (Heap.DictOfH.new (knd := tupleKind (mixKind X.prog X.w)) s.heap)
      exact ⟨o, es, ep, g1, g2, g3, g4, g5⟩⟩)
  refine wpAny_Dict_any (by rfl) (by rfl) (by intro z; cases z) (show 1 ≤ 15 by decide) ?_
  refine pairTrees_cons_walk (thn (hk.run pins _ σ _ _ I1 (q _ hn)) fun u s1 ⟨x, H1, J1, rx, q1⟩ => thn (hv.run pins s1 σ H1 _ J1 q1) fun w2 s2 ⟨y, H2, J2, ry, q2⟩ => pairTrees_nil_walk ?_)
  obtain ⟨b, k, rfl, eb, ep, q3⟩ := q2
  cases rx
  obtain ⟨z, hd, xs, rel, dd⟩ := dt_of J2.hok ep
  cases rel
  refine wpAny_bind (wpAny_bind (wpAny_dictSet_heap (knd := tupleKind (mixKind X.prog X.w)) (hsz := Nat.zero_le _) (show X.A.units < cLine by omega) (key_of J2.hok eb) dd fun h' dd' hs => wpAny_pure ?_))
  refine wpAny_pure ?_
  obtain ⟨q', es, ep', g1, g2, g3, g4, _, g5⟩ := dd'
  refine ⟨.ref s.heap.objs.size, _, d_write (t' := _) J2 (by rw [ep]; exact True.intro) hs ⟨q', g1⟩ (ob := .dT [(k, y)]) ⟨(show 1 ≤ sizeLine by decide), hd, _, .cons ⟨rfl, ?_, ry⟩ .nil, q', es, ep', g1, g2, g3, g4, g5⟩, rfl, q3⟩
  rw [upd_ne (ne_of eb ep (fun z => nomatch z))]
  exact eb
end
end NB

set_option Elab.async false
set_option linter.all false
set_option maxRecDepth 100000
namespace K19
open PySem PySem.Spec PyProof.Rows L2 NB

/-! ### places, good standings: mathematics alone -/
abbrev plc (st : List Int) (i : Nat) : Int := st.getD i 0
theorem plc_set_self {st : List Int} {i : Nat} {x : Int} (h : i < st.length) : plc (st.set i x) i = x := by
  unfold plc
  rw [List.getD_eq_getElem?_getD, List.getElem?_set_self h]
  rfl
theorem plc_set_ne {st : List Int} {i j : Nat} {x : Int} (h : i ≠ j) : plc (st.set i x) j = plc st j := by
  unfold plc
  rw [List.getD_eq_getElem?_getD, List.getD_eq_getElem?_getD, List.getElem?_set_ne h]
theorem plc_get {st : List Int} {i : Nat} (h : i < st.length) : plc st i = st[i] := by
  unfold plc
  rw [List.getD_eq_getElem?_getD, List.getElem?_eq_getElem h]
  rfl
theorem wipe_one {σ : L2.St} {k : Nat} {v : Option V} {n : Str} : wipe ((wipe σ ([(n, k)].map (·.2))).set k v) ([(n, k)].map (·.2)) = wipe σ ([(n, k)].map (·.2)) := by
  show ((σ.set k none).set k v).set k none = σ.set k none
  rw [List.set_set, List.set_set]
theorem tst_in {xs : List Int} {s : Sd} (h : s.1 < xs.length) : inB xs s = if s.2.1 then decide (s.2.2 ≤ plc xs s.1) else decide (plc xs s.1 ≤ s.2.2) := by
  unfold inB
  rw [List.getElem?_eq_getElem h, plc_get h]
def Btw (a x b : Int) : Prop := min a b ≤ x ∧ x ≤ max a b
def Good (rs : List Rl) (st : List Int) : Prop := ∀ q ∈ rs, kept st q = true
theorem plc_app (a : List Int) (x : Int) (j : Nat) : plc (a ++ [x]) j = if j < a.length then plc a j else if j = a.length then x else 0 := by
  unfold plc
  rw [List.getD_eq_getElem?_getD, List.getD_eq_getElem?_getD]
  by_cases c : j < a.length
  · rw [if_pos c, List.getElem?_append_left c]
  · rw [if_neg c, List.getElem?_append_right (by omega)]
    by_cases d : j = a.length
    · rw [if_pos d, d, Nat.sub_self]
      rfl
    · rw [if_neg d, List.getElem?_eq_none (by simp only [List.length_cons, List.length_nil]; omega)]
      rfl
theorem plc_ext {a b : List Int} (l : a.length = b.length) (h : ∀ i, i < a.length → plc a i = plc b i) : a = b := by
  refine List.ext_getElem l fun i x y => ?_
  have := h i x
  rwa [plc_get x, plc_get y] at this
def ext1 (t : Int) (s : List Int) : List (List Int) := (List.range (t + 1).toNat).map fun p : Nat => s ++ [((p : Nat) : Int)]
def bx (tops : List Int) : Nat → List (List Int)
  | 0 => [[]]
  | i + 1 => (bx tops i).flatMap (ext1 (plc tops i))
theorem bx_mem (tops : List Int) : ∀ (i : Nat) (s : List Int), s ∈ bx tops i ↔ s.length = i ∧ ∀ j, j < i → 0 ≤ plc s j ∧ plc s j ≤ plc tops j
  | 0, s => by
    show s ∈ [[]] ↔ _
    rw [List.mem_singleton]
    constructor
    · rintro rfl
      exact ⟨rfl, fun j h => absurd h (Nat.not_lt_zero _)⟩
    · rintro ⟨h, _⟩
      exact List.length_eq_zero_iff.mp h
  | i + 1, s => by
    show s ∈ (bx tops i).flatMap (ext1 (plc tops i)) ↔ _
    rw [List.mem_flatMap]
    constructor
    · rintro ⟨a, ha, hs⟩
      obtain ⟨l, h⟩ := (bx_mem tops i a).mp ha
      obtain ⟨p, hp, rfl⟩ := List.mem_map.mp hs
      have hp' := List.mem_range.mp hp
      refine ⟨by rw [List.length_append, l]; rfl, fun j hj => ?_⟩
      rw [plc_app]
      by_cases c : j < a.length
      · rw [if_pos c]
        exact h j (by omega)
      · rw [if_neg c, if_pos (by omega), show j = i by omega]
        omega
    · rintro ⟨l, h⟩
      have e : s = s.take i ++ [plc s i] := by
        refine plc_ext (by rw [List.length_append, List.length_take]; simp only [List.length_cons, List.length_nil]; omega) fun j hj => ?_
        rw [plc_app]
        by_cases c : j < (s.take i).length
        · rw [if_pos c]
          rw [List.length_take] at c
          rw [plc_get hj, plc_get (by rw [List.length_take]; omega), List.getElem_take]
        · rw [if_neg c]
          rw [List.length_take] at c
          rw [if_pos (by rw [List.length_take]; omega), show j = i by omega]
      have hi := h i (Nat.lt_succ_self i)
      refine ⟨s.take i, (bx_mem tops i _).mpr ⟨by rw [List.length_take]; omega, fun j hj => ?_⟩, ?_⟩
      · have hj' : j < (s.take i).length := by rw [List.length_take]; omega
        rw [plc_get hj', List.getElem_take, ← plc_get (show j < s.length by omega)]
        exact h j (by omega)
      · refine List.mem_map.mpr ⟨(plc s i).toNat, List.mem_range.mpr (by omega), ?_⟩
        rw [Int.toNat_of_nonneg hi.1]
        exact e.symm
def goodB (rs : List Rl) (st : List Int) : Bool := rs.all (kept st)
theorem goodB_iff {rs : List Rl} {st : List Int} : goodB rs st = true ↔ Good rs st := List.all_eq_true
def goods (tops : List Int) (rs : List Rl) : List (List Int) := (bx tops tops.length).filter (goodB rs)
theorem goods_mem {tops : List Int} {rs : List Rl} {s : List Int} : s ∈ goods tops rs ↔ (s.length = tops.length ∧ ∀ j, j < tops.length → 0 ≤ plc s j ∧ plc s j ≤ plc tops j) ∧ Good rs s := by
  unfold goods
  rw [List.mem_filter, bx_mem, goodB_iff]
theorem set_back {b : List Int} {i : Nat} {y : Int} (hi : i < b.length) : (b.set i y).set i (plc b i) = b := by
  refine plc_ext (by rw [List.length_set, List.length_set]) fun j hj => ?_
  by_cases c : i = j
  · subst c
    rw [plc_set_self (by rw [List.length_set]; exact hi)]
  · rw [plc_set_ne c, plc_set_ne c]
theorem set_same {b : List Int} {i : Nat} (hi : i < b.length) : b.set i (plc b i) = b := by
  refine plc_ext (by rw [List.length_set]) fun j hj => ?_
  by_cases c : i = j
  · subst c
    rw [plc_set_self hi]
  · rw [plc_set_ne c]
section
variable {tops : List Int} {rs : List Rl}
theorem goods_len {s : List Int} (h : s ∈ goods tops rs) : s.length = tops.length := (goods_mem.mp h).1.1
theorem goods_good {s : List Int} (h : s ∈ goods tops rs) : Good rs s := (goods_mem.mp h).2
theorem goods_bd (fw : Few tops) {s : List Int} (h : s ∈ goods tops rs) : TS.Bd 4 s := fun m hm => by
  obtain ⟨i, hi, e⟩ := List.getElem_of_mem hm
  have l := goods_len h
  have b := (goods_mem.mp h).1.2 i (by omega)
  rw [plc_get hi, e] at b
  have t := fw _ (List.getElem_mem (show i < tops.length by omega))
  rw [← plc_get] at t
  omega
end
theorem nodup_len {α : Type} [DecidableEq α] : ∀ (l m : List α), l.Nodup → (∀ x ∈ l, x ∈ m) → l.length ≤ m.length
  | [], _, _, _ => Nat.zero_le _
  | x :: l, m, nd, h => by
    obtain ⟨n1, n2⟩ := List.nodup_cons.mp nd
    have ih := nodup_len l (m.erase x) n2 fun y hy => (List.mem_erase_of_ne (fun e : y = x => n1 (by rw [← e]; exact hy))).mpr (h y (List.mem_cons_of_mem _ hy))
    have hx := h x List.mem_cons_self
    rw [List.length_erase_of_mem hx] at ih
    have : 0 < m.length := List.length_pos_of_mem hx
    rw [List.length_cons]
    omega

end K19

set_option Elab.async false
set_option linter.all false
set_option maxRecDepth 100000
namespace K19
open PySem PySem.Spec PyProof.Rows L2 NB

/-! ### sides and chains: the mathematics -/
section
variable (tops : List Int) (rs : List Rl)
def loS (s : Sd) : Int := if s.2.1 then s.2.2 else 0
def hiS (s : Sd) : Int := if s.2.1 then plc tops s.1 else s.2.2
def barsB (a b : Sd) : Bool := decide (a.1 = b.1) && (decide (hiS tops a < loS b) || decide (hiS tops b < loS a))
def withinB (a b : Sd) : Bool := decide (a.1 = b.1) && (decide (loS b ≤ loS a) && decide (hiS tops a ≤ hiS tops b))
def led1 (a : Sd) (q : Rl) : List Sd := (if barsB tops a q.1 then [q.2] else []) ++ (if barsB tops a q.2 then [q.1] else [])
def ledL (a : Sd) : List Sd := rs.flatMap (led1 tops a)
def othS (s : Sd) : Option Sd := if 0 < loS s then some (s.1, false, loS s - 1) else if hiS tops s < plc tops s.1 then some (s.1, true, hiS tops s + 1) else none
inductive Rea (S : Sd → Prop) : Sd → Prop where
  | base {s : Sd} : S s → Rea S s
  | step {a b : Sd} : Rea S a → b ∈ ledL tops rs a → Rea S b
end
section
variable {tops : List Int} {rs : List Rl}
theorem SideOk.lt {s : Sd} (h : SideOk tops s) : s.1 < tops.length := (List.getElem?_eq_some_iff.mp h.choose_spec.1).1
theorem SideOk.bd {s : Sd} (h : SideOk tops s) : 0 ≤ s.2.2 ∧ s.2.2 ≤ plc tops s.1 := by
  obtain ⟨t, e, h0, h1⟩ := h
  have : plc tops s.1 = t := by
    show tops.getD s.1 0 = t
    rw [List.getD_eq_getElem?_getD, e]
    rfl
  rw [this]
  exact ⟨h0, h1⟩
theorem SideOk.mk' {i : Nat} {b : Bool} {p : Int} (li : i < tops.length) (h0 : 0 ≤ p) (h1 : p ≤ plc tops i) : SideOk tops (i, b, p) := by
  refine ⟨tops[i], List.getElem?_eq_getElem li, h0, ?_⟩
  have : plc tops i = tops[i] := by
    show tops.getD i 0 = _
    rw [List.getD_eq_getElem?_getD, List.getElem?_eq_getElem li]
    rfl
  rw [← this]
  exact h1
theorem inB_iff {st : List Int} {s : Sd} (h : s.1 < st.length) : inB st s = true ↔ (if s.2.1 then s.2.2 ≤ plc st s.1 else plc st s.1 ≤ s.2.2) := by
  have e : plc st s.1 = st[s.1] := by
    show st.getD s.1 0 = _
    rw [List.getD_eq_getElem?_getD, List.getElem?_eq_getElem h]
    rfl
  unfold inB
  rw [List.getElem?_eq_getElem h, e]
  show (if s.2.1 = true then _ else _) = true ↔ _
  split <;> exact decide_eq_true_iff
theorem inFr {st : List Int} {i : Nat} {p : Int} (h : i < st.length) : inB st (i, true, p) = true ↔ p ≤ plc st i := inB_iff (s := (i, true, p)) h
theorem inTo {st : List Int} {i : Nat} {p : Int} (h : i < st.length) : inB st (i, false, p) = true ↔ plc st i ≤ p := inB_iff (s := (i, false, p)) h
theorem in_span {st : List Int} (hg : st ∈ goods tops rs) {s : Sd} (ok : SideOk tops s) : inB st s = true ↔ loS s ≤ plc st s.1 ∧ plc st s.1 ≤ hiS tops s := by
  obtain ⟨⟨l, bd⟩, _⟩ := goods_mem.mp hg
  have lt := ok.lt
  have b := bd s.1 lt
  rw [inB_iff (by omega)]
  unfold loS hiS
  split <;> omega
theorem bars_iff {a b : Sd} : barsB tops a b = true ↔ a.1 = b.1 ∧ (hiS tops a < loS b ∨ hiS tops b < loS a) := by
  unfold barsB
  simp only [Bool.and_eq_true, Bool.or_eq_true, decide_eq_true_eq]
theorem within_iff {a b : Sd} : withinB tops a b = true ↔ a.1 = b.1 ∧ loS b ≤ loS a ∧ hiS tops a ≤ hiS tops b := by
  unfold withinB
  simp only [Bool.and_eq_true, decide_eq_true_eq]
theorem bars_symm {a b : Sd} (h : barsB tops a b = true) : barsB tops b a = true := by
  rw [bars_iff] at h ⊢
  exact ⟨h.1.symm, h.2.symm⟩
theorem bars_out {st : List Int} (hg : st ∈ goods tops rs) {a b : Sd} (oa : SideOk tops a) (ob : SideOk tops b) (h : barsB tops a b = true) (ha : inB st a = true) : inB st b = false := by
  cases e : inB st b with
  | false => rfl
  | true =>
    rw [in_span hg oa] at ha
    rw [in_span hg ob] at e
    rw [bars_iff] at h
    obtain ⟨h1, h2⟩ := h
    rw [h1] at ha
    omega
theorem led_iff {a b : Sd} : b ∈ ledL tops rs a ↔ ∃ q ∈ rs, (barsB tops a q.1 = true ∧ b = q.2) ∨ (barsB tops a q.2 = true ∧ b = q.1) := by
  unfold ledL
  rw [List.mem_flatMap]
  constructor
  · rintro ⟨q, hq, h⟩
    refine ⟨q, hq, ?_⟩
    unfold led1 at h
    rcases List.mem_append.mp h with h | h
    · split at h
      · rename_i c
        exact .inl ⟨c, List.mem_singleton.mp h⟩
      · exact absurd h List.not_mem_nil
    · split at h
      · rename_i c
        exact .inr ⟨c, List.mem_singleton.mp h⟩
      · exact absurd h List.not_mem_nil
  · rintro ⟨q, hq, h⟩
    refine ⟨q, hq, ?_⟩
    unfold led1
    rcases h with ⟨c, rfl⟩ | ⟨c, rfl⟩
    · rw [if_pos c]
      exact List.mem_append_left _ (List.mem_singleton.mpr rfl)
    · rw [if_pos c]
      exact List.mem_append_right _ (List.mem_singleton.mpr rfl)
theorem led_ok (rok : ∀ q ∈ rs, RuleOk tops q) {a b : Sd} (h : b ∈ ledL tops rs a) : SideOk tops b := by
  obtain ⟨q, hq, ⟨_, rfl⟩ | ⟨_, rfl⟩⟩ := led_iff.mp h
  · exact (rok q hq).2
  · exact (rok q hq).1
theorem Rea.ok (rok : ∀ q ∈ rs, RuleOk tops q) {S : Sd → Prop} (hS : ∀ s, S s → SideOk tops s) {b : Sd} (h : Rea tops rs S b) : SideOk tops b := by
  cases h with
  | base h => exact hS _ h
  | step _ h => exact led_ok rok h
theorem Rea.refl (a : Sd) : Rea tops rs (· = a) a := .base rfl
theorem Rea.trans {S : Sd → Prop} {a b : Sd} (h : Rea tops rs S a) (h' : Rea tops rs (· = a) b) : Rea tops rs S b := by
  induction h' with
  | base e => exact e ▸ h
  | step _ l ih => exact .step ih l
theorem Rea.mono {S T : Sd → Prop} (hST : ∀ s, S s → T s) {b : Sd} (h : Rea tops rs S b) : Rea tops rs T b := by
  induction h with
  | base e => exact .base (hST _ e)
  | step _ l ih => exact .step ih l
theorem Rea.one {S : Sd → Prop} {b : Sd} (h : Rea tops rs S b) : ∃ s, S s ∧ Rea tops rs (· = s) b := by
  induction h with
  | base e => exact ⟨_, e, .base rfl⟩
  | step _ l ih => exact ih.elim fun s h => ⟨s, h.1, .step h.2 l⟩
/-- what is reached is in wherever the starts are -/
theorem Rea.in' (rok : ∀ q ∈ rs, RuleOk tops q) {S : Sd → Prop} (hS : ∀ s, S s → SideOk tops s) {st : List Int} (hg : st ∈ goods tops rs) (hi : ∀ s, S s → inB st s = true) {b : Sd} (h : Rea tops rs S b) : inB st b = true := by
  induction h with
  | base e => exact hi _ e
  | step r l ih =>
    have oa := r.ok rok hS
    obtain ⟨q, hq, h⟩ := led_iff.mp l
    have k := (goods_mem.mp hg).2 q hq
    unfold kept at k
    rw [Bool.or_eq_true] at k
    rcases h with ⟨c, rfl⟩ | ⟨c, rfl⟩
    · have := bars_out hg oa (rok q hq).1 c ih
      rw [this] at k
      exact k.resolve_left (by decide)
    · have := bars_out hg oa (rok q hq).2 c ih
      rw [this] at k
      exact k.resolve_right (by decide)
/-- the way back: who bars what is reached leads to what bars the start -/
theorem Rea.turn {w b : Sd} (h : Rea tops rs (· = w) b) : ∀ {a : Sd}, barsB tops a b = true → ∃ z, Rea tops rs (· = a) z ∧ barsB tops z w = true := by
  induction h with
  | base e => exact fun {a} h => ⟨a, .base rfl, e ▸ h⟩
  | step r l ih =>
    intro a h
    obtain ⟨q, hq, ⟨c, rfl⟩ | ⟨c, rfl⟩⟩ := led_iff.mp l
    · obtain ⟨z, hz, bz⟩ := ih (bars_symm c)
      exact ⟨z, (Rea.step (Rea.refl a) (led_iff.mpr ⟨q, hq, .inr ⟨h, rfl⟩⟩)).trans hz, bz⟩
    · obtain ⟨z, hz, bz⟩ := ih (bars_symm c)
      exact ⟨z, (Rea.step (Rea.refl a) (led_iff.mpr ⟨q, hq, .inl ⟨h, rfl⟩⟩)).trans hz, bz⟩
theorem Rea.first {w z : Sd} (h : Rea tops rs (· = w) z) : z = w ∨ ∃ q ∈ rs, ∃ f x, ((q.1 = f ∧ q.2 = x) ∨ (q.2 = f ∧ q.1 = x)) ∧ barsB tops w f = true ∧ Rea tops rs (· = x) z := by
  induction h with
  | base e => exact .inl e
  | step r l ih =>
    rcases ih with rfl | ⟨q, hq, f, x, e, c, r'⟩
    · obtain ⟨q, hq, ⟨c, rfl⟩ | ⟨c, rfl⟩⟩ := led_iff.mp l
      · exact .inr ⟨q, hq, _, _, .inl ⟨rfl, rfl⟩, c, .base rfl⟩
      · exact .inr ⟨q, hq, _, _, .inr ⟨rfl, rfl⟩, c, .base rfl⟩
    · exact .inr ⟨q, hq, f, x, e, c, .step r' l⟩
/-- what follows: for each thing the greatest "from", the least "to" -/
structure Fol (tops : List Int) (rs : List Rl) (S : Sd → Prop) (lows highs : List Int) : Prop where
  ll : lows.length = tops.length
  lh : highs.length = tops.length
  l0 : ∀ i, i < tops.length → plc lows i = 0 ∨ Rea tops rs S (i, true, plc lows i)
  h0 : ∀ i, i < tops.length → plc highs i = plc tops i ∨ Rea tops rs S (i, false, plc highs i)
  l1 : ∀ i p, Rea tops rs S (i, true, p) → p ≤ plc lows i
  h1 : ∀ i p, Rea tops rs S (i, false, p) → plc highs i ≤ p
  lz : ∀ i, i < tops.length → 0 ≤ plc lows i
  hz : ∀ i, i < tops.length → plc highs i ≤ plc tops i
def pullF (lows highs st : List Int) : List Int := (List.range st.length).map fun i => max (plc lows i) (min (plc st i) (plc highs i))
theorem pull_len (lows highs st : List Int) : (pullF lows highs st).length = st.length := by
  unfold pullF
  rw [List.length_map, List.length_range]
theorem plc_pull {lows highs st : List Int} {i : Nat} (h : i < st.length) : plc (pullF lows highs st) i = max (plc lows i) (min (plc st i) (plc highs i)) := by
  show (pullF lows highs st).getD i 0 = _
  unfold pullF
  rw [List.getD_eq_getElem?_getD, List.getElem?_map, List.getElem?_range h]
  rfl
theorem Fol.has {S : Sd → Prop} {lows highs : List Int} (F : Fol tops rs S lows highs) {st : List Int} {s : Sd} (lt : s.1 < st.length) (hs : Rea tops rs S s) (hb : plc lows s.1 ≤ plc st s.1 ∧ plc st s.1 ≤ plc highs s.1) : inB st s = true := by
  obtain ⟨i, b, p⟩ := s
  have hb1 : plc lows i ≤ plc st i := hb.1
  have hb2 : plc st i ≤ plc highs i := hb.2
  cases b with
  | true =>
    have := F.l1 i p hs
    rw [inFr (show i < st.length from lt)]
    exact Int.le_trans this hb1
  | false =>
    have := F.h1 i p hs
    rw [inTo (show i < st.length from lt)]
    exact Int.le_trans hb2 this
/-- where bounds don't cross, a good standing pulled within them is good -/
theorem Fol.good (rok : ∀ q ∈ rs, RuleOk tops q) {S : Sd → Prop} (hS : ∀ s, S s → SideOk tops s) {lows highs : List Int} (F : Fol tops rs S lows highs) (lh : ∀ i, i < tops.length → plc lows i ≤ plc highs i) {st : List Int} (hg : st ∈ goods tops rs) :
    pullF lows highs st ∈ goods tops rs ∧ ∀ s, Rea tops rs S s → inB (pullF lows highs st) s = true := by
  obtain ⟨⟨l, bd⟩, gd⟩ := goods_mem.mp hg
  have lp := pull_len lows highs st
  have hv : ∀ i, i < tops.length → plc lows i ≤ plc (pullF lows highs st) i ∧ plc (pullF lows highs st) i ≤ plc highs i := fun i hi => by
    have := lh i hi
    rw [plc_pull (by omega)]
    omega
  have has : ∀ s, Rea tops rs S s → inB (pullF lows highs st) s = true := fun s hs => by
    have lt := (hs.ok rok hS).lt
    exact F.has (by omega) hs (hv _ lt)
  -- a side that goes out is barred by what follows
  have out : ∀ s, SideOk tops s → inB st s = true → inB (pullF lows highs st) s = true ∨ ∃ z, Rea tops rs S z ∧ barsB tops z s = true := fun s ok hi => by
    obtain ⟨i, c, p⟩ := s
    have lt : i < tops.length := ok.lt
    have b : 0 ≤ p ∧ p ≤ plc tops i := ok.bd
    have l0 := F.l0 i lt
    have h0 := F.h0 i lt
    have lz := F.lz i lt
    have hz := F.hz i lt
    have bs := bd i lt
    have lhi := lh i lt
    cases c with
    | true =>
      have hi' := (inFr (by omega)).mp hi
      rw [inFr (by omega), plc_pull (by omega)]
      by_cases c : p ≤ max (plc lows i) (min (plc st i) (plc highs i))
      · exact .inl c
      · refine .inr ⟨(i, false, plc highs i), h0.resolve_left (by omega), ?_⟩
        rw [bars_iff]
        refine ⟨rfl, .inl ?_⟩
        show plc highs i < p
        omega
    | false =>
      have hi' := (inTo (by omega)).mp hi
      rw [inTo (by omega), plc_pull (by omega)]
      by_cases c : max (plc lows i) (min (plc st i) (plc highs i)) ≤ p
      · exact .inl c
      · refine .inr ⟨(i, true, plc lows i), l0.resolve_left (by omega), ?_⟩
        rw [bars_iff]
        refine ⟨rfl, .inr ?_⟩
        show p < plc lows i
        omega
  refine ⟨goods_mem.mpr ⟨⟨by omega, fun i hi => ?_⟩, fun q hq => ?_⟩, has⟩
  · have := hv i hi
    have := F.lz i hi
    have := F.hz i hi
    omega
  · have k := gd q hq
    unfold kept at k ⊢
    rw [Bool.or_eq_true] at k ⊢
    rcases k with k | k
    · rcases out q.1 (rok q hq).1 k with h | ⟨z, hz, c⟩
      · exact .inl h
      · exact .inr (has _ (.step hz (led_iff.mpr ⟨q, hq, .inl ⟨c, rfl⟩⟩)))
    · rcases out q.2 (rok q hq).2 k with h | ⟨z, hz, c⟩
      · exact .inr h
      · exact .inl (has _ (.step hz (led_iff.mpr ⟨q, hq, .inr ⟨c, rfl⟩⟩)))
theorem Fol.sound (rok : ∀ q ∈ rs, RuleOk tops q) {S : Sd → Prop} (hS : ∀ s, S s → SideOk tops s) {lows highs : List Int} (F : Fol tops rs S lows highs) {st : List Int} (hg : st ∈ goods tops rs) (hi : ∀ s, S s → inB st s = true) {i : Nat} (li : i < tops.length) : plc lows i ≤ plc st i ∧ plc st i ≤ plc highs i := by
  obtain ⟨⟨l, bd⟩, _⟩ := goods_mem.mp hg
  have b := bd i li
  constructor
  · rcases F.l0 i li with h | h
    · omega
    · exact (inFr (by omega)).mp (h.in' rok hS hg hi)
  · rcases F.h0 i li with h | h
    · omega
    · exact (inTo (by omega)).mp (h.in' rok hS hg hi)
theorem Fol.cross (rok : ∀ q ∈ rs, RuleOk tops q) {S : Sd → Prop} (hS : ∀ s, S s → SideOk tops s) {lows highs : List Int} (F : Fol tops rs S lows highs) {st : List Int} (hg : st ∈ goods tops rs) (hi : ∀ s, S s → inB st s = true) (i : Nat) (li : i < tops.length) : plc lows i ≤ plc highs i := by
  have := F.sound rok hS hg hi li
  omega
/-- some bounds follow of any sides -/
theorem fol_ex (rok : ∀ q ∈ rs, RuleOk tops q) (pl : ∀ i, i < tops.length → 0 ≤ plc tops i) {S : Sd → Prop} (hS : ∀ s, S s → SideOk tops s) : ∃ lows highs, Fol tops rs S lows highs := by
  have up : ∀ i, i < tops.length → ∃ m : Int, (m = 0 ∨ Rea tops rs S (i, true, m)) ∧ 0 ≤ m ∧ ∀ p, Rea tops rs S (i, true, p) → p ≤ m := fun i hi => by
    have main : ∀ n : Nat, (∀ p : Int, Rea tops rs S (i, true, p) → p ≤ (n : Int)) → ∃ m : Int, (m = 0 ∨ Rea tops rs S (i, true, m)) ∧ 0 ≤ m ∧ ∀ p, Rea tops rs S (i, true, p) → p ≤ m := by
      intro n
      induction n with
      | zero => exact fun h => ⟨0, .inl rfl, Int.le_refl _, fun p hp => by have := h p hp; omega⟩
      | succ n ih =>
        intro h
        by_cases c : Rea tops rs S (i, true, ((n + 1 : Nat) : Int))
        · exact ⟨_, .inr c, by omega, h⟩
        · refine ih fun p hp => ?_
          have := h p hp
          rcases Int.lt_or_eq_of_le this with l | e
          · omega
          · rw [e] at hp
            exact absurd hp c
    refine main (plc tops i).toNat fun p hp => ?_
    have := (hp.ok rok hS).bd
    have h2 : p ≤ plc tops i := this.2
    omega
  have dn : ∀ i, i < tops.length → ∃ m : Int, (m = plc tops i ∨ Rea tops rs S (i, false, m)) ∧ m ≤ plc tops i ∧ ∀ p, Rea tops rs S (i, false, p) → m ≤ p := fun i hi => by
    have main : ∀ n : Nat, (∀ p : Int, Rea tops rs S (i, false, p) → plc tops i - n ≤ p) → ∃ m : Int, (m = plc tops i ∨ Rea tops rs S (i, false, m)) ∧ m ≤ plc tops i ∧ ∀ p, Rea tops rs S (i, false, p) → m ≤ p := by
      intro n
      induction n with
      | zero => exact fun h => ⟨_, .inl rfl, Int.le_refl _, fun p hp => by have := h p hp; omega⟩
      | succ n ih =>
        intro h
        by_cases c : Rea tops rs S (i, false, plc tops i - ((n + 1 : Nat) : Int))
        · exact ⟨_, .inr c, by omega, h⟩
        · refine ih fun p hp => ?_
          have := h p hp
          rcases Int.lt_or_eq_of_le this with l | e
          · omega
          · rw [← e] at hp
            exact absurd hp c
    refine main (plc tops i).toNat fun p hp => ?_
    have := (hp.ok rok hS).bd
    have h2 : 0 ≤ p := this.1
    have := pl i hi
    omega
  let lo : Nat → Int := fun i => if h : i < tops.length then (up i h).choose else 0
  let hi : Nat → Int := fun i => if h : i < tops.length then (dn i h).choose else 0
  have rg : ∀ (f : Nat → Int) (i : Nat), i < tops.length → plc ((List.range tops.length).map f) i = f i := fun f i h => by
    show ((List.range tops.length).map f).getD i 0 = _
    rw [List.getD_eq_getElem?_getD, List.getElem?_map, List.getElem?_range h]
    rfl
  have elo : ∀ i (h : i < tops.length), lo i = (up i h).choose := fun i h => dif_pos h
  have ehi : ∀ i (h : i < tops.length), hi i = (dn i h).choose := fun i h => dif_pos h
  refine ⟨(List.range tops.length).map lo, (List.range tops.length).map hi, by simp, by simp, fun i h => ?_, fun i h => ?_, fun i p h => ?_, fun i p h => ?_, fun i h => ?_, fun i h => ?_⟩
  · rw [rg lo i h, elo i h]
    exact (up i h).choose_spec.1
  · rw [rg hi i h, ehi i h]
    exact (dn i h).choose_spec.1
  · have li : i < tops.length := (h.ok rok hS).lt
    rw [rg lo i li, elo i li]
    exact (up i li).choose_spec.2.2 p h
  · have li : i < tops.length := (h.ok rok hS).lt
    rw [rg hi i li, ehi i li]
    exact (dn i li).choose_spec.2.2 p h
  · rw [rg lo i h, elo i h]
    exact (up i h).choose_spec.2.1
  · rw [rg hi i h, ehi i h]
    exact (dn i h).choose_spec.2.1
/-- two sides to a rule: a side that leads to nothing that bars it is in at some good standing, where some is good -/
theorem some_good (rok : ∀ q ∈ rs, RuleOk tops q) (pl : ∀ i, i < tops.length → 0 ≤ plc tops i) {st : List Int} (hg : st ∈ goods tops rs) {w : Sd} (ok : SideOk tops w) : (∃ g ∈ goods tops rs, inB g w = true) ∨ ∃ z, Rea tops rs (· = w) z ∧ barsB tops z w = true := by
  have hS : ∀ s, s = w → SideOk tops s := fun s e => e ▸ ok
  obtain ⟨lows, highs, F⟩ := fol_ex rok pl hS
  by_cases c : ∀ i, i < tops.length → plc lows i ≤ plc highs i
  · obtain ⟨g, h⟩ := F.good rok hS c hg
    exact .inl ⟨_, g, h w (.base rfl)⟩
  · obtain ⟨i, h⟩ := Classical.not_forall.mp c
    obtain ⟨hi, h⟩ := Classical.not_imp.mp h
    have p0 := pl i hi
    have a : Rea tops rs (· = w) (i, true, plc lows i) := (F.l0 i hi).resolve_left fun e => by
      rcases F.h0 i hi with h' | h'
      · omega
      · have := (h'.ok rok hS).bd
        have h2 : 0 ≤ plc highs i := this.1
        omega
    have b : Rea tops rs (· = w) (i, false, plc highs i) := (F.h0 i hi).resolve_left fun e => by
      have := (a.ok rok hS).bd
      have h2 : plc lows i ≤ plc tops i := this.2
      omega
    obtain ⟨z, hz, bz⟩ := b.turn (a := (i, true, plc lows i)) (by
      rw [bars_iff]
      refine ⟨rfl, .inr ?_⟩
      show plc highs i < plc lows i
      omega)
    exact .inr ⟨z, a.trans hz, bz⟩
/-- the sides of rules that their other ones lead to -/
def RuleSd (rs : List Rl) (s : Sd) : Prop := ∃ q ∈ rs, s = q.1 ∨ s = q.2
def Tn (tops : List Int) (rs : List Rl) (s : Sd) : Prop := ∃ o, othS tops s = some o ∧ ∃ z, Rea tops rs (· = o) z ∧ withinB tops z s = true
def Frc (tops : List Int) (rs : List Rl) (s : Sd) : Prop := RuleSd rs s ∧ Tn tops rs s
theorem oth_cases {s o : Sd} (h : othS tops s = some o) : (s.2.1 = true ∧ 0 < s.2.2 ∧ o = (s.1, false, s.2.2 - 1)) ∨ (s.2.1 = false ∧ s.2.2 < plc tops s.1 ∧ o = (s.1, true, s.2.2 + 1)) := by
  obtain ⟨i, c, p⟩ := s
  cases c with
  | false =>
    change (if (0 : Int) < 0 then _ else if p < plc tops i then some (i, true, p + 1) else none) = some o at h
    rw [if_neg (by decide)] at h
    split at h
    · rename_i c
      cases h
      exact .inr ⟨rfl, c, rfl⟩
    · cases h
  | true =>
    change (if 0 < p then some (i, false, p - 1) else if plc tops i < plc tops i then _ else none) = some o at h
    split at h
    · rename_i c
      cases h
      exact .inl ⟨rfl, c, rfl⟩
    · rw [if_neg (Int.lt_irrefl _)] at h
      cases h
theorem oth_from {i : Nat} {p : Int} (h : 0 < p) : othS tops (i, true, p) = some (i, false, p - 1) := by
  show (if 0 < p then some (i, false, p - 1) else _) = _
  rw [if_pos h]
theorem oth_to {i : Nat} {p : Int} (h : p < plc tops i) : othS tops (i, false, p) = some (i, true, p + 1) := by
  show (if (0 : Int) < 0 then _ else if p < plc tops i then some (i, true, p + 1) else none) = _
  rw [if_neg (by decide), if_pos h]
theorem oth_ok {s o : Sd} (ok : SideOk tops s) (h : othS tops s = some o) : SideOk tops o := by
  have lt := ok.lt
  have b := ok.bd
  rcases oth_cases h with ⟨_, c, rfl⟩ | ⟨_, c, rfl⟩
  · exact SideOk.mk' lt (by omega) (by omega)
  · exact SideOk.mk' lt (by omega) (by omega)
theorem oth_in {st : List Int} (hg : st ∈ goods tops rs) {s o : Sd} (ok : SideOk tops s) (h : othS tops s = some o) : inB st o = !inB st s := by
  have lt := ok.lt
  have l := (goods_mem.mp hg).1.1
  rw [Bool.eq_iff_iff, Bool.not_eq_true', ← Bool.not_eq_true]
  obtain ⟨i, c, p⟩ := s
  have li : i < st.length := by
    have : i < tops.length := lt
    omega
  rcases oth_cases h with ⟨e, _, rfl⟩ | ⟨e, _, rfl⟩
  · cases (show c = true from e)
    rw [inFr li]
    exact (inTo (p := p - 1) li).trans ⟨fun h => by omega, fun h => by omega⟩
  · cases (show c = false from e)
    rw [inTo li]
    exact (inFr (p := p + 1) li).trans ⟨fun h => by omega, fun h => by omega⟩
theorem Tn.in' (rok : ∀ q ∈ rs, RuleOk tops q) {st : List Int} (hg : st ∈ goods tops rs) {s : Sd} (ok : SideOk tops s) (h : Tn tops rs s) : inB st s = true := by
  obtain ⟨o, eo, z, hz, wi⟩ := h
  have oo := oth_ok ok eo
  cases e : inB st s with
  | true => rfl
  | false =>
    have io : inB st o = true := by rw [oth_in hg ok eo, e]; rfl
    have iz := hz.in' rok (fun s (h : s = o) => h ▸ oo) hg (fun s (h : s = o) => h ▸ io)
    have oz := hz.ok rok (fun s (h : s = o) => h ▸ oo)
    rw [in_span hg oz] at iz
    rw [within_iff] at wi
    have : inB st s = true := (in_span hg ok).mpr (by
      obtain ⟨w1, w2, w3⟩ := wi
      rw [w1] at iz
      omega)
    rw [e] at this
    cases this
theorem frc_ok (rok : ∀ q ∈ rs, RuleOk tops q) {s : Sd} (h : Frc tops rs s) : SideOk tops s := by
  obtain ⟨⟨q, hq, rfl | rfl⟩, _⟩ := h
  · exact (rok q hq).1
  · exact (rok q hq).2
theorem reach_rule {w z : Sd} (h : Rea tops rs (· = w) z) (ne : z ≠ w) : RuleSd rs z := by
  cases h with
  | base e => exact absurd e ne
  | step _ l =>
    obtain ⟨q, hq, ⟨_, rfl⟩ | ⟨_, rfl⟩⟩ := led_iff.mp l
    · exact ⟨q, hq, .inr rfl⟩
    · exact ⟨q, hq, .inl rfl⟩
/-- the bounds that follow of what is forced are taken by good standings -/
theorem least_ex (rok : ∀ q ∈ rs, RuleOk tops q) (pl : ∀ i, i < tops.length → 0 ≤ plc tops i) {st : List Int} (hg : st ∈ goods tops rs) {lows highs : List Int} (F : Fol tops rs (Frc tops rs) lows highs) {i : Nat} (li : i < tops.length) : ∃ g ∈ goods tops rs, plc g i = plc lows i := by
  have hS : ∀ s, Frc tops rs s → SideOk tops s := fun s h => frc_ok rok h
  have hin : ∀ g ∈ goods tops rs, ∀ s, Frc tops rs s → inB g s = true := fun g hg s h => h.2.in' rok hg (hS s h)
  have l0 := F.lz i li
  have lt : plc lows i ≤ plc tops i := by
    have := F.cross rok hS hg (hin st hg) i li
    have := F.hz i li
    omega
  have okw : SideOk tops (i, false, plc lows i) := SideOk.mk' li l0 lt
  rcases some_good rok pl hg okw with ⟨g, hg', ig⟩ | ⟨z, hz, bz⟩
  · refine ⟨g, hg', ?_⟩
    have := (in_span hg' okw).mp ig
    have h2 : plc g i ≤ plc lows i := this.2
    have := (F.sound rok hS hg' (hin g hg') li).1
    omega
  · exfalso
    have oz := hz.ok rok (fun s (h : s = _) => h ▸ okw)
    have bd := oz.bd
    rw [bars_iff] at bz
    obtain ⟨e1, e2⟩ := bz
    obtain ⟨k, c, q⟩ := z
    simp only at e1 bd
    subst e1
    cases c with
    | false =>
      have e2' : q < 0 ∨ plc lows k < 0 := e2
      omega
    | true =>
      have e2' : plc tops k < 0 ∨ plc lows k < q := e2
      have hq : plc lows k < q := by omega
      have ne : ((k, true, q) : Sd) ≠ (k, false, plc lows k) := fun e => by cases e
      rcases hz.first with e | ⟨r, hr, f, x, ef, bf, rx⟩
      · exact ne e
      · have of' : SideOk tops f := by
          rcases ef with ⟨rfl, _⟩ | ⟨rfl, _⟩
          · exact (rok r hr).1
          · exact (rok r hr).2
        have rf : RuleSd rs f := by
          rcases ef with ⟨rfl, _⟩ | ⟨rfl, _⟩
          · exact ⟨r, hr, .inl rfl⟩
          · exact ⟨r, hr, .inr rfl⟩
        have bf' := of'.bd
        rw [bars_iff] at bf
        obtain ⟨e1, e2⟩ := bf
        obtain ⟨k', c, p⟩ := f
        simp only at e1 bf'
        subst e1
        cases c with
        | false =>
          have e2' : plc lows k < 0 ∨ p < 0 := e2
          omega
        | true =>
          have e2' : plc lows k < p ∨ plc tops k < 0 := e2
          have hp : plc lows k < p := by omega
          have led : ∀ m : Int, m < p → x ∈ ledL tops rs (k, false, m) := fun m hm => by
            have bb : barsB tops (k, false, m) (k, true, p) = true := by
              rw [bars_iff]
              exact ⟨rfl, .inl hm⟩
            rcases ef with ⟨e, rfl⟩ | ⟨e, rfl⟩
            · exact led_iff.mpr ⟨r, hr, .inl ⟨by rw [e]; exact bb, rfl⟩⟩
            · exact led_iff.mpr ⟨r, hr, .inr ⟨by rw [e]; exact bb, rfl⟩⟩
          by_cases c : p ≤ q
          · have : Frc tops rs (k, true, p) := by
              refine ⟨rf, (k, false, p - 1), oth_from (by omega), (k, true, q), (Rea.step (Rea.refl _) (led (p - 1) (by omega))).trans rx, ?_⟩
              rw [within_iff]
              exact ⟨rfl, c, Int.le_refl _⟩
            have := F.l1 k p (.base this)
            omega
          · have : Frc tops rs (k, true, q) := by
              refine ⟨reach_rule hz ne, (k, false, q - 1), oth_from (by omega), (k, true, q), (Rea.step (Rea.refl _) (led (q - 1) (by omega))).trans rx, ?_⟩
              rw [within_iff]
              exact ⟨rfl, Int.le_refl _, Int.le_refl _⟩
            have := F.l1 k q (.base this)
            omega
theorem most_ex (rok : ∀ q ∈ rs, RuleOk tops q) (pl : ∀ i, i < tops.length → 0 ≤ plc tops i) {st : List Int} (hg : st ∈ goods tops rs) {lows highs : List Int} (F : Fol tops rs (Frc tops rs) lows highs) {i : Nat} (li : i < tops.length) : ∃ g ∈ goods tops rs, plc g i = plc highs i := by
  have hS : ∀ s, Frc tops rs s → SideOk tops s := fun s h => frc_ok rok h
  have hin : ∀ g ∈ goods tops rs, ∀ s, Frc tops rs s → inB g s = true := fun g hg s h => h.2.in' rok hg (hS s h)
  have l0 := F.hz i li
  have lt : 0 ≤ plc highs i := by
    have := F.cross rok hS hg (hin st hg) i li
    have := F.lz i li
    omega
  have okw : SideOk tops (i, true, plc highs i) := SideOk.mk' li lt l0
  rcases some_good rok pl hg okw with ⟨g, hg', ig⟩ | ⟨z, hz, bz⟩
  · refine ⟨g, hg', ?_⟩
    have := (in_span hg' okw).mp ig
    have h2 : plc highs i ≤ plc g i := this.1
    have := (F.sound rok hS hg' (hin g hg') li).2
    omega
  · exfalso
    have oz := hz.ok rok (fun s (h : s = _) => h ▸ okw)
    have bd := oz.bd
    rw [bars_iff] at bz
    obtain ⟨e1, e2⟩ := bz
    obtain ⟨k, c, q⟩ := z
    simp only at e1 bd
    subst e1
    cases c with
    | true =>
      have e2' : plc tops k < plc highs k ∨ plc tops k < q := e2
      omega
    | false =>
      have e2' : q < plc highs k ∨ plc tops k < 0 := e2
      have hq : q < plc highs k := by omega
      have ne : ((k, false, q) : Sd) ≠ (k, true, plc highs k) := fun e => by cases e
      rcases hz.first with e | ⟨r, hr, f, x, ef, bf, rx⟩
      · exact ne e
      · have of' : SideOk tops f := by
          rcases ef with ⟨rfl, _⟩ | ⟨rfl, _⟩
          · exact (rok r hr).1
          · exact (rok r hr).2
        have rf : RuleSd rs f := by
          rcases ef with ⟨rfl, _⟩ | ⟨rfl, _⟩
          · exact ⟨r, hr, .inl rfl⟩
          · exact ⟨r, hr, .inr rfl⟩
        have bf' := of'.bd
        rw [bars_iff] at bf
        obtain ⟨e1, e2⟩ := bf
        obtain ⟨k', c, p⟩ := f
        simp only at e1 bf'
        subst e1
        cases c with
        | true =>
          have e2' : plc tops k < p ∨ plc tops k < plc highs k := e2
          omega
        | false =>
          have e2' : plc tops k < 0 ∨ p < plc highs k := e2
          have hp : p < plc highs k := by omega
          have led : ∀ m : Int, p < m → x ∈ ledL tops rs (k, true, m) := fun m hm => by
            have bb : barsB tops (k, true, m) (k, false, p) = true := by
              rw [bars_iff]
              exact ⟨rfl, .inr hm⟩
            rcases ef with ⟨e, rfl⟩ | ⟨e, rfl⟩
            · exact led_iff.mpr ⟨r, hr, .inl ⟨by rw [e]; exact bb, rfl⟩⟩
            · exact led_iff.mpr ⟨r, hr, .inr ⟨by rw [e]; exact bb, rfl⟩⟩
          have oth : ∀ m : Int, m < plc highs k → othS tops (k, false, m) = some (k, true, m + 1) := fun m hm => oth_to (by omega)
          by_cases c : q ≤ p
          · have : Frc tops rs (k, false, p) := by
              refine ⟨rf, (k, true, p + 1), oth p hp, (k, false, q), (Rea.step (Rea.refl _) (led (p + 1) (by omega))).trans rx, ?_⟩
              rw [within_iff]
              exact ⟨rfl, Int.le_refl _, c⟩
            have := F.h1 k p (.base this)
            omega
          · have : Frc tops rs (k, false, q) := by
              refine ⟨reach_rule hz ne, (k, true, q + 1), oth q hq, (k, false, q), (Rea.step (Rea.refl _) (led (q + 1) (by omega))).trans rx, ?_⟩
              rw [within_iff]
              exact ⟨rfl, Int.le_refl _, Int.le_refl _⟩
            have := F.h1 k q (.base this)
            omega
end
end K19

set_option Elab.async false
set_option linter.all false
set_option maxRecDepth 100000
namespace K19
open PySem PySem.Spec PyProof.Rows L2 NB
theorem tand_join {c x : Bool} {tb : TE} {σ : L2.St} {H : Hp} {K : VK} (hb : ∀ Q : VK, Q (.bl x) H → tb σ H Q) (q : K (.bl (c && x)) H) : if c = true then tb σ H K else K (.bl false) H := by
  cases c with
  | true => exact hb K q
  | false => exact q
theorem tif_join {c : Bool} {v : V} {ta tb : TE} {σ : L2.St} {H : Hp} {K : VK} (ha : c = true → ∀ Q : VK, Q v H → ta σ H Q) (hb : ¬ c = true → ∀ Q : VK, Q v H → tb σ H Q) (q : K v H) : if c = true then ta σ H K else tb σ H K := by
  cases c with
  | true => exact ha rfl K q
  | false => exact hb (by simp) K q
theorem tand_joinT {c x : Bool} {u : TT} {σ : L2.St} {H : Hp} {Q : Bool → Hp → Prop} (hu : ∀ Q : Bool → Hp → Prop, Q x H → u σ H Q) (q : Q (c && x) H) : if c = true then u σ H Q else Q false H := by
  cases c with
  | true => exact hu Q q
  | false => exact q
theorem tor_join {c x : Bool} {u : TT} {σ : L2.St} {H : Hp} {Q : Bool → Hp → Prop} (hu : ∀ Q : Bool → Hp → Prop, Q x H → u σ H Q) (q : Q (c || x) H) : if c = true then Q true H else u σ H Q := by
  cases c with
  | true => exact q
  | false => exact hu Q q

/-! ### sides: spans, the other one, what bars and what is within -/
theorem iteTr {c : Bool} {A B : Prop} (e : c = true) (h : A) : if c = true then A else B := by rw [e]; exact h
theorem iteFa {c : Bool} {A B : Prop} (e : c = false) (h : B) : if c = true then A else B := by rw [e]; exact h
theorem Room.u1 {k : Nat} {A : Around} (r : Room k A) : A.units + 1 < cLine := by
  have := r.un
  omega
theorem plc_at {xs : List Int} {i : Nat} (h : i < xs.length) : atI (xs.map V.int) (i : Int) = some (.int (plc xs i)) := by
  rw [plc_get h]
  exact at_int h
/-- None, or a side -/
def OthAt (H : Hp) (v : V) : Option Sd → Prop
  | none => v = .non
  | some s => ∃ g, v = .ref g ∧ SideAt H g s
theorem OthAt.keep {H H' : Hp} {v : V} {o : Option Sd} (h : OthAt H v o) (k : Keep H H') : OthAt H' v o := by
  cases o with
  | none => exact h
  | some s =>
    obtain ⟨g, e, hs⟩ := h
    exact ⟨g, e, hs.keep k⟩
abbrev sdR (L : List (Addr × Sd)) : List V := L.map fun z => V.ref z.1
def SdsAt (H : Hp) (L : List (Addr × Sd)) : Prop := ∀ z ∈ L, SideAt H z.1 z.2
theorem SdsAt.keep {H H' : Hp} {L : List (Addr × Sd)} (h : SdsAt H L) (k : Keep H H') : SdsAt H' L := fun z hz => (h z hz).keep k
theorem SdsAt.snoc {H : Hp} {L : List (Addr × Sd)} {z : Addr × Sd} (h : SdsAt H L) (hz : SideAt H z.1 z.2) : SdsAt H (L ++ [z]) := fun y hy => by
  rcases List.mem_append.mp hy with h' | h'
  · exact h y h'
  · rw [List.mem_singleton.mp h']
    exact hz
section
variable {P : Program} {w : World} {K : PySem.W.Frag} {mg : Str → Option Value} {base : Heap}
def spSpan (C : Addr) : Sp := fun vs H Q _ => ∃ (x p : Addr) (tops : List Int) (rs : List Rl) (sd : Sd), vs = [.ref x, .ref p] ∧ PlanAt C H x tops rs ∧ SideAt H p sd ∧ SideOk tops sd ∧
  ∀ H' g, Same H H' → H' g = some (.tup [.int (loS sd), .int (hiS tops sd)]) → Q (.ref g) H'
abbrev a_span : Stmt := topS 17
abbrev n_span : List Str := ["plan", "side", "thing", "word", "place"]
theorem sc_span : FnScope n_span ["plan", "side"] (defScope a_span) := ⟨rfl, rfl, rfl, by decide +kernel, rfl, by decide +kernel, by decide +kernel⟩
set_option maxHeartbeats 8000000 in
theorem ok_span {f  : Addr} {fd  : FuncData} {k : Nat} {C : Addr} (F : Fun K "span" "span" a_span f fd)  (T : PlanTxt K mg C)  : FnOk P w K mg base CX0 (k + 1) f fd ["plan", "side"] (spSpan C) := by
  refine F.ok sc_span (fun vs H Q E h => ?_) (fun cdv A outer s H vs Q E hr h => ?_)
  · obtain ⟨x, p, tops, rs, sd, rfl, _⟩ := h
    rfl
  · obtain ⟨x, p, tops, rs, sd, rfl, ⟨dx, t, R, ex, et, hR⟩, hs, ok, q⟩ := h
    refine ⟨_, (pss_cons (ps_asg (pv 1) (pg_tup rfl (pgs_cons (pg_name (i := 2) sc_span.nd rfl (.inl rfl)) (pgs_cons (pg_name (i := 3) sc_span.nd rfl (.inl rfl)) (pgs_cons (pg_name (i := 4) sc_span.nd rfl (.inl rfl)) pgs_nil)))))
      (pss_cons (ps_if (pt_cmpR op_eq (pv 3) pe_str (nomark _)) (pss_one (ps_ret (pe_tup (pa_cons (pv 4) (pa_cons (pe_ix ix_tup (pe_fld (pv 0) rfl) (pv 2) (fun _ _ => rfl)) pa_nil))))) pss_nil)
      (pss_one (ps_ret (pe_tup (pa_cons pe_int (pa_cons (pv 4) pa_nil))))))), ?_⟩
    have z2 : (2 : Nat) ≤ sizeLine := by decide
    have at1 := plc_at ok.lt
    refine ⟨.ref p, rfl, p, _, rfl, .inl (.inl hs), rfl, _, _, rfl, _, _, rfl, _, _, rfl, rfl, _, rfl, rfl, _, rfl, ?_⟩
    obtain ⟨i, b, m⟩ := sd
    cases b with
    | true =>
      refine iteTr w_from ⟨_, rfl, .ref x, rfl, x, C, dx, _, _, rfl, ex, T.cl, T.nT, look_tops _ _, _, rfl, t, _, i, _, rfl, rfl, .inl (.inl et), at1, z2, fun g ng => q _ g (same_new ng) ?_⟩
      rw [upd_same]
      rfl
    | false =>
      refine iteFa w_to ⟨_, rfl, z2, fun g ng => q _ g (same_new ng) ?_⟩
      rw [upd_same]
      rfl
def spOth (C : Addr) : Sp := fun vs H Q _ => ∃ (x p : Addr) (tops : List Int) (rs : List Rl) (sd : Sd), vs = [.ref x, .ref p] ∧ PlanAt C H x tops rs ∧ SideAt H p sd ∧ SideOk tops sd ∧
  ∀ H' v, Same H H' → OthAt H' v (othS tops sd) → Q v H'
abbrev a_other_side : Stmt := topS 18
abbrev n_other_side : List Str := ["plan", "side", "thing", "low", "high"]
theorem sc_other_side : FnScope n_other_side ["plan", "side"] (defScope a_other_side) := ⟨rfl, rfl, rfl, by decide +kernel, rfl, by decide +kernel, by decide +kernel⟩
set_option maxHeartbeats 8000000 in
theorem ok_other_side {f fSn : Addr} {fd fdSn : FuncData} {k : Nat} {C : Addr} (F : Fun K "other_side" "other_side" a_other_side f fd) (Sn : Kn P w K mg base 1 "span" ["plan", "side"] (spSpan C) fSn fdSn) (T : PlanTxt K mg C)  : FnOk P w K mg base CX0 (k + 2) f fd ["plan", "side"] (spOth C) := by
  refine F.ok sc_other_side (fun vs H Q E h => ?_) (fun cdv A outer s H vs Q E hr h => ?_)
  · obtain ⟨x, p, tops, rs, sd, rfl, _⟩ := h
    rfl
  · obtain ⟨x, p, tops, rs, sd, rfl, hp, hs, ok, q⟩ := h
    refine ⟨_, (pss_cons (ps_set (i := 2) sc_other_side.nd rfl (.inl rfl) (pe_ix ix_tup (pv 1) pe_int (fun _ _ => rfl)))
      (pss_cons (ps_asg (pe_kn Sn hr (by omega) (pa_cons (pv 0) (pa_cons (pv 1) pa_nil))) (pg_tup rfl (pgs_cons (pg_name (i := 3) sc_other_side.nd rfl (.inl rfl)) (pgs_cons (pg_name (i := 4) sc_other_side.nd rfl (.inl rfl)) pgs_nil))))
      (pss_cons (ps_if (pt_cmpR op_gt (pv 3) pe_int (nomark _)) (pss_one (ps_ret (pe_tup (pa_cons (pv 2) (pa_cons pe_str (pa_cons (pe_op op_sub (pv 3) pe_int) pa_nil)))))) pss_nil)
      (pss_cons (ps_if (pt_cmpR op_lt (pv 4) (pe_ix ix_tup (pe_fld (pv 0) rfl) (pv 2) (fun _ _ => rfl)) (nomark _)) (pss_one (ps_ret (pe_tup (pa_cons (pv 2) (pa_cons pe_str (pa_cons (pe_op op_add (pv 4) pe_int) pa_nil)))))) pss_nil)
      (pss_one (ps_ret pe_non)))))), ?_⟩
    have z3 : (3 : Nat) ≤ sizeLine := by decide
    have at1 := plc_at ok.lt
    refine ⟨.ref p, rfl, p, _, 0, _, rfl, rfl, .inl (.inl hs), rfl, .ref x, rfl, .ref p, rfl, x, p, tops, rs, sd, rfl, hp, hs, ok, fun H1 g s1 eg => ?_⟩
    obtain ⟨dx, t, R, ex, et, hR⟩ := hp.keep (.same s1)
    refine ⟨g, _, rfl, .inl (.inl eg), rfl, _, _, rfl, _, _, rfl, rfl, _, rfl, _, _, rfl, rfl, _, rfl, ite2 (fun c => ?_) (fun c => ?_)⟩
    · have c' := of_decide_eq_true c
      refine ⟨_, rfl, _, rfl, _, 1, rfl, rfl, z3, fun g' ng => q _ _ (s1.trans (same_new ng)) ?_⟩
      have e : othS tops sd = some (sd.1, false, loS sd - 1) := by
        unfold othS
        rw [if_pos c']
      rw [e]
      exact ⟨g', rfl, upd_same⟩
    · have c' : ¬ 0 < loS sd := fun z => c (decide_eq_true z)
      refine ⟨_, rfl, .ref x, rfl, x, C, dx, _, _, rfl, ex, T.cl, T.nT, look_tops _ _, _, rfl, t, _, sd.1, _, rfl, rfl, .inl (.inl et), at1, _, _, rfl, rfl, _, rfl, ite2 (fun d => ?_) (fun d => ?_)⟩
      · have d' := of_decide_eq_true d
        refine ⟨_, rfl, _, rfl, _, 1, rfl, rfl, z3, fun g' ng => q _ _ (s1.trans (same_new ng)) ?_⟩
        have e : othS tops sd = some (sd.1, true, hiS tops sd + 1) := by
          unfold othS
          rw [if_neg c', if_pos d']
        rw [e]
        exact ⟨g', rfl, upd_same⟩
      · have d' : ¬ hiS tops sd < plc tops sd.1 := fun z => d (decide_eq_true z)
        refine q _ _ s1 ?_
        have e : othS tops sd = none := by
          unfold othS
          rw [if_neg c', if_neg d']
        rw [e]
        rfl
def spTwo (C : Addr) (B : List Int → Sd → Sd → Bool) : Sp := fun vs H Q _ => ∃ (x p r : Addr) (tops : List Int) (rs : List Rl) (a b : Sd), vs = [.ref x, .ref p, .ref r] ∧ PlanAt C H x tops rs ∧ SideAt H p a ∧ SideAt H r b ∧ SideOk tops a ∧ SideOk tops b ∧
  ∀ H', Same H H' → Q (.bl (B tops a b)) H'
abbrev a_bars : Stmt := topS 19
abbrev n_bars : List Str := ["plan", "one", "other", "low", "high", "least", "most"]
theorem sc_bars : FnScope n_bars ["plan", "one", "other"] (defScope a_bars) := ⟨rfl, rfl, rfl, by decide +kernel, rfl, by decide +kernel, by decide +kernel⟩
set_option maxHeartbeats 8000000 in
theorem ok_bars {f fSn : Addr} {fd fdSn : FuncData} {k : Nat} {C : Addr} (F : Fun K "bars" "bars" a_bars f fd) (Sn : Kn P w K mg base 1 "span" ["plan", "side"] (spSpan C) fSn fdSn)   : FnOk P w K mg base CX0 (k + 2) f fd ["plan", "one", "other"] (spTwo C barsB) := by
  refine F.ok sc_bars (fun vs H Q E h => ?_) (fun cdv A outer s H vs Q E hr h => ?_)
  · obtain ⟨x, p, r, tops, rs, a, b, rfl, _⟩ := h
    rfl
  · obtain ⟨x, p, r, tops, rs, a, b, rfl, hp, hs, ht, oa, ob, q⟩ := h
    refine ⟨_, (pss_cons (ps_if (pt_cmpR op_ne (pe_ix ix_tup (pv 1) pe_int (fun _ _ => rfl)) (pe_ix ix_tup (pv 2) pe_int (fun _ _ => rfl)) (nomark _)) (pss_one (ps_ret pe_bl)) pss_nil)
      (pss_cons (ps_asg (pe_kn Sn hr (by omega) (pa_cons (pv 0) (pa_cons (pv 1) pa_nil))) (pg_tup rfl (pgs_cons (pg_name (i := 3) sc_bars.nd rfl (.inl rfl)) (pgs_cons (pg_name (i := 4) sc_bars.nd rfl (.inl rfl)) pgs_nil))))
      (pss_cons (ps_asg (pe_kn Sn hr (by omega) (pa_cons (pv 0) (pa_cons (pv 2) pa_nil))) (pg_tup rfl (pgs_cons (pg_name (i := 5) sc_bars.nd rfl (.inl rfl)) (pgs_cons (pg_name (i := 6) sc_bars.nd rfl (.inl rfl)) pgs_nil))))
      (pss_one (ps_ret (pe_or (pe_cmpR op_lt (pv 4) (pv 5) (nomark _)) (pe_one (pe_cmpR op_lt (pv 6) (pv 3) (nomark _))))))))), ?_⟩
    refine ⟨.ref p, rfl, p, _, 0, _, rfl, rfl, .inl (.inl hs), rfl, .ref r, rfl, r, _, 0, _, rfl, rfl, .inl (.inl ht), rfl, rfl, _, rfl, ite2 (fun c => ?_) (fun c => ?_)⟩
    · have ne : ¬ a.1 = b.1 := fun z => by
        rw [z] at c
        simp at c
      have e : barsB tops a b = false := by
        unfold barsB
        rw [decide_eq_false ne, Bool.false_and]
      rw [e] at q
      exact q H (Same.refl H)
    · have eq : a.1 = b.1 := by
        rw [Bool.not_eq_true, Bool.not_eq_false'] at c
        have := of_decide_eq_true c
        injection this with h
        omega
      refine ⟨.ref x, rfl, .ref p, rfl, x, p, tops, rs, a, rfl, hp, hs, oa, fun H1 g1 s1 e1 => ⟨g1, _, rfl, .inl (.inl e1), rfl, _, _, rfl, _, _, rfl, rfl, ?_⟩⟩
      refine ⟨.ref x, rfl, .ref r, rfl, x, r, tops, rs, b, rfl, hp.keep (.same s1), ht.keep (.same s1), ob, fun H2 g2 s2 e2 => ⟨g2, _, rfl, .inl (.inl e2), rfl, _, _, rfl, _, _, rfl, rfl, ?_⟩⟩
      have e : barsB tops a b = (decide (hiS tops a < loS b) || decide (hiS tops b < loS a)) := by
        unfold barsB
        rw [decide_eq_true eq, Bool.true_and]
      rw [e] at q
      refine ⟨_, rfl, _, rfl, _, _, rfl, rfl, _, rfl, ite2 (fun c => ?_) (fun c => ?_)⟩
      · rw [c, Bool.true_or] at q
        exact q H2 (s1.trans s2)
      · rw [Bool.not_eq_true] at c
        rw [c, Bool.false_or] at q
        exact ⟨_, rfl, _, rfl, _, _, rfl, rfl, q H2 (s1.trans s2)⟩
abbrev a_is_within : Stmt := topS 20
abbrev n_is_within : List Str := ["plan", "one", "other", "low", "high", "least", "most"]
theorem sc_is_within : FnScope n_is_within ["plan", "one", "other"] (defScope a_is_within) := ⟨rfl, rfl, rfl, by decide +kernel, rfl, by decide +kernel, by decide +kernel⟩
set_option maxHeartbeats 8000000 in
theorem ok_is_within {f fSn : Addr} {fd fdSn : FuncData} {k : Nat} {C : Addr} (F : Fun K "is_within" "is_within" a_is_within f fd) (Sn : Kn P w K mg base 1 "span" ["plan", "side"] (spSpan C) fSn fdSn)   : FnOk P w K mg base CX0 (k + 2) f fd ["plan", "one", "other"] (spTwo C withinB) := by
  refine F.ok sc_is_within (fun vs H Q E h => ?_) (fun cdv A outer s H vs Q E hr h => ?_)
  · obtain ⟨x, p, r, tops, rs, a, b, rfl, _⟩ := h
    rfl
  · obtain ⟨x, p, r, tops, rs, a, b, rfl, hp, hs, ht, oa, ob, q⟩ := h
    refine ⟨_, (pss_cons (ps_if (pt_cmpR op_ne (pe_ix ix_tup (pv 1) pe_int (fun _ _ => rfl)) (pe_ix ix_tup (pv 2) pe_int (fun _ _ => rfl)) (nomark _)) (pss_one (ps_ret pe_bl)) pss_nil)
      (pss_cons (ps_asg (pe_kn Sn hr (by omega) (pa_cons (pv 0) (pa_cons (pv 1) pa_nil))) (pg_tup rfl (pgs_cons (pg_name (i := 3) sc_is_within.nd rfl (.inl rfl)) (pgs_cons (pg_name (i := 4) sc_is_within.nd rfl (.inl rfl)) pgs_nil))))
      (pss_cons (ps_asg (pe_kn Sn hr (by omega) (pa_cons (pv 0) (pa_cons (pv 2) pa_nil))) (pg_tup rfl (pgs_cons (pg_name (i := 5) sc_is_within.nd rfl (.inl rfl)) (pgs_cons (pg_name (i := 6) sc_is_within.nd rfl (.inl rfl)) pgs_nil))))
      (pss_one (ps_ret (pe_and (pe_cmpR op_le (pv 5) (pv 3) (nomark _)) (pe_one (pe_cmpR op_le (pv 4) (pv 6) (nomark _))))))))), ?_⟩
    refine ⟨.ref p, rfl, p, _, 0, _, rfl, rfl, .inl (.inl hs), rfl, .ref r, rfl, r, _, 0, _, rfl, rfl, .inl (.inl ht), rfl, rfl, _, rfl, ite2 (fun c => ?_) (fun c => ?_)⟩
    · have ne : ¬ a.1 = b.1 := fun z => by
        rw [z] at c
        simp at c
      have e : withinB tops a b = false := by
        unfold withinB
        rw [decide_eq_false ne, Bool.false_and]
      rw [e] at q
      exact q H (Same.refl H)
    · have eq : a.1 = b.1 := by
        rw [Bool.not_eq_true, Bool.not_eq_false'] at c
        have := of_decide_eq_true c
        injection this with h
        omega
      refine ⟨.ref x, rfl, .ref p, rfl, x, p, tops, rs, a, rfl, hp, hs, oa, fun H1 g1 s1 e1 => ⟨g1, _, rfl, .inl (.inl e1), rfl, _, _, rfl, _, _, rfl, rfl, ?_⟩⟩
      refine ⟨.ref x, rfl, .ref r, rfl, x, r, tops, rs, b, rfl, hp.keep (.same s1), ht.keep (.same s1), ob, fun H2 g2 s2 e2 => ⟨g2, _, rfl, .inl (.inl e2), rfl, _, _, rfl, _, _, rfl, rfl, ?_⟩⟩
      have e : withinB tops a b = (decide (loS b ≤ loS a) && decide (hiS tops a ≤ hiS tops b)) := by
        unfold withinB
        rw [decide_eq_true eq, Bool.true_and]
      rw [e] at q
      refine ⟨_, rfl, _, rfl, _, _, rfl, rfl, _, rfl, ite2 (fun c => ?_) (fun c => ?_)⟩
      · rw [c, Bool.true_and] at q
        exact ⟨_, rfl, _, rfl, _, _, rfl, rfl, q H2 (s1.trans s2)⟩
      · rw [Bool.not_eq_true] at c
        rw [c, Bool.false_and] at q
        exact q H2 (s1.trans s2)
theorem led_take (tops : List Int) (sd : Sd) (rs : List Rl) (i : Nat) (q : Rl) (h : rs[i]? = some q) : ledL tops (rs.take (i + 1)) sd = ledL tops (rs.take i) sd ++ led1 tops sd q := by
  unfold ledL
  rw [List.take_add_one, h, List.flatMap_append]
  simp
theorem led_len (tops : List Int) (sd : Sd) (rs : List Rl) : (ledL tops rs sd).length ≤ 2 * rs.length := by
  unfold ledL
  induction rs with
  | nil => exact Nat.le_refl _
  | cons q rs ih =>
    rw [List.flatMap_cons, List.length_append, List.length_cons]
    have : (led1 tops sd q).length ≤ 2 := by
      unfold led1
      rw [List.length_append]
      split <;> split <;> simp
    omega
def spLed (C : Addr) : Sp := fun vs H Q _ => ∃ (x p : Addr) (tops : List Int) (rs : List Rl) (sd : Sd), vs = [.ref x, .ref p] ∧ PlanAt C H x tops rs ∧ SideAt H p sd ∧ SideOk tops sd ∧ (∀ q ∈ rs, RuleOk tops q) ∧ rs.length ≤ 40 ∧
  ∀ H' l L, Same H H' → H l = none → H' l = some (.lst (sdR L)) → SdsAt H' L → L.map (·.2) = ledL tops rs sd → Q (.ref l) H'
abbrev a_led_by_rules : Stmt := topS 21
abbrev n_led_by_rules : List Str := ["plan", "side", "found", "first", "second"]
theorem sc_led_by_rules : FnScope n_led_by_rules ["plan", "side"] (defScope a_led_by_rules) := ⟨rfl, rfl, rfl, by decide +kernel, rfl, by decide +kernel, by decide +kernel⟩
set_option maxHeartbeats 8000000 in
theorem ok_led_by_rules {f fBr : Addr} {fd fdBr : FuncData} {k : Nat} {C : Addr} (F : Fun K "led_by_rules" "led_by_rules" a_led_by_rules f fd) (Br : Kn P w K mg base 2 "bars" ["plan", "one", "other"] (spTwo C barsB) fBr fdBr) (T : PlanTxt K mg C)  : FnOk P w K mg base CX0 (k + 3) f fd ["plan", "side"] (spLed C) := by
  refine F.ok sc_led_by_rules (fun vs H Q E h => ?_) (fun cdv A outer s H vs Q E hr h => ?_)
  · obtain ⟨x, p, tops, rs, sd, rfl, _⟩ := h
    rfl
  · obtain ⟨x, p, tops, rs, sd, rfl, hp, hs, ok, rok, l40, q⟩ := h
    refine ⟨_, (pss_cons (ps_set (i := 2) sc_led_by_rules.nd rfl (.inl rfl) (pe_lst pa_nil))
      (pss_cons (ps_for PassesOwn.never rfl (pi_tup (pe_fld (pv 0) rfl)) (pg_tup rfl (pgs_cons (pg_name (i := 3) sc_led_by_rules.nd rfl (.inl rfl)) (pgs_cons (pg_name (i := 4) sc_led_by_rules.nd rfl (.inl rfl)) pgs_nil)))
        (C8.pss_cut (ps_if (pt_val (pe_kn Br hr (by omega) (pa_cons (pv 0) (pa_cons (pv 1) (pa_cons (pv 3) pa_nil))))) (pss_one (ps_expr (pe_bm PySem.F.plainAttrs_list PySem.F.slot_list_append PySem.F.type_list_append mt_append (pv 2) (pa_cons (pv 4) pa_nil)))) pss_nil)
      (pss_one (ps_if (pt_val (pe_kn Br hr (by omega) (pa_cons (pv 0) (pa_cons (pv 1) (pa_cons (pv 4) pa_nil))))) (pss_one (ps_expr (pe_bm PySem.F.plainAttrs_list PySem.F.slot_list_append PySem.F.type_list_append mt_append (pv 2) (pa_cons (pv 3) pa_nil)))) pss_nil))))
      (pss_one (ps_ret (pv 2))))), ?_⟩
    have hp' := hp
    obtain ⟨dx, t, R, ex, et, as, eR, la, ha⟩ := hp'
    refine ⟨Nat.zero_le _, fun l nl => ?_⟩
    have s0 : Same H (upd H l (.lst [])) := same_new nl
    refine ⟨.ref x, rfl, x, C, dx, _, _, rfl, s0 _ _ ex, T.cl, T.nR, look_rules _ _, R, rfl, ⟨_, .inl (.inl (s0 _ _ eR))⟩, for_it (walk_tup (xs := as.map V.ref)) (fun i σ H' => (∃ u3 u4, σ = [some (.ref x), some (.ref p), some (.ref l), u3, u4]) ∧ Same H H' ∧ ∃ L, H' l = some (.lst (sdR L)) ∧ SdsAt H' L ∧ L.map (·.2) = ledL tops (rs.take i) sd)
      ⟨⟨none, none, rfl⟩, s0, [], upd_same, (fun _ h => absurd h List.not_mem_nil), rfl⟩ (fun i σ H' _ y => .inl (.inl (y.2.1 _ _ eR))) (fun i v σ H1 H2 hi y z => ?_) (fun σ H1 y => ?_)⟩
    · obtain ⟨⟨u3, u4, rfl⟩, s1, L, el, hL, eL⟩ := y
      obtain ⟨rfl, gv⟩ := z
      obtain ⟨r, er, rfl⟩ := mapGet gv
      have hi' : i < as.length := by simpa using hi
      have eq : rs[i]? = some rs[i] := List.getElem?_eq_getElem (by omega)
      have okq := rok _ (List.getElem_mem (show i < rs.length by omega))
      obtain ⟨p1, p2, eR1, h1, h2⟩ := (ha i r _ er eq).keep (.same s1)
      have lL : L.length ≤ 80 := by
        have := congrArg List.length eL
        rw [List.length_map] at this
        have h := led_len tops sd (rs.take i)
        rw [List.length_take] at h
        omega
      refine ⟨r, _, rfl, .inl (.inl eR1), rfl, _, _, rfl, _, _, rfl, rfl, ?_⟩
      refine ⟨fun σ H' => σ = [some (.ref x), some (.ref p), some (.ref l), some (.ref p1), some (.ref p2)] ∧ Same H H' ∧ Keep H2 H' ∧ ∃ L', H' l = some (.lst (sdR L')) ∧ SdsAt H' L' ∧ L'.map (·.2) = ledL tops (rs.take i) sd ++ (if barsB tops sd rs[i].1 then [rs[i].2] else []), ?_, fun σ H' y => ?_⟩
      · refine ⟨.ref x, rfl, .ref p, rfl, .ref p1, rfl, x, p, p1, tops, rs, sd, _, rfl, hp.keep (.same s1), hs.keep (.same s1), h1, ok, okq.1, fun H3 s3 => ⟨_, rfl, ite2 (fun c => ?_) (fun c => ?_)⟩⟩
        · have el3 := s3 _ _ el
          refine ⟨.ref l, rfl, .inl ⟨rfl, _, .inl (.inl el3)⟩, .ref p2, rfl, l, _, _, rfl, rfl, el3, by rw [List.length_map]; exact small1000 (by omega), rfl, same_over (s1.trans s3) nl, (Keep.same s3).trans (Keep.upd el3), L ++ [(p2, rs[i].2)], by rw [upd_same]; simp [sdR], ((hL.keep (.same s3)).keep (Keep.upd el3)).snoc ((h2.keep (.same s3)).keep (Keep.upd el3)), ?_⟩
          rw [List.map_append, eL, if_pos c]
          rfl
        · refine ⟨rfl, s1.trans s3, Keep.same s3, L, s3 _ _ el, hL.keep (.same s3), ?_⟩
          rw [if_neg c, List.append_nil]
          exact eL
      · obtain ⟨rfl, s3, k3, L', el', hL', eL'⟩ := y
        have lL' : L'.length ≤ 81 := by
          have := congrArg List.length eL'
          rw [List.length_map, List.length_append, ← eL, List.length_map] at this
          have : (if barsB tops sd rs[i].1 then [rs[i].2] else []).length ≤ 1 := by split <;> simp
          omega
        have tk : ledL tops (rs.take (i + 1)) sd = (ledL tops (rs.take i) sd ++ (if barsB tops sd rs[i].1 then [rs[i].2] else [])) ++ (if barsB tops sd rs[i].2 then [rs[i].1] else []) := by
          rw [led_take tops sd rs i _ eq, List.append_assoc]
          rfl
        refine ⟨.ref x, rfl, .ref p, rfl, .ref p2, rfl, x, p, p2, tops, rs, sd, _, rfl, hp.keep (.same s3), hs.keep (.same s3), h2.keep k3, ok, okq.2, fun H4 s4 => ⟨_, rfl, ite2 (fun c => ?_) (fun c => ?_)⟩⟩
        · have el4 := s4 _ _ el'
          refine ⟨.ref l, rfl, .inl ⟨rfl, _, .inl (.inl el4)⟩, .ref p1, rfl, l, _, _, rfl, rfl, el4, by rw [List.length_map]; exact small1000 (by omega), ⟨_, _, rfl⟩, same_over (s3.trans s4) nl, L' ++ [(p1, rs[i].1)], by rw [upd_same]; simp [sdR], ((hL'.keep (.same s4)).keep (Keep.upd el4)).snoc (((h1.keep k3).keep (.same s4)).keep (Keep.upd el4)), ?_⟩
          rw [List.map_append, eL', tk, if_pos c]
          rfl
        · refine ⟨⟨_, _, rfl⟩, s3.trans s4, L', s4 _ _ el', hL'.keep (.same s4), ?_⟩
          rw [tk, eL', if_neg c, List.append_nil]
    · obtain ⟨⟨u3, u4, rfl⟩, s1, L, el, hL, eL⟩ := y
      rw [List.length_map, la, List.take_length] at eL
      exact ⟨_, rfl, q H1 l L s1 nl el hL eL⟩
end
end K19

set_option Elab.async false
set_option linter.all false
set_option maxRecDepth 100000
set_option maxHeartbeats 1000000
/-! Dict comprehensions whose keys are tuples: one clause, and two. -/
namespace NB
open PySem PySem.Spec PyProof.Rows L2

section
variable {X : Cx} {pins : List (Addr × Obj)} {σ : L2.St} {H : Hp} {s : Shared}
theorem put_tup {D b : Addr} {kvs : List (List Key × V)} {k : List Key} {v : V} {r : Value} {Q : Unit → Shared → Prop} {E : Value → Shared → Prop} (hu : X.A.units + 1 < cLine) (I : Inv X pins σ H s) (hD : H D = some (.dT kvs)) (eb : H b = some (.tup (k.map kV))) (hz : kvs.length < sizeLine) (rv : RelV v r)
    (h : ∀ s', Inv X pins σ (upd H D (.dT (putK kvs k v))) s' → Q () s') : wpAny (model X.prog X.w) X.A (dictSet D (.ref b) r) Q E s := by
  obtain ⟨zl, zd, es, rel, dd⟩ := dt_of I.hok hD
  have l1 : es.length ≤ sizeLine := by rw [← Paired.length rel]; exact zl
  have l2 : (putK kvs k v).length ≤ sizeLine := by
    have := length_putK kvs k v
    omega
  refine wpAny_dictSet_heap (show (tupleKind _).room X.A from Nat.lt_of_succ_lt hu) (key_of I.hok eb) dd (fun g dg sb => h _ ?_) l1
  obtain ⟨q, fs, ep, e1, e2, e3, e4, _, e5⟩ := dg
  refine d_write I (by rw [hD]; trivial) sb ⟨q, e1⟩ ⟨l2, zd, _, (rel.put k eb rv).keeps fun c ys ec => ?_, q, fs, ep, e1, e2, e3, e4, e5⟩
  rw [upd_ne (ne_of ec hD (fun z => by cases z))]
  exact ec
end

/-- where a walk stands, within a block -/
def Lp (Y : Cx) (pp : List (Addr × Obj)) (σ0 : L2.St) (fp : List Addr) (tn : Nat → Heap → Prop) (W : Nat → Nat → Hp → Prop) (n : Nat) (s : Shared) : Prop :=
  ∃ i H, Inv Y pp σ0 H s ∧ tn i s.heap ∧ (∀ b ∈ fp, H b = none) ∧ W i n H
/-- what a walk asks at each place: its end, or a turn that leads on -/
def Stp (J : It) (W : Nat → Nat → Hp → Prop) (Ed : Hp → Prop) (B : V → Hp → (Hp → Prop) → Prop) : Prop :=
  ∀ i m H, W i m H → (J.stop i H ∧ Ed H) ∨ (J.go i H ∧ ∃ Nx : Hp → Prop, (∀ H', Nx H' → ∃ m', m' < m ∧ W (i + 1) m' H') ∧ ∀ x H', J.yld i H x H' → B x H' Nx)
theorem Lp.turn {Y : Cx} {pp : List (Addr × Obj)} {σ0 : L2.St} {tg : Expr} {J : It} {fp : List Addr} {it : Addr} {tn : Nat → Heap → Prop} {W : Nat → Nat → Hp → Prop} {Ed : Hp → Prop} {B : V → Hp → (Hp → Prop) → Prop} {n : Nat} {s : Shared} {E : Value → Shared → Prop}
    (T : Turn Y.prog Y.w Y.K tg J fp it tn) (hc : Y.calm = true) (hf : ∀ (H' : Hp) (σ' : L2.St) (s' : Shared), (∀ b ∈ fp, H' b = none) → Inv Y pp σ' H' s' → ∀ b ∈ fp, FpOk Y pp H' b) (st : Stp J W Ed B) (h : Lp Y pp σ0 fp tn W n s) :
    wpAny (model Y.prog Y.w) Y.A (pyNext (.ref it)) (fun r s1 => match r with
      | none => ∃ H1, Inv Y pp σ0 H1 s1 ∧ Ed H1
      | some u => wpAny (model Y.prog Y.w) Y.A (letOwnedTupleGo tg (.ref it) u) (fun _ s2 => ∃ (x : V) (H2 : Hp) (pq : List (Addr × Obj)) (Nx : Hp → Prop), Inv Y (pp ++ pq) σ0 H2 s2 ∧ RelV x u ∧ B x H2 Nx ∧
          ∀ (σ' : L2.St) (s' : Shared) (H' : Hp), Inv Y (pp ++ pq) σ' H' s' → σ0.length = σ'.length → (∀ (j : Nat) v, σ0[j]? = some (some v) → σ'[j]? = some (some v)) → Nx H' → ∃ m, m < n ∧ Lp Y pp σ0 fp tn W m s') E s1) E s := by
  obtain ⟨i, H1, I1, t1, f1, w1⟩ := h
  rcases st i n H1 w1 with ⟨sp, ed⟩ | ⟨go, Nx, nx, yl⟩
  · refine thn (T.done Y rfl rfl rfl hc i pp s σ0 H1 E I1 (hf _ _ _ f1 I1) t1 sp) fun r s1 h => ?_
    obtain ⟨rfl, I2⟩ := h
    exact ⟨H1, I2, ed⟩
  · refine thn (T.item Y rfl rfl rfl hc i pp s σ0 H1 E I1 (hf _ _ _ f1 I1) t1 go) fun r s1 h => ?_
    obtain ⟨u, rfl, h⟩ := h
    refine thn h fun _ s2 h => ?_
    obtain ⟨x, H2, I2, rx, y, t2, f2⟩ := h
    refine ⟨x, H2, pinsAt fp s2.heap, Nx, I2.pinned (hf _ _ _ f2 I2) (T.obj _ _ t2), rx, yl x H2 y, fun σ' s' H' I' hl hk hn => ?_⟩
    obtain ⟨m, lt, w'⟩ := nx H' hn
    have stay : ∀ b ∈ fp, ∀ o, s2.heap.get? b = some o → s'.heap.get? b = some o ∧ H' b = none := fun b hb o eo => by
      have z := I'.pin (b, o) (List.mem_append_right _ (List.mem_append_right _ (mem_pinsAt hb eo)))
      exact ⟨z.1, z.2.1⟩
    refine ⟨m, lt, i + 1, H', I'.unpinned.weak hl hk, T.keep _ _ _ t2 fun b hb o eo => (stay b hb o eo).1, fun b hb => ?_, w'⟩
    obtain ⟨o, eo, _⟩ := T.obj _ _ t2 b hb
    exact (stay b hb o eo).2

section
variable {X : Cx} {pins : List (Addr × Obj)} {σ : L2.St} {H : Hp} {s : Shared} {kx vx tg iter : Expr} {ifs : List Expr} {gs : List Comprehension} {scope : Scope} {own : List (Str × Nat)} {pos : Pos} {wi : TI}
/-- the loop of a dict comprehension's block -/
def DLp (X : Cx) (σ : L2.St) (scope : Scope) (own : List (Str × Nat)) (tg : Expr) (e : Expr) (Go : It → Addr → Hp → Prop) (Q : VK) : Prop :=
  ∀ (J : It) (D it : Addr) (fp : List Addr) (tn : Nat → Heap → Prop) (H1 : Hp) (s3 s4 : Shared) (cl : List (Str × Addr)) (RR : Result → Shared → Prop), Go J D H1 → Turn X.prog X.w X.K tg J fp it tn →
    Inv (X.blk s3 (upd H1 D (.dT [])) scope (compEnvC scope cl s3.heap.objs.size X.env) fp) [] (wipe σ (own.map (·.2))) (upd H1 D (.dT [])) s4 → tn 0 s4.heap → (∀ b ∈ fp, (upd H1 D (.dT [])) b = none) →
    (∀ H5 s6, Inv (X.blk s3 (upd H1 D (.dT [])) scope (compEnvC scope cl s3.heap.objs.size X.env) fp) [] (wipe σ (own.map (·.2))) H5 s6 → Q (.ref D) H5 → RR (.ok .next) s6) →
    codeAny (model X.prog X.w) X.A (.compLoop e 0 (.ref it) (.ref D) (compEnvC scope cl s3.heap.objs.size X.env)) RR s4
/-- the block: opened, and closed behind its loop -/
theorem dict_block {Go : It → Addr → Hp → Prop} {Q : VK} {pos' : Pos} {use : Option (Value → Sem Unit)} {Qf : Value → Shared → Prop} (hN : X.N.Nodup) (I : Inv X pins σ H s) (hi : PI X tg iter wi) (ok : BlkOk X.N X.env.scope scope own) (hs : ∀ x, foldedSetIterable iter X.env x = pure x) (h : wi σ H fun J H1 => ∀ D, H1 D = none → Go J D H1)
    (loop : DLp X σ scope own tg (.DictComp kx vx (⟨tg, iter, ifs, 0⟩ :: gs) scope pos) Go Q)
    (out : ∀ (D C : Addr) (s' : Shared) (m : Str → Option Value) (H' : Hp), Inv X pins σ H' s' → Q (.ref D) H' → s'.heap.Ns C m → FpOk X pins H' C → compPost (model X.prog X.w) X.A X.xe use Qf (.ref D) C (.ok .next) s') :
    wpAny (model X.prog X.w) X.A (comprehension (.DictComp kx vx (⟨tg, iter, ifs, 0⟩ :: gs) scope pos) scope X.env pos' newDict false (eval iter X.env) use) Qf X.xe s := by
  have has : ∀ y ∈ scope.names, y.2 = .free → ∃ c, X.env.cells.lookup y.1 = some c := fun y hy e =>
    (ok.free y hy e).elim (fun k => I.ok.has _ (.inl k)) (fun k => I.ok.has _ (.inr k))
  refine wpAny_comprehension_free (use := use) rfl hs (closure_ok has) ok.kind (fun y hy e => (ok.uniq y hy).trans (by rw [e])) ?_
  refine thn (hi.run pins s σ H _ I h) fun v s1 h1 => thn h1 fun iv s2 h2 => ?_
  obtain ⟨it, fp, tn, J, H1, rfl, I1, T, t1, f1, go⟩ := h2
  refine wpAny_newObj_type (newEnv_comp ?_)
  obtain ⟨D, eD⟩ : ∃ D, D = s2.heap.objs.size := ⟨_, rfl⟩
  have nD : H1 D = none := I1.hok.fresh (Nat.le_of_eq eD.symm)
  obtain ⟨s3, e3⟩ : ∃ s3 : Shared, s3 = { s2 with heap := s2.heap.push { cls := .type "dict", data := .dict #[] } } := ⟨_, rfl⟩
  have hp3 : s3.heap = s2.heap.push { cls := .type "dict", data := .dict #[] } := by rw [e3]
  have I3 : Inv X pins σ (upd H1 D (.dT [])) s3 := by
    rw [e3, eD]
    exact I1.laid (t' := s2.toks) (fun b o q => Heap.get?_push_of_some _ q) (Nat.le_refl _) (dt_empty s2.heap I1.big)
  have lt : ∀ b ∈ fp, b < s2.heap.objs.size := fun b hb => by
    obtain ⟨o, q, _⟩ := T.obj _ _ t1 b hb
    exact Heap.lt_size q
  have f3 : ∀ b ∈ fp, FpOk X pins (upd H1 D (.dT [])) b ∧ b < s3.heap.objs.size := fun b hb => by
    have l := lt b hb
    have z : b ≠ D := by rw [eD]; exact Nat.ne_of_lt l
    refine ⟨⟨(upd_ne z).trans (f1 b hb).1, (f1 b hb).2⟩, ?_⟩
    rw [hp3, Heap.size_push]
    exact Nat.lt_succ_of_lt l
  have t3 : tn 0 s3.heap := T.keep _ _ _ t1 fun b _ o q => by
    rw [hp3]
    exact Heap.get?_push_of_some _ q
  have I4 := block_start I3 ok hN f3
  have t4 := T.keep _ _ (pushCells (s3.heap.push { cls := .type "dict", data := .dict #[] }) scope.names) t3 fun b _ o q => pushCells_keeps _ _ _ _ (Heap.get?_push_of_some _ q)
  have lp := loop J D it fp tn H1 s3 _ (cellsFrom (s3.heap.objs.size + 1) scope.names (cloFrom X.env.cells scope.names [])) (compPost (model X.prog X.w) X.A X.xe use Qf (.ref D) s3.heap.objs.size) (go D nD) T I4 t4 (fun b hb => (f3 b hb).1.1) (fun H5 s6 I6 q => by
    have I7 : Inv X pins σ H5 s6 := I3.call' (ch := fp) I6.os I6.base I6.hok I6.bare fun b hb => by
      obtain ⟨⟨_, g1, _, g3, g4, g5⟩, _⟩ := f3 b hb
      exact ⟨g3, g1, g4, g5⟩
    have nl : H5 s3.heap.objs.size = none := I6.free
    obtain ⟨m, hm, _⟩ := I6.loc
    exact out D s3.heap.objs.size s6 m H5 I7 q hm (I3.fpOk (Nat.le_refl _) nl))
  have fin := codeAny_compStart_dict lp (T.self X.A 0 _ _ _ t4 lp)
  rw [e3] at fin
  subst eD
  exact fin
theorem pe_dict {Go : L2.St → VK → It → Addr → Hp → Prop} (hN : X.N.Nodup) (hi : PI X tg iter wi) (ok : BlkOk X.N X.env.scope scope own) (hs : ∀ x, foldedSetIterable iter X.env x = pure x)
    (loop : ∀ σ Q, DLp X σ scope own tg (.DictComp kx vx (⟨tg, iter, ifs, 0⟩ :: gs) scope pos) (Go σ Q) Q) : PE X (.DictComp kx vx (⟨tg, iter, ifs, 0⟩ :: gs) scope pos) (fun σ H Q => wi σ H fun J H1 => ∀ D, H1 D = none → Go σ Q J D H1) := by
  refine ⟨fun pins s σ H Q I h => ?_⟩
  rw [arm_eval_DictComp]
  refine dict_block hN I hi ok hs h (loop σ Q) fun D C s' m H' I' q hn f => ⟨m, hn, fun g sb => ?_⟩
  obtain ⟨p0, p1, _, p3, p4, p5⟩ := f
  exact ⟨.ref D, H', I'.turned (t' := s'.toks) (fun b o hb e => (sb.2 b hb).trans e) p0 p1 p3 p4 p5, rfl, q⟩
/-- y = {..}, on one line: the store comes ahead of the block's end -/
theorem ps_dict {Go : L2.St → VK → It → Addr → Hp → Prop} {i : Nat} {y : Str} {py spos : Pos} (hN : X.N.Nodup) (hy : X.N[i]? = some y) (hyl : X.env.scope.names.lookup y = some .local) (hsw : swapsWith (.DictComp kx vx (⟨tg, iter, ifs, 0⟩ :: gs) scope pos) (some (.Name y py)) spos.line X.env = pure true)
    (hi : PI X tg iter wi) (ok : BlkOk X.N X.env.scope scope own) (hs : ∀ x, foldedSetIterable iter X.env x = pure x)
    (loop : ∀ σ Q, DLp X σ scope own tg (.DictComp kx vx (⟨tg, iter, ifs, 0⟩ :: gs) scope pos) (Go σ Q) Q) : PS X (.Assign [.Name y py] (.DictComp kx vx (⟨tg, iter, ifs, 0⟩ :: gs) scope pos) spos) (tAsg (fun σ H Q => wi σ H fun J H1 => ∀ D, H1 D = none → Go σ Q J D H1) (gName i)) := by
  refine ⟨fun pins s σ H E I h => ?_⟩
  rw [exec_Assign_Name_used _ _ _ _ hsw]
  refine wpAny_bind (wpAny_standAt (wpAny_bind ?_))
  show wpAny _ X.A (do let _ ← comprehension (.DictComp kx vx (⟨tg, iter, ifs, 0⟩ :: gs) scope pos) scope X.env (firstIterPos (⟨tg, iter, ifs, 0⟩ :: gs) pos) newDict false (eval iter X.env) (some (assign (.Name y py) X.env))) _ _ s
  have h : wi σ H fun J H1 => ∀ D, H1 D = none → Go σ (fun x H1 => gName i x σ H1 E.nx) J D H1 := h
  refine wpAny_bind (thn (dict_block (Qf := fun _ s' => SP X pins E .next s') hN I hi ok hs h (loop σ _) fun D C s' m H' I' q hn f => ?_) fun _ s' hq => wpAny_pure (wpAny_pure hq))
  show wpAny _ _ (assign (.Name y py) X.env (.ref D)) _ _ _
  obtain ⟨p0, p1, _, p3, p4, p5⟩ := f
  refine wpAny_assign_Name (store_ok2 (v := V.ref D) I' hN hy (.inl hyl) rfl (fun s2 I2 hh => ?_) (.inr hyl))
  obtain ⟨a, sb, ha⟩ := hh
  have na : C ≠ a := ha.elim (fun z => by rw [z]; exact p1) (fun z e => p4 y a z e.symm)
  exact ⟨m, hn.sameBut sb na, fun g sg => ⟨_, H', I2.turned (t' := s2.toks) (fun b o hb e => (sg.2 b hb).trans e) p0 p1 p3 p4 p5, q⟩⟩
theorem sw_dict {kx vx : Expr} {gs : List Comprehension} {scope : Scope} {pos py : Pos} {y : Str} {l : Nat} {env : Env} (k1 : env.scope.kind = .function) (k2 : env.scope.names.lookup y = some .local) (k3 : (py.line == pos.line) = true) (k4 : (scope.names.any fun (n, k) => n == y && (k == .local || k == .cell)) = false) :
    swapsWith (.DictComp kx vx gs scope pos) (some (.Name y py)) l env = pure true := by
  have e1 : env.blockKind = .function := by
    unfold Env.blockKind
    rw [k1]
    rfl
  have e2 : env.kindOf y = some .local := k2
  unfold swapsWith
  simp only [e1, e2, k4, Expr.pos, k3]
  rfl
theorem blk_fp {s3 : Shared} {H3 H' : Hp} {ce : Env} {fp : List Addr} {σ' : L2.St} {s' : Shared} (hn : ∀ b ∈ fp, H' b = none) (I' : Inv (X.blk s3 H3 scope ce fp) [] σ' H' s') : ∀ b ∈ fp, FpOk (X.blk s3 H3 scope ce fp) [] H' b := fun b hb => by
  refine ⟨hn b hb, (I'.ok.exf b hb).1, I'.ok.exfs b hb, .inl hb, fun x c e => (I'.ok.exf b hb).2 x c e, fun p hp => ?_⟩
  exact absurd (show p ∈ ([] : List (Addr × Obj)) from by simpa using hp) List.not_mem_nil
end

section
variable {X : Cx}
/-- {k: v for tg in iter}: D the new dict -/
def tDcT (wi : TI) (g : TG) (tk tv : TE) (vs : List Nat) : TE := fun σ H Q => wi σ H fun J H1 => ∀ D, H1 D = none → ∃ W : Nat → Nat → Hp → Prop, (∃ m, W 0 m (upd H1 D (.dT []))) ∧
  Stp J W (fun H => Q (.ref D) H) fun x H Nx => g x (wipe σ vs) H fun σ2 H2 => wipe σ2 vs = wipe σ vs ∧ tk σ2 H2 fun y H3 => tv σ2 H3 fun z H4 =>
    ∃ kvs k b, y = .ref b ∧ H4 b = some (.tup (k.map kV)) ∧ H4 D = some (.dT kvs) ∧ kvs.length < sizeLine ∧ Nx (upd H4 D (.dT (putK kvs k z)))
def goT (g : TG) (tk tv : TE) (vs : List Nat) (σ : L2.St) (Q : VK) (J : It) (D : Addr) (H1 : Hp) : Prop := ∃ W : Nat → Nat → Hp → Prop, (∃ m, W 0 m (upd H1 D (.dT []))) ∧
  Stp J W (fun H => Q (.ref D) H) fun x H Nx => g x (wipe σ vs) H fun σ2 H2 => wipe σ2 vs = wipe σ vs ∧ tk σ2 H2 fun y H3 => tv σ2 H3 fun z H4 =>
    ∃ kvs k b, y = .ref b ∧ H4 b = some (.tup (k.map kV)) ∧ H4 D = some (.dT kvs) ∧ kvs.length < sizeLine ∧ Nx (upd H4 D (.dT (putK kvs k z)))
theorem dcT_loop {kx vx tg iter : Expr} {scope : Scope} {own : List (Str × Nat)} {pos : Pos} {g : TG} {tk tv : TE} (hu : X.A.units + 1 < cLine) (hc : X.calm = true)
    (hg : ∀ (s : Shared) (H : Hp) (C : Addr) (cl : List (Str × Addr)) (fp : List Addr), PG (X.blk s H scope (compEnvC scope cl C X.env) fp) tg g)
    (hk : ∀ (s : Shared) (H : Hp) (C : Addr) (cl : List (Str × Addr)) (fp : List Addr), PE (X.blk s H scope (compEnvC scope cl C X.env) fp) kx tk)
    (hv : ∀ (s : Shared) (H : Hp) (C : Addr) (cl : List (Str × Addr)) (fp : List Addr), PE (X.blk s H scope (compEnvC scope cl C X.env) fp) vx tv) (σ : L2.St) (Q : VK) :
    DLp X σ scope own tg (.DictComp kx vx [⟨tg, iter, [], 0⟩] scope pos) (goT g tk tv (own.map (·.2)) σ Q) Q := by
  intro J D it fp tn H1 s3 s4 cl RR go T I4 t4 n4 fin
  obtain ⟨W, ⟨m0, w0⟩, st⟩ := go
  have pg := hg s3 (upd H1 D (.dT [])) s3.heap.objs.size cl fp
  have pk := hk s3 (upd H1 D (.dT [])) s3.heap.objs.size cl fp
  have pv := hv s3 (upd H1 D (.dT [])) s3.heap.objs.size cl fp
  generalize compEnvC scope cl s3.heap.objs.size X.env = ce at *
  refine compLoop_anyD (Lp (X.blk s3 (upd H1 D (.dT [])) scope ce fp) [] (wipe σ (own.map (·.2))) fp tn W) (fun n s5 hl => ?_) m0 ⟨0, _, I4, t4, n4, w0⟩
  refine thn (hl.turn (Y := X.blk s3 (upd H1 D (.dT [])) scope ce fp) T hc (fun H' σ' s' a b => blk_fp a b) st) fun r s6 h6 => ?_
  cases r with
  | none =>
    obtain ⟨H6, I6, q⟩ := h6
    exact fin H6 s6 I6 q
  | some u =>
    refine thn h6 fun _ s7 h7 => ?_
    obtain ⟨x, H7, pq, Nx, I7, rx, by7, on⟩ := h7
    refine thnF (pg.run _ s7 _ H7 x u _ I7 rx by7) fun _ s8 h8 => ?_
    obtain ⟨σ8, H8, I8, w8, q8⟩ := h8
    show wpAny _ _ (pure true) _ _ _
    refine wpAny_pure ?_
    rw [if_pos rfl]
    refine thnF (pk.run _ s8 σ8 H8 _ I8 q8) fun kv s9 h9 => ?_
    obtain ⟨y, H9, I9, ry, q9⟩ := h9
    refine thnF (pv.run _ s9 σ8 H9 _ I9 q9) fun vv s10 h10 => ?_
    obtain ⟨z, H10, I10, rz, kvs, k, b, rfl, eb, eD, hz, nx⟩ := h10
    obtain rfl : kv = Value.ref b := ry
    refine put_tup (X := X.blk s3 (upd H1 D (.dT [])) scope ce fp) hu I10 eD eb hz rz fun s11 I11 => on _ _ _ I11 ?_ ?_ nx
    · rw [← w8, wipe_length]
    · intro j v e
      rw [← w8] at e
      exact (wipe_some e).1
section
variable {kx vx tg iter : Expr} {scope : Scope} {own : List (Str × Nat)} {pos : Pos} {wi : TI} {g : TG} {tk tv : TE} (hu : X.A.units + 1 < cLine) (hc : X.calm = true) (hN : X.N.Nodup) (hi : PI X tg iter wi) (ok : BlkOk X.N X.env.scope scope own)
    (hg : ∀ (s : Shared) (H : Hp) (C : Addr) (cl : List (Str × Addr)) (fp : List Addr), PG (X.blk s H scope (compEnvC scope cl C X.env) fp) tg g)
    (hk : ∀ (s : Shared) (H : Hp) (C : Addr) (cl : List (Str × Addr)) (fp : List Addr), PE (X.blk s H scope (compEnvC scope cl C X.env) fp) kx tk)
    (hv : ∀ (s : Shared) (H : Hp) (C : Addr) (cl : List (Str × Addr)) (fp : List Addr), PE (X.blk s H scope (compEnvC scope cl C X.env) fp) vx tv)
include hu hc hN hi ok hg hk hv
theorem pe_dcT (hs : ∀ x, foldedSetIterable iter X.env x = pure x := by intro _; rfl) : PE X (.DictComp kx vx [⟨tg, iter, [], 0⟩] scope pos) (tDcT wi g tk tv (own.map (·.2))) :=
  pe_dict (Go := goT g tk tv (own.map (·.2))) hN hi ok hs fun σ Q => dcT_loop hu hc hg hk hv σ Q
theorem ps_dcT {i : Nat} {y : Str} {py spos : Pos} (hy : X.N[i]? = some y) (hyl : X.env.scope.names.lookup y = some .local) (hsw : swapsWith (.DictComp kx vx [⟨tg, iter, [], 0⟩] scope pos) (some (.Name y py)) spos.line X.env = pure true) (hs : ∀ x, foldedSetIterable iter X.env x = pure x := by intro _; rfl) :
    PS X (.Assign [.Name y py] (.DictComp kx vx [⟨tg, iter, [], 0⟩] scope pos) spos) (tAsg (tDcT wi g tk tv (own.map (·.2))) (gName i)) := by
  have h := ps_dict (Go := goT g tk tv (own.map (fun x => x.2))) hN hy hyl hsw hi ok hs fun σ Q => dcT_loop hu hc hg hk hv σ Q
  exact h
end
/-- {k: v for tg in iter for tg1 in iter1} -/
def tDc2T (wi : TI) (g : TG) (wi1 : TI) (g1 : TG) (tk tv : TE) (vs vs1 : List Nat) : TE := fun σ H Q => wi σ H fun J H1 => ∀ D, H1 D = none → ∃ W : Nat → Nat → Hp → Prop, (∃ m, W 0 m (upd H1 D (.dT []))) ∧
  Stp J W (fun H => Q (.ref D) H) fun x H Nx => g x (wipe σ vs) H fun σ2 H2 => wipe σ2 vs = wipe σ vs ∧ wi1 σ2 H2 fun J1 H3 => ∃ W1 : Nat → Nat → Hp → Prop, (∃ m, W1 0 m H3) ∧
    Stp J1 W1 Nx fun x1 H4 Nx1 => g1 x1 (wipe σ2 vs1) H4 fun σ3 H5 => wipe σ3 vs1 = wipe σ2 vs1 ∧ tk σ3 H5 fun y H6 => tv σ3 H6 fun z H7 =>
      ∃ kvs k b, y = .ref b ∧ H7 b = some (.tup (k.map kV)) ∧ H7 D = some (.dT kvs) ∧ kvs.length < sizeLine ∧ Nx1 (upd H7 D (.dT (putK kvs k z)))
section
variable {prog : Program} {w : World} {A : Around} {R : Result → Shared → Prop} {s : Shared} {kx vx t0 i0 t1 i1 : Expr} {scope : Scope} {pos : Pos} {it : Value} {D : Addr} {env : Env}
abbrev dc2 (kx vx t0 i0 t1 i1 : Expr) (scope : Scope) (pos : Pos) : Expr := .DictComp kx vx [⟨t0, i0, [], 0⟩, ⟨t1, i1, [], 0⟩] scope pos
theorem dc2_outer : compTurn (dc2 kx vx t0 i0 t1 i1 scope pos) 0 it (.ref D) env = (standAt i0.pos >>= fun _ => pyNext it >>= fun r => match r with
    | none => pure (.done .next)
    | some v => letOwnedTupleGo t0 it v >>= fun _ => assign t0 env v >>= fun _ => eval i1 env >>= fun x => standAt i1.pos >>= fun _ => foldedSetIterable i1 env x >>= fun x => holding [x] (pyIter x) >>= fun j => runOwn (.compStart (dc2 kx vx t0 i0 t1 i1 scope pos) 1 j (.ref D) env) env >>= fun _ => again (.compLoop (dc2 kx vx t0 i0 t1 i1 scope pos) 0 it (.ref D) env)) := by
  rfl
theorem dc2_inner : compTurn (dc2 kx vx t0 i0 t1 i1 scope pos) 1 it (.ref D) env = (standAt i1.pos >>= fun _ => pyNext it >>= fun r => match r with
    | none => pure (.done .next)
    | some v => letOwnedTupleGo t1 it v >>= fun _ => assign t1 env v >>= fun _ => (eval kx env >>= fun kv => holding [kv] (eval vx env) >>= fun vv => standAt { kx.pos with endLine := vx.pos.endLine, endCol := vx.pos.endCol } >>= fun _ => holding [kv, vv] (dictSet D kv vv)) >>= fun _ => again (.compLoop (dc2 kx vx t0 i0 t1 i1 scope pos) 1 it (.ref D) env)) := by
  rfl
theorem dc2_out {I : Nat → Shared → Prop} (hs : ∀ x, foldedSetIterable i1 env x = pure x)
    (turn : ∀ k t, I k t → wpAny (model prog w) A (pyNext it) (fun r a => match r with
      | none => R (.ok .next) a
      | some v => wpAny (model prog w) A (letOwnedTupleGo t0 it v) (fun _ b => wpAny (model prog w) A (assign t0 env v) (fun _ c => wpAny (model prog w) A (eval i1 env) (fun x d => wpAny (model prog w) A (pyIter x) (fun j f =>
          codeAny (model prog w) A (.compStart (dc2 kx vx t0 i0 t1 i1 scope pos) 1 j (.ref D) env) (fun r' g => match r' with
            | .ok _ => ∃ m, m < k ∧ I m g
            | .error _ => False) f) (fun _ _ => False) d) (fun _ _ => False) c) (fun _ _ => False) b) (fun _ _ => False) a) (fun _ _ => False) t)
    {k0 : Nat} (h : I k0 s) : codeAny (model prog w) A (.compLoop (dc2 kx vx t0 i0 t1 i1 scope pos) 0 it (.ref D) env) R s := by
  refine codeAny_loop rfl I (fun k t hk => ?_) k0 h
  show wpAny _ A ((compTurn (dc2 kx vx t0 i0 t1 i1 scope pos) 0 it (.ref D) env).onRaise (fun x => do noteFrame x env; theTreesLotGoes x)) _ _ t
  refine wpAny_noted ?_
  rw [dc2_outer]
  refine wpAny_bind (wpAny_standAt (wpAny_bind (thnF (turn k t hk) fun r a ha => ?_)))
  cases r with
  | none => exact wpAny_pure ha
  | some v =>
    refine wpAny_bind (thnF ha fun _ b hb => wpAny_bind (thnF hb fun _ c hc => wpAny_bind (thnF hc fun x d hd => ?_)))
    refine wpAny_bind (wpAny_standAt (wpAny_bind (wpAny_of_eq (hs x) (wpAny_bind (wpAny_holding (thnF hd fun j f hf => ?_))))))
    refine wpAny_bind (wpAny_runOwn ?_)
    rw [Around.mark_none]
    refine codeAny_mono hf fun r' g hg => ?_
    cases r' with
    | ok _ => exact wpAny_pure ⟨rfl, hg⟩
    | error _ => exact hg.elim
theorem dc2_in {I : Nat → Shared → Prop}
    (turn : ∀ k t, I k t → wpAny (model prog w) A (pyNext it) (fun r a => match r with
      | none => R (.ok .next) a
      | some v => wpAny (model prog w) A (letOwnedTupleGo t1 it v) (fun _ b => wpAny (model prog w) A (assign t1 env v) (fun _ c => wpAny (model prog w) A (eval kx env) (fun kv d => wpAny (model prog w) A (eval vx env) (fun vv f =>
          wpAny (model prog w) A (dictSet D kv vv) (fun _ g => ∃ m, m < k ∧ I m g) (fun _ _ => False) f) (fun _ _ => False) d) (fun _ _ => False) c) (fun _ _ => False) b) (fun _ _ => False) a) (fun _ _ => False) t)
    {k0 : Nat} (h : I k0 s) : codeAny (model prog w) A (.compLoop (dc2 kx vx t0 i0 t1 i1 scope pos) 1 it (.ref D) env) R s := by
  refine codeAny_loop rfl I (fun k t hk => ?_) k0 h
  show wpAny _ A ((compTurn (dc2 kx vx t0 i0 t1 i1 scope pos) 1 it (.ref D) env).onRaise (fun x => do noteFrame x env; theTreesLotGoes x)) _ _ t
  refine wpAny_noted ?_
  rw [dc2_inner]
  refine wpAny_bind (wpAny_standAt (wpAny_bind (thnF (turn k t hk) fun r a ha => ?_)))
  cases r with
  | none => exact wpAny_pure ha
  | some v =>
    refine wpAny_bind (thnF ha fun _ b hb => wpAny_bind (thnF hb fun _ c hc => wpAny_bind (wpAny_bind (thnF hc fun kv d hd => ?_))))
    refine wpAny_bind (wpAny_holding (thnF hd fun vv f hf => wpAny_bind (wpAny_standAt (wpAny_holding (thnF hf fun _ g hg => ?_)))))
    exact wpAny_pure ⟨rfl, hg⟩
theorem dc2_start (h0 : codeAny (model prog w) A (.compLoop (dc2 kx vx t0 i0 t1 i1 scope pos) 1 it (.ref D) env) R s)
    (h : wpAny (model prog w) A (pyIter it) (fun j a => codeAny (model prog w) A (.compLoop (dc2 kx vx t0 i0 t1 i1 scope pos) 1 j (.ref D) env) R a) (fun _ _ => False) s) :
    codeAny (model prog w) A (.compStart (dc2 kx vx t0 i0 t1 i1 scope pos) 1 it (.ref D) env) R s := by
  refine codeAny_of_tree ?_
  show wpAny _ _ ((compStart (dc2 kx vx t0 i0 t1 i1 scope pos) 1 it (.ref D) env).onRaise (fun x => do noteFrame x env; standAt theWindowsPlace)) _ _ s
  refine wpAny_notedAt ?_
  unfold compStart
  show wpAny _ _ (ask >>= _) _ _ s
  refine wpAny_bind (wpAny_askSetting (wpAny_ite ?_))
  split
  · first
      | exact wpAny_pure ⟨rfl, h0⟩
      | exact wpAny_bind (wpAny_pure (wpAny_pure ⟨rfl, h0⟩))
  · refine wpAny_bind (wpAny_rule ?_)
    show wpAny _ _ (standAt i1.pos >>= _) _ _ s
    exact wpAny_bind (wpAny_standAt (wpAny_bind (thnF h fun j a ha => wpAny_pure ⟨rfl, ha⟩)))
end
def goT2 (g : TG) (wi1 : TI) (g1 : TG) (tk tv : TE) (vs vs1 : List Nat) (σ : L2.St) (Q : VK) (J : It) (D : Addr) (H1 : Hp) : Prop := ∃ W : Nat → Nat → Hp → Prop, (∃ m, W 0 m (upd H1 D (.dT []))) ∧
  Stp J W (fun H => Q (.ref D) H) fun x H Nx => g x (wipe σ vs) H fun σ2 H2 => wipe σ2 vs = wipe σ vs ∧ wi1 σ2 H2 fun J1 H3 => ∃ W1 : Nat → Nat → Hp → Prop, (∃ m, W1 0 m H3) ∧
    Stp J1 W1 Nx fun x1 H4 Nx1 => g1 x1 (wipe σ2 vs1) H4 fun σ3 H5 => wipe σ3 vs1 = wipe σ2 vs1 ∧ tk σ3 H5 fun y H6 => tv σ3 H6 fun z H7 =>
      ∃ kvs k b, y = .ref b ∧ H7 b = some (.tup (k.map kV)) ∧ H7 D = some (.dT kvs) ∧ kvs.length < sizeLine ∧ Nx1 (upd H7 D (.dT (putK kvs k z)))
theorem dc2T_loop {kx vx tg iter tg1 iter1 : Expr} {scope : Scope} {own : List (Str × Nat)} {vs1 : List Nat} {pos : Pos} {wi1 : TI} {g g1 : TG} {tk tv : TE} (hu : X.A.units + 1 < cLine) (hc : X.calm = true) (h1 : ∀ i ∈ vs1, i ∈ own.map (·.2))
    (hg : ∀ (s : Shared) (H : Hp) (C : Addr) (cl : List (Str × Addr)) (fp : List Addr), PG (X.blk s H scope (compEnvC scope cl C X.env) fp) tg g)
    (hi1 : ∀ (s : Shared) (H : Hp) (C : Addr) (cl : List (Str × Addr)) (fp : List Addr), PI (X.blk s H scope (compEnvC scope cl C X.env) fp) tg1 iter1 wi1)
    (hg1 : ∀ (s : Shared) (H : Hp) (C : Addr) (cl : List (Str × Addr)) (fp : List Addr), PG (X.blk s H scope (compEnvC scope cl C X.env) fp) tg1 g1)
    (hk : ∀ (s : Shared) (H : Hp) (C : Addr) (cl : List (Str × Addr)) (fp : List Addr), PE (X.blk s H scope (compEnvC scope cl C X.env) fp) kx tk)
    (hv : ∀ (s : Shared) (H : Hp) (C : Addr) (cl : List (Str × Addr)) (fp : List Addr), PE (X.blk s H scope (compEnvC scope cl C X.env) fp) vx tv) (hs1 : ∀ env x, foldedSetIterable iter1 env x = pure x) (σ : L2.St) (Q : VK) :
    DLp X σ scope own tg (dc2 kx vx tg iter tg1 iter1 scope pos) (goT2 g wi1 g1 tk tv (own.map (·.2)) vs1 σ Q) Q := by
  intro J D it fp tn H1 s3 s4 cl RR go T I4 t4 n4 fin
  obtain ⟨W, ⟨m0, w0⟩, st⟩ := go
  have pg := hg s3 (upd H1 D (.dT [])) s3.heap.objs.size cl fp
  have pi1 := hi1 s3 (upd H1 D (.dT [])) s3.heap.objs.size cl fp
  have pg1 := hg1 s3 (upd H1 D (.dT [])) s3.heap.objs.size cl fp
  have pk := hk s3 (upd H1 D (.dT [])) s3.heap.objs.size cl fp
  have pv := hv s3 (upd H1 D (.dT [])) s3.heap.objs.size cl fp
  generalize compEnvC scope cl s3.heap.objs.size X.env = ce at *
  refine dc2_out (I := Lp (X.blk s3 (upd H1 D (.dT [])) scope ce fp) [] (wipe σ (own.map (·.2))) fp tn W) (hs1 ce) (fun n s5 hl => ?_) ⟨0, _, I4, t4, n4, w0⟩
  refine thn (hl.turn (Y := X.blk s3 (upd H1 D (.dT [])) scope ce fp) T hc (fun H' σ' s' a b => blk_fp a b) st) fun r s6 h6 => ?_
  cases r with
  | none =>
    obtain ⟨H6, I6, q⟩ := h6
    exact fin H6 s6 I6 q
  | some u =>
    refine thn h6 fun _ s7 h7 => ?_
    obtain ⟨x, H7, pq, Nx, I7, rx, by7, on⟩ := h7
    refine thn (pg.run _ s7 _ H7 x u _ I7 rx by7) fun _ s8 h8 => ?_
    obtain ⟨σ8, H8, I8, w8, q8⟩ := h8
    refine thn (pi1.run _ s8 σ8 H8 _ I8 q8) fun xv s9 h9 => thn h9 fun jv s10 h10 => ?_
    obtain ⟨jt, fp1, tn1, J1, H10, rfl, I10, T1, t10, f10, W1, ⟨k0, v0⟩, st1⟩ := h10
    have inner : codeAny (model X.prog X.w) X.A (.compLoop (dc2 kx vx tg iter tg1 iter1 scope pos) 1 (.ref jt) (.ref D) ce) (fun r' g' => match r' with
        | .ok _ => ∃ m, m < n ∧ Lp (X.blk s3 (upd H1 D (.dT [])) scope ce fp) [] (wipe σ (own.map (·.2))) fp tn W m g'
        | .error _ => False) s10 := by
      refine dc2_in (I := Lp (X.blk s3 (upd H1 D (.dT [])) scope ce fp) ([] ++ pq) (wipe σ8 vs1) fp1 tn1 W1) (fun k s11 hl1 => ?_) ⟨0, H10, I10.weak (wipe_length _ _) (fun j v e => (wipe_some e).1), t10, fun b hb => (f10 b hb).1, v0⟩
      refine thn (hl1.turn (Y := X.blk s3 (upd H1 D (.dT [])) scope ce fp) T1 hc (fun H' σ' s' a _ b hb => ⟨a b hb, (f10 b hb).2⟩) st1) fun r s12 h12 => ?_
      cases r with
      | none =>
        obtain ⟨H12, I12, nx⟩ := h12
        refine on _ _ _ I12 ?_ ?_ nx
        · rw [← w8, wipe_length, wipe_length]
        · intro j v e
          rw [← w8] at e
          obtain ⟨e1, e2⟩ := wipe_some e
          rw [wipe_out fun z => e2 (h1 j z)]
          exact e1
      | some u1 =>
        refine thn h12 fun _ s13 h13 => ?_
        obtain ⟨x1, H13, pr, Nx1, I13, rx1, by13, on1⟩ := h13
        refine thn (pg1.run _ s13 _ H13 x1 u1 _ I13 rx1 by13) fun _ s14 h14 => ?_
        obtain ⟨σ14, H14, I14, w14, q14⟩ := h14
        refine thn (pk.run _ s14 σ14 H14 _ I14 q14) fun kv s15 h15 => ?_
        obtain ⟨y, H15, I15, ry, q15⟩ := h15
        refine thn (pv.run _ s15 σ14 H15 _ I15 q15) fun vv s16 h16 => ?_
        obtain ⟨z, H16, I16, rz, kvs, k', b, rfl, eb, eD, hz, nx⟩ := h16
        obtain rfl : kv = Value.ref b := ry
        refine put_tup (X := X.blk s3 (upd H1 D (.dT [])) scope ce fp) hu I16 eD eb hz rz fun s17 I17 => on1 _ _ _ I17 ?_ ?_ nx
        · rw [← w14, wipe_length]
        · intro j v e
          rw [← w14] at e
          exact (wipe_some e).1
    exact dc2_start inner (T1.self X.A 0 _ _ _ t10 inner)
section
variable {kx vx tg iter tg1 iter1 : Expr} {scope : Scope} {own : List (Str × Nat)} {vs1 : List Nat} {pos : Pos} {wi wi1 : TI} {g g1 : TG} {tk tv : TE} (hu : X.A.units + 1 < cLine) (hc : X.calm = true) (hN : X.N.Nodup) (hi : PI X tg iter wi) (ok : BlkOk X.N X.env.scope scope own) (h1 : ∀ i ∈ vs1, i ∈ own.map (·.2))
    (hg : ∀ (s : Shared) (H : Hp) (C : Addr) (cl : List (Str × Addr)) (fp : List Addr), PG (X.blk s H scope (compEnvC scope cl C X.env) fp) tg g)
    (hi1 : ∀ (s : Shared) (H : Hp) (C : Addr) (cl : List (Str × Addr)) (fp : List Addr), PI (X.blk s H scope (compEnvC scope cl C X.env) fp) tg1 iter1 wi1)
    (hg1 : ∀ (s : Shared) (H : Hp) (C : Addr) (cl : List (Str × Addr)) (fp : List Addr), PG (X.blk s H scope (compEnvC scope cl C X.env) fp) tg1 g1)
    (hk : ∀ (s : Shared) (H : Hp) (C : Addr) (cl : List (Str × Addr)) (fp : List Addr), PE (X.blk s H scope (compEnvC scope cl C X.env) fp) kx tk)
    (hv : ∀ (s : Shared) (H : Hp) (C : Addr) (cl : List (Str × Addr)) (fp : List Addr), PE (X.blk s H scope (compEnvC scope cl C X.env) fp) vx tv)
include hu hc hN hi ok h1 hg hi1 hg1 hk hv
theorem pe_dc2T (hs : ∀ x, foldedSetIterable iter X.env x = pure x := by intro _; rfl) (hs1 : ∀ env x, foldedSetIterable iter1 env x = pure x := by intro _ _; rfl) : PE X (dc2 kx vx tg iter tg1 iter1 scope pos) (tDc2T wi g wi1 g1 tk tv (own.map (·.2)) vs1) :=
  pe_dict (Go := goT2 g wi1 g1 tk tv (own.map (·.2)) vs1) hN hi ok hs fun σ Q => dc2T_loop hu hc h1 hg hi1 hg1 hk hv hs1 σ Q
theorem ps_dc2T {i : Nat} {y : Str} {py spos : Pos} (hy : X.N[i]? = some y) (hyl : X.env.scope.names.lookup y = some .local) (hsw : swapsWith (dc2 kx vx tg iter tg1 iter1 scope pos) (some (.Name y py)) spos.line X.env = pure true) (hs : ∀ x, foldedSetIterable iter X.env x = pure x := by intro _; rfl) (hs1 : ∀ env x, foldedSetIterable iter1 env x = pure x := by intro _ _; rfl) :
    PS X (.Assign [.Name y py] (dc2 kx vx tg iter tg1 iter1 scope pos) spos) (tAsg (tDc2T wi g wi1 g1 tk tv (own.map (·.2)) vs1) (gName i)) := by
  have h := ps_dict (Go := goT2 g wi1 g1 tk tv (own.map (fun x => x.2)) vs1) hN hy hyl hsw hi ok hs fun σ Q => dc2T_loop hu hc h1 hg hi1 hg1 hk hv hs1 σ Q
  exact h
end
end
/-- a walk answers what Stp asks -/
theorem stp_it {J : It} {n : Nat} {Gd : Hp → Prop} {Y : Nat → Hp → V → Hp → Prop} (w : Walk J n Gd Y) {Ed : Hp → Prop} {B : V → Hp → (Hp → Prop) → Prop} {H0 : Hp} (Pv : Nat → Hp → Prop) (h0 : Pv 0 H0) (hG : ∀ i H, i ≤ n → Pv i H → Gd H)
    (hs : ∀ i x H H', i < n → Pv i H → Y i H x H' → B x H' (Pv (i + 1))) (hd : ∀ H, Pv n H → Ed H) : ∃ W : Nat → Nat → Hp → Prop, (∃ m, W 0 m H0) ∧ Stp J W Ed B := by
  refine ⟨fun i m H => m = n - i ∧ i ≤ n ∧ Pv i H, ⟨n, rfl, Nat.zero_le _, h0⟩, fun i m H h => ?_⟩
  obtain ⟨rfl, le, pv⟩ := h
  rcases Nat.lt_or_ge i n with lt | ge
  · exact .inr ⟨w.goes i H lt (hG i H le pv), Pv (i + 1), fun H' p' => ⟨n - (i + 1), by omega, rfl, lt, p'⟩, fun x H' y => hs i x H H' lt pv (w.yields i H x H' lt (hG i H le pv) y)⟩
  · obtain rfl : i = n := by omega
    exact .inl ⟨w.stops H (hG i H le pv), hd H pv⟩
end NB

set_option Elab.async false
set_option linter.all false
set_option maxRecDepth 100000
set_option maxHeartbeats 1000000
/-! tuple(zip(a, b)) of two lists of one length. -/
namespace NB
open PySem PySem.Spec PyProof.Rows L2

theorem zip_len0 : typeLookup (.type "zip") "__len__" = pure none := by
  rw [typeLookup_type, builtinLookup_eq_fast]
  kernel_rfl
theorem zip_hint0 : typeLookup (.type "zip") "__length_hint__" = pure none := by
  rw [typeLookup_type, builtinLookup_eq_fast]
  kernel_rfl
/-- the tuples given out so far -/
def Gave (h : Heap) (ban : List Addr) (xs ys : Array Value) (Ts : List Addr) : Prop := ∀ (j : Nat) (T : Addr), Ts[j]? = some T → T ∉ ban ∧ ∃ x y, xs[j]? = some x ∧ ys[j]? = some y ∧ IsPair h T x y
/-- a zip of two lists behind k turns -/
def Zst (h : Heap) (z TI TO i1 i2 l1 l2 : Addr) (xs ys : Array Value) (k : Nat) (Ts : List Addr) : Prop :=
  ((IsZip h z TI TO .none ∧ Ts = []) ∨ ∃ T ∈ Ts, ∃ f, IsZipHeld h z TI TO T f) ∧ IsPair h TI (.ref i1) (.ref i2) ∧ (∃ a b, IsPair h TO a b) ∧ (h.IsListIter i1 l1 k ∧ h.IsListIter i2 l2 k) ∧ h.IsList l1 xs ∧ h.IsList l2 ys
theorem Gave.keep {h h' : Heap} {ban : List Addr} {xs ys : Array Value} {Ts : List Addr} (g : Gave h ban xs ys Ts) (k : ∀ b o, b ∉ ban → h.get? b = some o → h'.get? b = some o) : Gave h' ban xs ys Ts := fun j T e => by
  obtain ⟨n, x, y, ex, ey, p⟩ := g j T e
  exact ⟨n, x, y, ex, ey, k _ _ n p⟩
theorem Gave.snoc {h : Heap} {ban : List Addr} {xs ys : Array Value} {Ts : List Addr} {T : Addr} {x y : Value} (g : Gave h ban xs ys Ts) (n : T ∉ ban) (ex : xs[Ts.length]? = some x) (ey : ys[Ts.length]? = some y) (p : IsPair h T x y) : Gave h ban xs ys (Ts ++ [T]) := fun j T' e => by
  rcases Nat.lt_trichotomy j Ts.length with l | l | l
  · rw [List.getElem?_append_left l] at e
    exact g j T' e
  · rw [l, List.getElem?_append_right (Nat.le_refl _), Nat.sub_self] at e
    cases e
    exact ⟨n, x, y, l ▸ ex, l ▸ ey, p⟩
  · rw [List.getElem?_append_right (by omega)] at e
    rw [List.getElem?_eq_none (by simp; omega)] at e
    cases e
section
variable {prog : Program} {w : World} {A : Around} {E : Value → Shared → Prop} {z TI TO i1 i2 l1 l2 S : Addr} {xs ys : Array Value}
abbrev listAt (h : Heap) (S : Addr) (vs : Array Value) (c : Nat) : Prop := h.get? S = some { cls := .type "list", dict := none, data := .seq vs c, slots := #[] }
theorem zip_turn {s : Shared} {k : Nat} {Ts : List Addr} {x y : Value} {Q : Option Value → Shared → Prop} (D : ZipApart z TI TO i1 i2 l1 l2) (st : Zst s.heap z TI TO i1 i2 l1 l2 xs ys k Ts) (hT : ∀ T ∈ Ts, ∃ o, s.heap.get? T = some o) (hx : xs[k]? = some x) (hy : ys[k]? = some y)
    (hQ : ∀ h', Zst h' z TI TO i1 i2 l1 l2 xs ys (k + 1) (Ts ++ [s.heap.objs.size]) → IsPair h' s.heap.objs.size x y → (∀ b o, b ∉ [z, TO, i1, i2] → s.heap.get? b = some o → h'.get? b = some o) → Q (some (.ref s.heap.objs.size)) { s with heap := h' }) :
    wpAny (model prog w) A (pyNext (.ref z)) Q E s := by
  obtain ⟨zs, p1, ⟨a, b, p2⟩, ⟨t1, t2⟩, q1, q2⟩ := st
  rcases zs with ⟨z0, _⟩ | ⟨T, mT, f, zh⟩
  · refine wpAny_pyNext_zip_item D z0 p1 p2 t1 t2 q1 q2 hx hy fun h' a1 a2 a3 a4 a5 _ kp => hQ h' ⟨.inr ⟨_, List.mem_append_right _ (List.mem_singleton.mpr rfl), false, a1⟩, kp _ _ D.TIz D.TITO D.TIi1 D.TIi2 p1, ⟨_, _, a2⟩, ⟨a3, a4⟩, q1.at fun o e => kp _ o D.l1z D.l1TO D.l1i1 D.l1i2 e, q2.at fun o e => kp _ o D.l2z D.l2TO D.l2i1 D.l2i2 e⟩ a5 fun b o nb e => ?_
    simp only [List.mem_cons, List.not_mem_nil, or_false, not_or] at nb
    exact kp b o nb.1 nb.2.1 nb.2.2.1 nb.2.2.2 e
  · obtain ⟨o, eo⟩ := hT T mT
    refine wpAny_pyNext_zip_item_held D zh eo p1 t1 t2 q1 q2 hx hy fun h' a1 a3 a4 a5 _ kp => hQ h' ⟨.inr ⟨T, List.mem_append_left _ mT, true, a1⟩, kp _ _ D.TIz D.TIi1 D.TIi2 p1, ⟨_, _, kp _ _ D.TOz D.TOi1 D.TOi2 p2⟩, ⟨a3, a4⟩, q1.at fun o e => kp _ o D.l1z D.l1i1 D.l1i2 e, q2.at fun o e => kp _ o D.l2z D.l2i1 D.l2i2 e⟩ a5 fun b o nb e => ?_
    simp only [List.mem_cons, List.not_mem_nil, or_false, not_or] at nb
    exact kp b o nb.1 nb.2.2.1 nb.2.2.2 e
theorem zip_over {s : Shared} {k : Nat} {Ts : List Addr} {Q : Option Value → Shared → Prop} (hh : A.handled = none) (D : ZipApart z TI TO i1 i2 l1 l2) (st : Zst s.heap z TI TO i1 i2 l1 l2 xs ys k Ts) (hT : ∀ T ∈ Ts, ∃ o, s.heap.get? T = some o) (hx : xs[k]? = none)
    (hQ : ∀ h', (∀ b o, b ∉ [z, TO, i1, i2] → s.heap.get? b = some o → h'.get? b = some o) → Q none { s with heap := h' }) : wpAny (model prog w) A (pyNext (.ref z)) Q E s := by
  obtain ⟨zs, p1, ⟨a, b, p2⟩, ⟨t1, t2⟩, q1, q2⟩ := st
  rcases zs with ⟨z0, _⟩ | ⟨T, mT, f, zh⟩
  · refine wpAny_pyNext_zip_end hh D z0 p1 p2 t1 t2 q1 q2 (.inl hx) fun h' kp => hQ h' fun b o nb e => ?_
    simp only [List.mem_cons, List.not_mem_nil, or_false, not_or] at nb
    exact kp b o nb.1 nb.2.1 nb.2.2.1 nb.2.2.2 e
  · obtain ⟨o, eo⟩ := hT T mT
    refine wpAny_pyNext_zip_end_held hh D zh eo p1 t1 t2 q1 q2 (.inl hx) fun h' kp => hQ h' fun b o nb e => ?_
    simp only [List.mem_cons, List.not_mem_nil, or_false, not_or] at nb
    exact kp b o nb.1 nb.2.2.1 nb.2.2.2 e
theorem Zst.keep {h h' : Heap} {k : Nat} {Ts : List Addr} (st : Zst h z TI TO i1 i2 l1 l2 xs ys k Ts) (kp : ∀ b o, b ≠ S → h.get? b = some o → h'.get? b = some o) (n : S ∉ [z, TI, TO, i1, i2, l1, l2]) : Zst h' z TI TO i1 i2 l1 l2 xs ys k Ts := by
  simp only [List.mem_cons, List.not_mem_nil, or_false, not_or] at n
  obtain ⟨n1, n2, n3, n4, n5, n6, n7⟩ := n
  obtain ⟨zs, p1, ⟨a, b, p2⟩, ⟨t1, t2⟩, q1, q2⟩ := st
  refine ⟨?_, kp _ _ (Ne.symm n2) p1, ⟨a, b, kp _ _ (Ne.symm n3) p2⟩, ⟨t1.at fun o e => kp _ o (Ne.symm n4) e, t2.at fun o e => kp _ o (Ne.symm n5) e⟩, q1.at fun o e => kp _ o (Ne.symm n6) e, q2.at fun o e => kp _ o (Ne.symm n7) e⟩
  rcases zs with ⟨z0, e⟩ | ⟨T, mT, f, zh⟩
  · exact .inl ⟨kp _ _ (Ne.symm n1) z0, e⟩
  · exact .inr ⟨T, mT, f, kp _ _ (Ne.symm n1) zh⟩
theorem zip_loop {R : Result → Shared → Prop} (hh : A.handled = none) (D : ZipApart z TI TO i1 i2 l1 l2) (nS : S ∉ [z, TI, TO, i1, i2, l1, l2]) (hn : xs.size = ys.size) (hz : xs.size ≤ 1000) (res : Value) :
    ∀ (m k : Nat) (s : Shared) (Ts : List Addr) (c : Nat), xs.size - k = m → k ≤ xs.size → Ts.length = k → Zst s.heap z TI TO i1 i2 l1 l2 xs ys k Ts → Gave s.heap [S, z, TO, i1, i2] xs ys Ts → listAt s.heap S (Ts.map Value.ref).toArray c →
    (∀ (h' : Heap) (Us : List Addr) (c' : Nat), (∀ b o, b ∉ [S, z, TO, i1, i2] → s.heap.get? b = some o → h'.get? b = some o) → Us.length = xs.size → (∀ T ∈ Us, T ∈ Ts ∨ s.heap.objs.size ≤ T) → Us.Nodup ∨ True → Gave h' [S, z, TO, i1, i2] xs ys Us → listAt h' S (Us.map Value.ref).toArray c' → R (.ok (.ret res)) { s with heap := h' }) →
    codeAny (model prog w) A (.builtin "list.extend.loop" ⟨[.ref S, .ref z, res], []⟩) R s := by
  have hb : ∀ b, b ∉ [S, z, TO, i1, i2] → b ∉ [z, TO, i1, i2] := fun b h1 h2 => h1 (List.mem_cons_of_mem _ h2)
  intro m
  induction m with
  | zero =>
    intro k s Ts c em le lT st gv lS fin
    have ek : k = xs.size := by omega
    have al : ∀ T ∈ Ts, ∃ o, s.heap.get? T = some o := fun T mT => by
      obtain ⟨j, hj, e⟩ := List.getElem_of_mem mT
      obtain ⟨_, _, _, _, _, p⟩ := gv j T (by rw [List.getElem?_eq_getElem hj, e])
      exact ⟨_, p⟩
    refine codeAny_builtin F.entry_extend_loop ?_
    rw [Around.under_plainId F.plain_extend_loop _]
    show wpAny _ A.in1 (pyNext (.ref z) >>= _) _ _ s
    have sn : S ∉ [z, TO, i1, i2] := fun h => nS (by
      simp only [List.mem_cons, List.not_mem_nil, or_false] at h ⊢
      rcases h with h | h | h | h <;> simp [h])
    refine wpAny_bind (zip_over (A := A.in1) hh D st al (by rw [ek]; simp) fun h' kp => wpAny_pure ?_)
    exact fin h' Ts c (fun b o n e => kp b o (hb b n) e) (by omega) (fun T h => .inl h) (.inr trivial) (gv.keep fun b o n e => kp b o (hb b n) e) (kp _ _ sn lS)
  | succ m ih =>
    intro k s Ts c em le lT st gv lS fin
    have lk : k < xs.size := by omega
    have al : ∀ T ∈ Ts, ∃ o, s.heap.get? T = some o := fun T mT => by
      obtain ⟨j, hj, e⟩ := List.getElem_of_mem mT
      obtain ⟨_, _, _, _, _, p⟩ := gv j T (by rw [List.getElem?_eq_getElem hj, e])
      exact ⟨_, p⟩
    have sn : S ∉ [z, TO, i1, i2] := fun h => nS (by
      simp only [List.mem_cons, List.not_mem_nil, or_false] at h ⊢
      rcases h with h | h | h | h <;> simp [h])
    refine codeAny_builtin F.entry_extend_loop ?_
    rw [Around.under_plainId F.plain_extend_loop _]
    show wpAny _ A.in1 (pyNext (.ref z) >>= _) _ _ s
    have ex : xs[k]? = some xs[k] := Array.getElem?_eq_getElem lk
    have ey : ys[k]? = some (ys[k]'(by omega)) := Array.getElem?_eq_getElem _
    refine wpAny_bind (zip_turn (A := A.in1) D st al ex ey fun h' st' pr kp => ?_)
    have lS' : listAt h' S (Ts.map Value.ref).toArray c := kp _ _ sn lS
    show wpAny _ A.in1 (updateSeq S (·.push (.ref s.heap.objs.size)) >>= _) _ _ _
    have up : ∀ b o, b ≠ S → h'.get? b = some o → (h'.update S (Obj.mapSeq (·.push (Value.ref s.heap.objs.size)))).get? b = some o := fun b o n e => (Heap.get?_update_other _ _ (Ne.symm n)).trans e
    have nT : s.heap.objs.size ∉ [S, z, TO, i1, i2] := fun h => by
      have lt : ∀ {c o}, s.heap.get? c = some o → s.heap.objs.size ≠ c := fun e => Nat.ne_of_gt (Heap.lt_size e)
      obtain ⟨zs, p1, ⟨a, b, p2⟩, ⟨⟨_, t1, _⟩, ⟨_, t2, _⟩⟩, q1, q2⟩ := st
      simp only [List.mem_cons, List.not_mem_nil, or_false] at h
      rcases h with h | h | h | h | h
      · exact lt lS h
      · rcases zs with ⟨z0, _⟩ | ⟨T, mT, f, zh⟩
        · exact lt z0 h
        · exact lt zh h
      · exact lt p2 h
      · exact lt t1 h
      · exact lt t2 h
    have gv' : Gave h' [S, z, TO, i1, i2] xs ys (Ts ++ [s.heap.objs.size]) := (gv.keep fun b o n e => kp b o (hb b n) e).snoc nT (by rw [lT]; exact ex) (by rw [lT]; exact ey) pr
    refine wpAny_bind (wpAny_updateSeq lS' rfl (wpAny_pure ⟨plainId_quiet F.plain_extend_loop _, ih (k + 1) _ (Ts ++ [s.heap.objs.size]) (c + 1) (by omega) lk (by rw [List.length_append, lT]; rfl) (st'.keep up nS) (gv'.keep fun b o n e => up b o (fun z => n (by rw [z]; exact List.mem_cons_self)) e) ?_ fun h'' Us c' kk lU mU _ gU lU' => ?_⟩) ?_ ?_)
    · have := Heap.get?_update_self (Obj.mapSeq (·.push (Value.ref s.heap.objs.size))) lS' rfl
      refine this.trans ?_
      have sz : (((Ts.map Value.ref).toArray.push (Value.ref s.heap.objs.size)).size == (Ts.map Value.ref).toArray.size) = false := by
        rw [Array.size_push]
        exact beq_eq_false_iff_ne.mpr (by omega)
      have ea : (Ts.map Value.ref).toArray.push (Value.ref s.heap.objs.size) = ((Ts ++ [s.heap.objs.size]).map Value.ref).toArray := by simp
      show some (Obj.mapSeq _ _) = _
      unfold Obj.mapSeq
      rw [ea] at sz
      simp only [ea, sz]
      rfl
    · refine fin h'' Us c' (fun b o n e => kk b o n (up b o (fun z => n (by rw [z]; exact List.mem_cons_self)) (kp b o (hb b n) e))) lU (fun T h => ?_) (.inr trivial) gU lU'
      rcases mU T h with h | h
      · rcases List.mem_append.mp h with h | h
        · exact .inl h
        · exact .inr (by rw [List.mem_singleton.mp h]; exact Nat.le_refl _)
      · refine .inr (Nat.le_trans ?_ h)
        have := Heap.lt_size pr
        show s.heap.objs.size ≤ (h'.update S _).objs.size
        have e : (h'.update S (Obj.mapSeq (·.push (Value.ref s.heap.objs.size)))).objs.size = h'.objs.size := Heap.size_update ..
        rw [e]
        exact Nat.le_of_lt this
    · show (Ts.map Value.ref).toArray.size ≤ sizeLine
      simp only [List.size_toArray, List.length_map]
      exact Nat.le_of_lt (small1000 (by omega))
    · show ((Ts.map Value.ref).toArray.push _).size ≤ sizeLine + 1
      simp only [Array.size_push, List.size_toArray, List.length_map]
      have := small1000 (n := Ts.length) (by omega)
      omega

/-- the list of what a zip gives -/
theorem zip_collect {s : Shared} {Q : List Value → Shared → Prop} (hh : A.handled = none) (D : ZipApart z TI TO i1 i2 l1 l2) (hn : xs.size = ys.size) (hz : xs.size ≤ 1000) (st : Zst s.heap z TI TO i1 i2 l1 l2 xs ys 0 [])
    (hQ : ∀ (h' : Heap) (Us : List Addr), (∀ b o, b ∉ [z, TO, i1, i2] → s.heap.get? b = some o → h'.get? b = some o) → Us.length = xs.size → (∀ T ∈ Us, s.heap.objs.size ≤ T) → Gave h' [z, TO, i1, i2] xs ys Us → Q (Us.map Value.ref) { s with heap := h' }) :
    wpAny (model prog w) A (collect (.ref z)) Q E s := by
  have lt : ∀ {c o}, s.heap.get? c = some o → s.heap.objs.size ≠ c := fun e => Nat.ne_of_gt (Heap.lt_size e)
  have z0 : IsZip s.heap z TI TO .none := by
    rcases st.1 with ⟨h, _⟩ | ⟨_, h, _⟩
    · exact h
    · exact absurd h List.not_mem_nil
  have nS : s.heap.objs.size ∉ [z, TI, TO, i1, i2, l1, l2] := fun h => by
    obtain ⟨_, p1, ⟨a, b, p2⟩, ⟨⟨_, t1, _⟩, ⟨_, t2, _⟩⟩, ⟨_, q1, _⟩, ⟨_, q2, _⟩⟩ := st
    simp only [List.mem_cons, List.not_mem_nil, or_false] at h
    rcases h with h | h | h | h | h | h | h
    · exact lt z0 h
    · exact lt p1 h
    · exact lt p2 h
    · exact lt t1 h
    · exact lt t2 h
    · exact lt q1 h
    · exact lt q2 h
  unfold collect
  refine wpAny_bind (wpAny_runValue (codeAny_builtin F.entry_proto_collect ?_))
  rw [Around.under_plainId F.plain_proto_collect _]
  show wpAny _ A.in1 (newList [] >>= fun l => again (.builtin "list.__iadd__" ⟨[l, .ref z], []⟩)) _ _ s
  refine wpAny_bind (wpAny_newObj_type ?_)
  refine wpAny_pure ⟨plainId_quiet F.plain_list_iadd _, codeAny_builtin F.entry_list_iadd ?_⟩
  rw [Around.under_plainId F.plain_list_iadd _]
  obtain ⟨S, eS⟩ : ∃ S, S = s.heap.objs.size := ⟨_, rfl⟩
  rw [← eS] at nS lt ⊢
  obtain ⟨g, eg⟩ : ∃ g : Heap, g = s.heap.push { cls := .type "list", data := .seq ([] : List Value).toArray } := ⟨_, rfl⟩
  rw [← eg]
  have up : ∀ b o, s.heap.get? b = some o → g.get? b = some o := fun b o e => by rw [eg]; exact Heap.get?_push_of_some _ e
  have gS : listAt g S #[] 0 := by
    rw [eg, eS]
    exact Heap.get?_push_size _ rfl
  have gz : IsZip g z TI TO .none := up _ _ z0
  have ty : ({ s with heap := g } : Shared).TypeIs (.ref z) "zip" := ⟨_, gz, rfl⟩
  have nz : S ≠ z := fun e => nS (by simp [e])
  show wpAny _ A.in1 (Builtin.List.listExtendWith (.ref S) (.ref z) (.ref S)) _ _ { s with heap := g }
  unfold Builtin.List.listExtendWith
  refine wpAny_bind (wpAny_typeOf ty ?_)
  have k1 : Builtin.List.listSameRef (.ref S) (.ref z) = false := by simp [Builtin.List.listSameRef, nz]
  have k2 : (Value.type "zip" == Value.type "list") = false := by decide
  have k3 : (Value.type "zip" == Value.type "tuple") = false := by decide
  simp only [k1, k2, k3, Bool.or_false, Bool.false_eq_true, if_false]
  refine wpAny_bind (wpAny_pyIter_zip (s := { s with heap := g }) gz ?_)
  refine wpAny_bind (wpAny_holding ?_)
  unfold Builtin.List.listLengthHint
  refine wpAny_bind (wpAny_specialOf ty zip_len0 ?_)
  show wpAny _ A.in1 (specialOf (Value.ref z) (Str.ofString "__length_hint__") >>= _) _ _ _
  refine wpAny_bind (wpAny_specialOf ty zip_hint0 ?_)
  refine wpAny_pure ?_
  show wpAny _ A.in1 (rule "list.extend.makes-room" >>= fun _ => Builtin.List.listTouch (.ref S) >>= fun _ => again (.builtin "list.extend.loop" ⟨[.ref S, .ref z, .ref S], []⟩)) _ _ _
  refine wpAny_bind (wpAny_rule (wpAny_bind ?_))
  show wpAny _ A.in1 (updateSeq S (·.push .none) >>= fun _ => updateSeq S (·.pop)) _ _ _
  refine wpAny_bind (wpAny_updateSeq (s := { s with heap := g }) gS rfl ?_)
  have g2 := Heap.get?_update_self (Obj.mapSeq (·.push Value.none)) gS rfl
  refine wpAny_updateSeq g2 rfl ?_
  have g3 := Heap.get?_update_self (Obj.mapSeq (·.pop)) g2 rfl
  have oth : ∀ b o, b ≠ S → g.get? b = some o → ((g.update S (Obj.mapSeq (·.push Value.none))).update S (Obj.mapSeq (·.pop))).get? b = some o := fun b o n e => (Heap.get?_update_other _ _ (Ne.symm n)).trans ((Heap.get?_update_other _ _ (Ne.symm n)).trans e)
  have st' : Zst ((g.update S (Obj.mapSeq (·.push Value.none))).update S (Obj.mapSeq (·.pop))) z TI TO i1 i2 l1 l2 xs ys 0 [] := by
    refine Zst.keep (S := S) (h := g) ?_ oth nS
    obtain ⟨_, p1, ⟨a, b, p2⟩, ⟨t1, t2⟩, q1, q2⟩ := st
    exact ⟨.inl ⟨gz, rfl⟩, up _ _ p1, ⟨a, b, up _ _ p2⟩, ⟨t1.at fun o e => up _ o e, t2.at fun o e => up _ o e⟩, q1.at fun o e => up _ o e, q2.at fun o e => up _ o e⟩
  have sz : ((g.update S (Obj.mapSeq (·.push Value.none))).update S (Obj.mapSeq (·.pop))).objs.size = s.heap.objs.size + 1 := by
    have a1 : ((g.update S (Obj.mapSeq (·.push Value.none))).update S (Obj.mapSeq (·.pop))).objs.size = (g.update S (Obj.mapSeq (·.push Value.none))).objs.size := Heap.size_update ..
    have a2 : (g.update S (Obj.mapSeq (·.push Value.none))).objs.size = g.objs.size := Heap.size_update ..
    rw [a1, a2, eg, Heap.size_push]
  refine wpAny_pure ⟨plainId_quiet F.plain_extend_loop _, zip_loop hh D nS hn hz _ xs.size 0 _ [] _ (by omega) (Nat.zero_le _) rfl st' (fun j T e => by simp at e) g3 fun h' Us c' kp lU mU _ gU lU' => ?_⟩
  have nb : ∀ {b o}, s.heap.get? b = some o → b ≠ S := fun e z => lt e z.symm
  show wpAny _ A (load S >>= _) _ _ { s with heap := h' }
  refine wpAny_bind (wpAny_load lU' (wpAny_pure ?_))
  refine hQ h' Us (fun b o n e => kp b o (fun m => ?_) (oth b o (nb e) (up b o e))) lU (fun T h => ?_) fun j T e => ?_
  · rcases List.mem_cons.mp m with m | m
    · exact nb e m
    · exact n m
  · rcases mU T h with h | h
    · exact absurd h List.not_mem_nil
    · have : s.heap.objs.size + 1 ≤ T := by rw [← sz]; exact h
      exact Nat.le_of_succ_le this
  · obtain ⟨n, x, y, ex, ey, p⟩ := gU j T e
    exact ⟨fun m => n (List.mem_cons_of_mem _ m), x, y, ex, ey, p⟩
theorem zip_tuple {s : Shared} {Q : Value → Shared → Prop} (hh : A.handled = none) (D : ZipApart z TI TO i1 i2 l1 l2) (hn : xs.size = ys.size) (hz : xs.size ≤ 1000) (st : Zst s.heap z TI TO i1 i2 l1 l2 xs ys 0 [])
    (hQ : ∀ (h' : Heap) (Us : List Addr), (∀ b o, b ∉ [z, TO, i1, i2] → s.heap.get? b = some o → h'.get? b = some o) → Us.length = xs.size → (∀ T ∈ Us, s.heap.objs.size ≤ T) → Gave h' [z, TO, i1, i2] xs ys Us →
      Q (.ref h'.objs.size) { s with heap := h'.push { cls := .type "tuple", data := .seq (Us.map Value.ref).toArray } }) :
    wpAny (model prog w) A (call (.type "tuple") [.ref z]) Q E s := by
  refine callType_codes (Q₁ := fun o t => t.TypeIs o "tuple" ∧ Q o t) F.called_tuple (F.typeCall_tuple_1 _) F.entry_object_init ?_ fun o t ht => ⟨ht.1, F.args_object_init_2 o _, object_init_meets F.called_tuple.init.lookup F.called_tuple.made (by decide) prog w A.in1 _ t ⟨ht.1, rfl, ht.2⟩⟩
  have z0 : IsZip s.heap z TI TO .none := by
    rcases st.1 with ⟨h, _⟩ | ⟨_, h, _⟩
    · exact h
    · exact absurd h List.not_mem_nil
  have ty : s.TypeIs (.ref z) "zip" := ⟨_, z0, rfl⟩
  refine codeAny_of_tree ?_
  show wpAny _ A.in1.in1 (do checkBuiltinCall "tuple.__new__" ⟨[.type "tuple", .ref z], []⟩; again (.builtin "tuple.__new__" ⟨[.type "tuple", .ref z], []⟩)) _ _ s
  refine wpAny_bind (wpAny_of_eq (F.newCall_tuple_1 _) (wpAny_pure ⟨plainId_quiet F.plain_tuple_new _, codeAny_builtin F.entry_tuple_new ?_⟩))
  rw [Around.under_plainId F.plain_tuple_new _]
  have f1 := sub_tuple_self
  have f2 := init_tuple_lookup
  have f3 := madeHere_tuple
  have hh2 : A.in1.in1.handled = none := hh
  wp_walk using wpAny_typeOf ty, zip_collect (A := A.in1.in1) hh2 D hn hz st
  intro h' Us kp lU mU gU
  show wpAny _ _ (Builtin.Tuple.tupleExact (Us.map Value.ref).toArray >>= fun v => ret v) _ _ _
  unfold Builtin.Tuple.tupleExact
  refine wpAny_bind (wpAny_newObj_type (wpAny_pure ⟨⟨_, Heap.get?_push_size _ rfl, rfl⟩, hQ h' Us kp lU mU gU⟩) ?_)
  show (Us.map Value.ref).toArray.size ≤ sizeLine
  rw [List.size_toArray, List.length_map, lU]
  exact Nat.le_of_lt (small1000 hz)
end

section
variable {X : Cx} {pins : List (Addr × Obj)} {σ : L2.St} {H H' : Hp} {s : Shared}
/-- some objects laid and tracked at once -/
theorem inv_laid {h' : Heap} {t' : Nat} (I : Inv X pins σ H s) (k : ∀ b u, s.heap.get? b = some u → h'.get? b = some u) (old : ∀ b u, H b = some u → H' b = some u) (new : ∀ b u, H' b = some u → H b = some u ∨ (s.heap.objs.size ≤ b ∧ ObjOk X.prog X.w H' h' b u)) :
    Inv X pins σ H' { s with heap := h', toks := t' } := by
  refine I.un ⟨fun b o q _ _ _ => k b o q, fun b o q _ _ _ => ⟨o.slots, k b o q⟩, fun b o q n _ => ?_, fun b o q _ => ⟨o, k b o q⟩, fun b xs q => old _ _ q, fun b o u q => old _ _ q, fun b ps q => ⟨#[], by rw [old _ _ q]; simp⟩⟩ fun b u e => ?_
  · cases e : H' b with
    | none => rfl
    | some u =>
      rcases new b u e with h | ⟨h, _⟩
      · rw [n] at h
        cases h
      · exact absurd (Nat.lt_of_lt_of_le (Heap.lt_size q) h) (Nat.lt_irrefl _)
  · rcases new b u e with h | ⟨_, h⟩
    · exact (I.hok b u h).stay (fun c v _ q => k c v q) (fun c q => old _ _ q) fun c xs q => old _ _ q
    · exact h
/-- tuple(zip(a, b)) of two lists -/
def tTupZip (K : PySem.W.Frag) (ta : TA) : TE := fun σ H Q => ta σ H fun vs H1 => ∃ a b xs ys, vs = [.ref a, .ref b] ∧ SqL K H1 a xs ∧ SqL K H1 b ys ∧ xs.length = ys.length ∧ xs.length ≤ 1000 ∧
  ∀ H2 q (Us : List Addr), Same H1 H2 → H1 q = none → H2 q = some (.tup (Us.map V.ref)) → Us.length = xs.length → (∀ (j : Nat) T, Us[j]? = some T → ∃ x y, xs[j]? = some x ∧ ys[j]? = some y ∧ H2 T = some (.tup [x, y])) → Q (.ref q) H2
theorem pe_tupZip {e e2 : Expr} {ta : TA} {p p2 pos pos2 : Pos} (hc : X.calm = true) (hg : Gl X "tuple") (hm : X.mg "tuple" = none) (hg2 : Gl X "zip") (hm2 : X.mg "zip" = none) (ha : PA X [e, e2] ta)
    (hs : starEach [e, e2] X.env = (false, eval e X.env) :: starEach [e2] X.env := by rfl) (hpl : (backTo pos2 (starEach [e2] X.env)).any (·.1) = false := by rfl)
    (hs1 : starEach [.Call (.Name "zip" p2) [e, e2] [] pos2] X.env = (false, eval (.Call (.Name "zip" p2) [e, e2] [] pos2) X.env) :: starEach [] X.env := by rfl) :
    PE X (.Call (.Name "tuple" p) [.Call (.Name "zip" p2) [e, e2] [] pos2] [] pos) (tTupZip X.K ta) := by
  refine ⟨fun pins s σ H Q I h => ?_⟩
  refine Call_ (ld_blt I hg hm boot_tuple (PyProof.Rows.callWith_type1 (args_cons ?_ hs1) hs1))
  refine Call_ (ld_blt I hg2 hm2 PyProof.Rows.boot_zip (PyProof.Rows.callWith_type1 (thn (ha.run pos2 pins s σ H _ I h) fun us s1 h1 => ?_) hs hpl))
  obtain ⟨vs, H1, I1, r1, a, b, xs, ys, rfl, ha1, hb1, hl, h1000, q⟩ := h1
  obtain ⟨u1, us, rfl, ru1, r2⟩ : ∃ u us', us = u :: us' ∧ RelV (.ref a) u ∧ Vals [V.ref b] us' := by
    cases r1 with
    | cons r rr => exact ⟨_, _, rfl, r, rr⟩
  obtain ⟨u2, rfl, ru2⟩ : ∃ u, us = [u] ∧ RelV (.ref b) u := by
    cases r2 with
    | cons r rr =>
      cases rr
      exact ⟨_, rfl, r⟩
  obtain rfl : u1 = Value.ref a := ru1
  obtain rfl : u2 = Value.ref b := ru2
  obtain ⟨is1, v1, p1, _⟩ := I1.list ha1
  obtain ⟨is2, v2, p2', _⟩ := I1.list hb1
  have e1 : is1.length = xs.length := v1.length.symm
  have e2' : is2.length = ys.length := v2.length.symm
  refine call_zip_2 p1.isList p2'.isList fun h' hz hTI hTO t1 t2 hsz hk => args_nil ?_
  have D := PySem.W.ktu_apart s1.heap.objs.size a b p1.lt p2'.lt
  have st : Zst h' (s1.heap.objs.size + 4) (s1.heap.objs.size + 2) (s1.heap.objs.size + 3) s1.heap.objs.size (s1.heap.objs.size + 1) a b is1.toArray is2.toArray 0 [] :=
    ⟨.inl ⟨hz, rfl⟩, hTI, ⟨_, _, hTO⟩, ⟨t1, t2⟩, p1.isList.at fun o e => hk _ o e, p2'.isList.at fun o e => hk _ o e⟩
  have hh : X.A.handled = none := I1.ok.hd hc
  refine zip_tuple (s := { s1 with heap := h' }) hh D (by simp only [List.size_toArray]; omega) (by simp only [List.size_toArray]; omega) st fun g Us kp lU mU gU => ?_
  have lU' : Us.length = xs.length := by
    rw [lU, List.size_toArray]
    omega
  have old : ∀ b' o, s1.heap.get? b' = some o → g.get? b' = some o := fun b' o e => by
    have l := Heap.lt_size e
    refine kp b' o (fun m => ?_) (hk b' o e)
    simp only [List.mem_cons, List.not_mem_nil, or_false] at m
    have l' : b' < s1.heap.objs.size := l
    rcases m with m | m | m | m <;> (rw [m] at l'; first | exact absurd l' (Nat.lt_irrefl _) | exact absurd l' (Nat.not_lt.mpr (Nat.le_add_right _ _)))
  have big : ∀ T ∈ Us, s1.heap.objs.size ≤ T := fun T hT => by
    have := mU T hT
    have h5 : h'.objs.size ≤ T := this
    rw [hsz] at h5
    exact Nat.le_trans (Nat.le_add_right _ _) h5
  have gsz : s1.heap.objs.size ≤ g.objs.size := by
    have := Heap.lt_size (kp _ _ (fun m => by
      simp only [List.mem_cons, List.not_mem_nil, or_false] at m
      rcases m with m | m | m | m
      · exact D.TIz m
      · exact D.TITO m
      · exact D.TIi1 m
      · exact D.TIi2 m) hTI)
    exact Nat.le_trans (Nat.le_add_right _ _) (Nat.le_of_lt this)
  have idx : ∀ T ∈ Us, ∃ (j : Nat) (x y : V) (u v : Value), Us[j]? = some T ∧ xs[j]? = some x ∧ ys[j]? = some y ∧ RelV x u ∧ RelV y v ∧ IsPair g T u v := fun T hT => by
    obtain ⟨j, hj, e⟩ := List.getElem_of_mem hT
    have ej : Us[j]? = some T := by rw [List.getElem?_eq_getElem hj, e]
    obtain ⟨_, u, v, eu, ev, pr⟩ := gU j T ej
    have eu' : is1[j]? = some u := by simpa using eu
    have ev' : is2[j]? = some v := by simpa using ev
    have jx : j < xs.length := by
      have := (List.getElem?_eq_some_iff.mp eu').1
      omega
    have jy : j < ys.length := by omega
    obtain ⟨u', ru, hu⟩ := v1.get (List.getElem?_eq_getElem jx)
    obtain ⟨v', rv, hv⟩ := v2.get (List.getElem?_eq_getElem jy)
    rw [eu'] at ru
    rw [ev'] at rv
    cases ru
    cases rv
    exact ⟨j, xs[j], ys[j], u, v, ej, List.getElem?_eq_getElem jx, List.getElem?_eq_getElem jy, hu, hv, pr⟩
  let H2 : Hp := fun c => if c = g.objs.size then some (.tup (Us.map V.ref)) else if h : c ∈ Us then some (.tup [(idx c h).choose_spec.choose, (idx c h).choose_spec.choose_spec.choose]) else H1 c
  have nUg : ∀ T ∈ Us, T ≠ g.objs.size := fun T hT => by
    obtain ⟨_, _, _, _, _, _, _, _, _, _, pr⟩ := idx T hT
    exact Nat.ne_of_lt (Heap.lt_size pr)
  have atq : H2 g.objs.size = some (.tup (Us.map V.ref)) := if_pos rfl
  have atT : ∀ (j : Nat) (T : Addr), Us[j]? = some T → ∃ x y, xs[j]? = some x ∧ ys[j]? = some y ∧ H2 T = some (.tup [x, y]) := fun j T ej => by
    have hT := List.mem_of_getElem? ej
    obtain ⟨_, u, v, eu, ev, pr⟩ := gU j T ej
    have eu' : is1[j]? = some u := by simpa using eu
    have ev' : is2[j]? = some v := by simpa using ev
    have jx : j < xs.length := by
      have := (List.getElem?_eq_some_iff.mp eu').1
      omega
    have jy : j < ys.length := by omega
    obtain ⟨u', ru, hu⟩ := v1.get (List.getElem?_eq_getElem jx)
    obtain ⟨v', rv, hv⟩ := v2.get (List.getElem?_eq_getElem jy)
    rw [eu'] at ru
    rw [ev'] at rv
    cases ru
    cases rv
    refine ⟨xs[j], ys[j], List.getElem?_eq_getElem jx, List.getElem?_eq_getElem jy, ?_⟩
    have e2 : H2 T = some (.tup [(idx T hT).choose_spec.choose, (idx T hT).choose_spec.choose_spec.choose]) := (if_neg (nUg T hT)).trans (dif_pos hT)
    obtain ⟨u2, v2', _, _, _, hu2, hv2, pr2⟩ := (idx T hT).choose_spec.choose_spec.choose_spec
    rw [e2]
    have ed := congrArg Obj.data (Option.some.inj (pr.symm.trans pr2))
    injection ed with ea _
    have el := congrArg Array.toList ea
    have el' : [u, v] = [u2, v2'] := el
    injection el' with eu2 el2
    injection el2 with ev2 _
    subst eu2
    subst ev2
    rw [RelV.inj hu hu2, RelV.inj hv hv2]
  have sam : ∀ c u, H1 c = some u → H2 c = some u := fun c u e => by
    have l : c < s1.heap.objs.size := (I1.hok c u e).lt
    have n1 : c ≠ g.objs.size := Nat.ne_of_lt (Nat.lt_of_lt_of_le l gsz)
    have n2 : c ∉ Us := fun m => absurd (Nat.lt_of_lt_of_le l (big c m)) (Nat.lt_irrefl _)
    exact (if_neg n1).trans ((dif_neg n2).trans e)
  refine ⟨.ref g.objs.size, H2, ?_, rfl, q H2 _ Us sam (I1.hok.fresh gsz) atq lU' atT⟩
  show Inv X pins σ H2 { s1 with heap := g.push { cls := .type "tuple", data := .seq (Us.map Value.ref).toArray }, toks := s1.toks }
  refine inv_laid (t' := s1.toks) I1 (fun c o e => Heap.get?_push_of_some _ (old c o e)) sam fun c u e => ?_
  by_cases c1 : c = g.objs.size
  · subst c1
    rw [atq] at e
    cases e
    refine .inr ⟨gsz, ?_, Us.map Value.ref, vals_refs Us, IsTup.new _ _⟩
    rw [List.length_map, lU']
    exact Nat.le_of_lt (small1000 h1000)
  · by_cases c2 : c ∈ Us
    · obtain ⟨j, hj, ec⟩ := List.getElem_of_mem c2
      have ej : Us[j]? = some c := by rw [List.getElem?_eq_getElem hj, ec]
      obtain ⟨x, y, ex, ey, e2⟩ := atT j c ej
      rw [e2] at e
      cases e
      obtain ⟨_, u, v, eu, ev, pr⟩ := gU j c ej
      have eu' : is1[j]? = some u := by simpa using eu
      have ev' : is2[j]? = some v := by simpa using ev
      obtain ⟨u', ru, hu⟩ := v1.get ex
      obtain ⟨v', rv, hv⟩ := v2.get ey
      rw [eu'] at ru
      rw [ev'] at rv
      cases ru
      cases rv
      refine .inr ⟨big c c2, (show 2 ≤ sizeLine by decide), [u, v], .cons hu (.cons hv .nil), ?_⟩
      exact ⟨_, Heap.get?_push_of_some _ pr, rfl, _, rfl⟩
    · exact .inl (((if_neg c1).trans (dif_neg c2)).symm.trans e)
/-- a value whose object is locked from here on -/
def tFrz (t : TE) : TE := fun σ H Q => t σ H fun v H1 => ∃ d u, v = .ref d ∧ H1 d = some u ∧ Mut (some u) ∧ ∀ od, Q v (upd H1 d (.frz od u))
theorem pe_frz {e : Expr} {t : TE} (h : PE X e t) : PE X e (tFrz t) := by
  refine ⟨fun pins s σ H Q I q => thn (h.run pins s σ H _ I q) fun u s1 h1 => ?_⟩
  obtain ⟨x, H1, I1, rx, d, o, rfl, ed, mu, q⟩ := h1
  obtain ⟨od, I2⟩ := I1.lock ed mu
  exact ⟨_, _, I2, rx, q od⟩
end
end NB

set_option Elab.async false
set_option linter.all false
set_option maxRecDepth 100000
namespace K19
open PySem PySem.Spec PyProof.Rows L2 NB

/-! ### what chains lead to: dicts of sides -/
def KS (s : Sd) : List Key := [.inl (s.1 : Int), .inr (word s.2.1), .inl s.2.2]
theorem word_inj {a b : Bool} (h : word a = word b) : a = b := by
  revert h
  cases a <;> cases b <;> decide +kernel
theorem KS_inj {s t : Sd} (h : KS s = KS t) : s = t := by
  obtain ⟨i, b, p⟩ := s
  obtain ⟨j, c, q⟩ := t
  unfold KS at h
  injection h with h1 h2
  injection h2 with h2 h3
  injection h3 with h3 _
  injection h1 with h1
  injection h2 with h2
  injection h3 with h3
  have h1' : (i : Int) = j := h1
  have e1 : i = j := by omega
  have e2 : b = c := word_inj h2
  have e3 : p = q := h3
  rw [e1, e2, e3]
/-- tuples stay -/
def KT (H H' : Hp) : Prop := ∀ b xs, H b = some (.tup xs) → H' b = some (.tup xs)
theorem KT.of {H H' : Hp} (k : Keep H H') : KT H H' := fun b xs e => k.tup e
theorem KT.same {H H' : Hp} (s : Same H H') : KT H H' := fun b xs e => s _ _ e
theorem KT.trans {H H1 H2 : Hp} (a : KT H H1) (b : KT H1 H2) : KT H H2 := fun c xs e => b c xs (a c xs e)
theorem KT.refl (H : Hp) : KT H H := fun _ _ e => e
theorem KT.upd {H : Hp} {d : Addr} {o o' : HO} (e : H d = some o) (n : ∀ xs, o ≠ .tup xs) : KT H (upd H d o') := fun b xs q => by
  rw [upd_ne (fun z => by
    rw [z, e] at q
    cases q
    exact n _ rfl)]
  exact q
theorem SideAt.kt {H H' : Hp} {p : Addr} {s : Sd} (h : SideAt H p s) (k : KT H H') : SideAt H' p s := k _ _ h
theorem OthAt.kt {H H' : Hp} {v : V} {o : Option Sd} (h : OthAt H v o) (k : KT H H') : OthAt H' v o := by
  cases o with
  | none => exact h
  | some s =>
    obtain ⟨g, e, hs⟩ := h
    exact ⟨g, e, hs.kt k⟩
theorem SdsAt.kt {H H' : Hp} {L : List (Addr × Sd)} (h : SdsAt H L) (k : KT H H') : SdsAt H' L := fun z hz => (h z hz).kt k
/-- what a dict of sides holds: each with the one ahead of it -/
def AhK (H : Hp) (kvs : List (List Key × V)) (E : List (Sd × Option Sd)) : Prop := Paired (fun kv e => kv.1 = KS e.1 ∧ OthAt H kv.2 e.2) kvs E
theorem AhK.kt {H H' : Hp} {kvs : List (List Key × V)} {E : List (Sd × Option Sd)} (h : AhK H kvs E) (k : KT H H') : AhK H' kvs E := by
  unfold AhK at *
  induction h with
  | nil => exact .nil
  | cons a _ ih => exact .cons ⟨a.1, a.2.kt k⟩ ih
theorem AhK.len {H : Hp} {kvs : List (List Key × V)} {E : List (Sd × Option Sd)} (h : AhK H kvs E) : kvs.length = E.length := Paired.length h
theorem AhK.get {H : Hp} {kvs : List (List Key × V)} {E : List (Sd × Option Sd)} (h : AhK H kvs E) {i : Nat} {kv : List Key × V} (e : kvs[i]? = some kv) : ∃ x, E[i]? = some x ∧ kv.1 = KS x.1 ∧ OthAt H kv.2 x.2 := by
  unfold AhK at h
  induction h generalizing i with
  | nil => simp at e
  | cons a _ ih =>
    cases i with
    | zero => cases e; exact ⟨_, rfl, a⟩
    | succ i => exact ih e
theorem AhK.no {H : Hp} {kvs : List (List Key × V)} {E : List (Sd × Option Sd)} (h : AhK H kvs E) {s : Sd} (n : s ∉ E.map (·.1)) : valV kvs (KS s) = none := by
  unfold AhK at h
  unfold valV
  induction h with
  | nil => rfl
  | @cons kv x l1 l2 a _ ih =>
    rw [List.map_cons, List.mem_cons, not_or] at n
    rw [List.find?_cons, decide_eq_false (fun z => n.1 (KS_inj (a.1.symm.trans z)).symm)]
    exact ih n.2
theorem AhK.at' {H : Hp} {kvs : List (List Key × V)} {E : List (Sd × Option Sd)} (h : AhK H kvs E) (nd : (E.map (·.1)).Nodup) {x : Sd × Option Sd} (m : x ∈ E) : ∃ v, valV kvs (KS x.1) = some v ∧ OthAt H v x.2 := by
  unfold AhK at h
  unfold valV
  induction h with
  | nil => exact absurd m List.not_mem_nil
  | @cons kv y l1 l2 a _ ih =>
    rw [List.map_cons, List.nodup_cons] at nd
    rcases List.mem_cons.mp m with rfl | m
    · rw [List.find?_cons, decide_eq_true a.1]
      exact ⟨_, rfl, a.2⟩
    · have ne : ¬ kv.1 = KS x.1 := fun z => nd.1 (by
        have := KS_inj (a.1.symm.trans z)
        rw [this]
        exact List.mem_map.mpr ⟨x, m, rfl⟩)
      rw [List.find?_cons, decide_eq_false ne]
      exact ih nd.2 m
theorem AhK.isSome {H : Hp} {kvs : List (List Key × V)} {E : List (Sd × Option Sd)} (h : AhK H kvs E) (nd : (E.map (·.1)).Nodup) (s : Sd) : (valV kvs (KS s)).isSome = decide (s ∈ E.map (·.1)) := by
  by_cases c : s ∈ E.map (·.1)
  · obtain ⟨x, hx, rfl⟩ := List.mem_map.mp c
    obtain ⟨v, e, _⟩ := h.at' nd hx
    rw [e, decide_eq_true c]
    rfl
  · rw [h.no c, decide_eq_false c]
    rfl
/-- a dict of sides, all with one value -/
def insS (L : List Sd) (s : Sd) : List Sd := if s ∈ L then L else L ++ [s]
theorem ins_mem {L : List Sd} {s t : Sd} : t ∈ insS L s ↔ t ∈ L ∨ t = s := by
  unfold insS
  split
  · rename_i c
    exact ⟨.inl, fun h => h.elim id fun e => e ▸ c⟩
  · rw [List.mem_append, List.mem_singleton]
theorem ins_nd {L : List Sd} {s : Sd} (h : L.Nodup) : (insS L s).Nodup := by
  unfold insS
  split
  · exact h
  · rename_i c
    rw [List.nodup_append]
    refine ⟨h, by simp, fun a ha b hb e => c ?_⟩
    rw [List.mem_singleton.mp hb] at e
    exact e ▸ ha
theorem ins_len (L : List Sd) (s : Sd) : (insS L s).length ≤ L.length + 1 := by
  unfold insS
  split
  · omega
  · rw [List.length_append]
    exact Nat.le_refl _
theorem put_const (L : List Sd) (s : Sd) (v : V) : putK (L.map fun t => (KS t, v)) (KS s) v = (insS L s).map fun t => (KS t, v) := by
  unfold putK insS
  have e : ((L.map fun t => (KS t, v)).any fun kv => decide (kv.1 = KS s)) = true ↔ s ∈ L := by
    rw [List.any_map, List.any_eq_true]
    constructor
    · rintro ⟨t, ht, h⟩
      exact KS_inj (of_decide_eq_true h) ▸ ht
    · exact fun h => ⟨s, h, decide_eq_true rfl⟩
  by_cases c : s ∈ L
  · rw [if_pos (e.mpr c), if_pos c, List.map_map]
    refine List.map_congr_left fun t _ => ?_
    show (if KS t = KS s then (KS t, v) else (KS t, v)) = (KS t, v)
    split <;> rfl
  · rw [if_neg (fun h => c (e.mp h)), if_neg c, List.map_append]
    rfl
/-- how a dict of what is reached was grown -/
structure Ahd (tops : List Int) (rs : List Rl) (S : List Sd) (E : List (Sd × Option Sd)) : Prop where
  nd : (E.map (·.1)).Nodup
  st : ∀ s ∈ S, s ∈ E.map (·.1)
  n0 : ∀ (i : Nat) (s : Sd), E[i]? = some (s, none) → s ∈ S
  n1 : ∀ (i : Nat) (s a : Sd), E[i]? = some (s, some a) → s ∈ ledL tops rs a ∧ a ∈ (E.take i).map (·.1)
def CloE (tops : List Int) (rs : List Rl) (E : List (Sd × Option Sd)) (n : Nat) : Prop := ∀ x ∈ E.take n, ∀ b ∈ ledL tops rs x.1, b ∈ E.map (·.1)
theorem Ahd.rea {tops : List Int} {rs : List Rl} {S : List Sd} {E : List (Sd × Option Sd)} (A : Ahd tops rs S E) : ∀ (n i : Nat), i < n → ∀ x, E[i]? = some x → Rea tops rs (· ∈ S) x.1 := by
  intro n
  induction n with
  | zero => exact fun i h => absurd h (Nat.not_lt_zero _)
  | succ n ih =>
    intro i hi x ex
    obtain ⟨s, o⟩ := x
    cases o with
    | none => exact .base (A.n0 i s ex)
    | some a =>
      obtain ⟨h1, h2⟩ := A.n1 i s a ex
      obtain ⟨y, hy, ey⟩ := List.mem_map.mp h2
      obtain ⟨j, hj, e⟩ := List.getElem_of_mem hy
      have hj' : j < i := by
        rw [List.length_take] at hj
        omega
      have eE : E[j]? = some y := by
        have : (E.take i)[j]? = some y := by rw [List.getElem?_eq_getElem hj, e]
        rwa [List.getElem?_take_of_lt hj'] at this
      have := ih j (by omega) y eE
      rw [ey] at this
      exact .step this h1
theorem Ahd.mem {tops : List Int} {rs : List Rl} {S : List Sd} {E : List (Sd × Option Sd)} (A : Ahd tops rs S E) (c : CloE tops rs E E.length) {s : Sd} : s ∈ E.map (·.1) ↔ Rea tops rs (· ∈ S) s := by
  constructor
  · intro h
    obtain ⟨x, hx, rfl⟩ := List.mem_map.mp h
    obtain ⟨i, hi, e⟩ := List.getElem_of_mem hx
    exact A.rea (i + 1) i (by omega) x (by rw [List.getElem?_eq_getElem hi, e])
  · intro h
    induction h with
    | base h => exact A.st _ h
    | step _ l ih =>
      obtain ⟨x, hx, rfl⟩ := List.mem_map.mp ih
      exact c x (by rw [List.take_length]; exact hx) _ l
theorem Ahd.grow {tops : List Int} {rs : List Rl} {S : List Sd} {E : List (Sd × Option Sd)} (A : Ahd tops rs S E) {s a : Sd} (n : s ∉ E.map (·.1)) (l : s ∈ ledL tops rs a) (m : a ∈ E.map (·.1)) : Ahd tops rs S (E ++ [(s, some a)]) := by
  refine ⟨?_, fun t ht => ?_, fun i t e => ?_, fun i t b e => ?_⟩
  · rw [List.map_append, List.nodup_append]
    refine ⟨A.nd, by simp, fun x hx y hy e => n ?_⟩
    rw [List.map_cons, List.map_nil, List.mem_singleton] at hy
    have es : x = s := e.trans hy
    exact es ▸ hx
  · rw [List.map_append]
    exact List.mem_append_left _ (A.st t ht)
  · rcases Nat.lt_or_ge i E.length with c | c
    · rw [List.getElem?_append_left c] at e
      exact A.n0 i t e
    · rw [List.getElem?_append_right c] at e
      cases h : i - E.length with
      | zero => rw [h] at e; cases e
      | succ k => rw [h] at e; simp at e
  · rcases Nat.lt_or_ge i E.length with c | c
    · rw [List.getElem?_append_left c] at e
      rw [List.take_append_of_le_length (by omega)]
      exact A.n1 i t b e
    · rw [List.getElem?_append_right c] at e
      cases h : i - E.length with
      | zero =>
        rw [h] at e
        cases e
        have : i = E.length := by omega
        rw [this, List.take_left]
        exact ⟨l, m⟩
      | succ k => rw [h] at e; simp at e
/-- all sides of rules -/
def ruleSds (rs : List Rl) : List Sd := rs.flatMap fun q => [q.1, q.2]
theorem ruleSds_mem {rs : List Rl} {s : Sd} : s ∈ ruleSds rs ↔ RuleSd rs s := by
  unfold ruleSds RuleSd
  rw [List.mem_flatMap]
  constructor
  · rintro ⟨q, hq, h⟩
    simp only [List.mem_cons, List.not_mem_nil, or_false] at h
    exact ⟨q, hq, h⟩
  · rintro ⟨q, hq, h⟩
    exact ⟨q, hq, by simpa using h⟩
theorem ruleSds_len (rs : List Rl) : (ruleSds rs).length = 2 * rs.length := by
  unfold ruleSds
  induction rs with
  | nil => rfl
  | cons q rs ih =>
    rw [List.flatMap_cons, List.length_append, ih]
    simp only [List.length_cons, List.length_nil]
    omega
theorem led_rule {tops : List Int} {rs : List Rl} {a b : Sd} (h : b ∈ ledL tops rs a) : b ∈ ruleSds rs := by
  obtain ⟨q, hq, ⟨_, rfl⟩ | ⟨_, rfl⟩⟩ := led_iff.mp h
  · exact ruleSds_mem.mpr ⟨q, hq, .inr rfl⟩
  · exact ruleSds_mem.mpr ⟨q, hq, .inl rfl⟩
theorem Ahd.few {tops : List Int} {rs : List Rl} {S : List Sd} {E : List (Sd × Option Sd)} (A : Ahd tops rs S E) : E.length ≤ S.length + 2 * rs.length := by
  have h := nodup_len (E.map (·.1)) (S ++ ruleSds rs) A.nd fun s hs => by
    obtain ⟨x, hx, rfl⟩ := List.mem_map.mp hs
    obtain ⟨i, hi, e⟩ := List.getElem_of_mem hx
    obtain ⟨s, o⟩ := x
    have ex : E[i]? = some (s, o) := by rw [List.getElem?_eq_getElem hi, e]
    cases o with
    | none => exact List.mem_append_left _ (A.n0 i s ex)
    | some a => exact List.mem_append_right _ (led_rule (A.n1 i s a ex).1)
  rw [List.length_map, List.length_append, ruleSds_len] at h
  exact h
theorem keys_sds {H : Hp} {v : V} : ∀ {L : List Sd} {bs : List Addr}, IsKeys H (L.map fun t => (KS t, v)) bs → ∃ L0 : List (Addr × Sd), sdR L0 = bs.map V.ref ∧ L0.map (·.2) = L ∧ SdsAt H L0
  | [], bs, h => by
    cases h
    exact ⟨[], rfl, rfl, fun _ h => absurd h List.not_mem_nil⟩
  | s :: L, bs, h => by
    cases h with
    | cons a h =>
      obtain ⟨L0, e1, e2, e3⟩ := keys_sds h
      refine ⟨(_, s) :: L0, congrArg (V.ref _ :: ·) e1, by rw [List.map_cons, e2], fun z hz => ?_⟩
      rcases List.mem_cons.mp hz with rfl | hz
      · exact a
      · exact e3 z hz
theorem ahk_const {H : Hp} : ∀ (L : List Sd), AhK H (L.map fun t => (KS t, V.non)) (L.map fun t => (t, none))
  | [] => .nil
  | s :: L => .cons ⟨rfl, rfl⟩ (ahk_const L)
theorem ahd_const {tops : List Int} {rs : List Rl} {S L : List Sd} (nd : L.Nodup) (m : ∀ s, s ∈ L ↔ s ∈ S) : Ahd tops rs S (L.map fun t => (t, none)) := by
  have e : (L.map fun t => ((t, none) : Sd × Option Sd)).map (·.1) = L := by
    rw [List.map_map]
    exact List.map_id _
  refine ⟨by rw [e]; exact nd, fun s hs => by rw [e]; exact (m s).mpr hs, fun i s h => ?_, fun i s a h => ?_⟩
  · rw [List.getElem?_map] at h
    cases hl : L[i]? with
    | none => rw [hl] at h; cases h
    | some t =>
      rw [hl] at h
      cases h
      exact (m s).mp (List.mem_of_getElem? hl)
  · rw [List.getElem?_map] at h
    cases hl : L[i]? with
    | none => rw [hl] at h; cases h
    | some t => rw [hl] at h; cases h
section
variable {P : Program} {w : World} {K : PySem.W.Frag} {mg : Str → Option Value} {base : Heap}
def spRea (K : PySem.W.Frag) (C : Addr) : Sp := fun vs H Q _ => ∃ (x g : Addr) (tops : List Int) (rs : List Rl) (Ls : List (Addr × Sd)), vs = [.ref x, .ref g] ∧ PlanAt C H x tops rs ∧ SqT K H g (sdR Ls) ∧ SdsAt H Ls ∧ (∀ z ∈ Ls, SideOk tops z.2) ∧ (∀ q ∈ rs, RuleOk tops q) ∧ rs.length ≤ 40 ∧ Ls.length ≤ 200 ∧
  ∀ H' d od kvs E, Same H H' → H d = none → H' d = some (.frz od (.dT kvs)) → AhK H' kvs E → Ahd tops rs (Ls.map (·.2)) E → CloE tops rs E E.length → E.length ≤ 280 → Q (.ref d) H'
abbrev a_reached : Stmt := topS 22
abbrev n_reached : List Str := ["plan", "starts", "side", "ahead", "row", "at", "here"]
theorem sc_reached : FnScope n_reached ["plan", "starts"] (defScope a_reached) := ⟨rfl, rfl, rfl, by decide +kernel, rfl, by decide +kernel, by decide +kernel⟩
set_option maxHeartbeats 8000000 in
theorem ok_reached {f fLr : Addr} {fd fdLr : FuncData} {k : Nat} {C : Addr} (F : Fun K "reached" "reached" a_reached f fd) (Lr : Kn P w K mg base 3 "led_by_rules" ["plan", "side"] (spLed C) fLr fdLr)  (m_len : mg "len" = none) (m_list : mg "list" = none) : FnOk P w K mg base CX0 (k + 4) f fd ["plan", "starts"] (spRea K C) := by
  refine F.ok sc_reached (fun vs H Q E h => ?_) (fun cdv A outer s H vs Q E hr h => ?_)
  · obtain ⟨x, g, tops, rs, Ls, rfl, _⟩ := h
    rfl
  · obtain ⟨x, g, tops, rs, Ls, rfl, hp, eg, hL, okS, rok, l40, l100, q⟩ := h
    refine ⟨_, (pss_cons (ps_dcT (i := 3) (own := [("side", 2)]) (g := (gName 2)) (tk := (tVar 2)) (tv := (tC .non)) (Room.u1 hr) rfl sc_reached.nd (pi_tup (pv 1)) (blkOk_by (N := n_reached) (sc := defScope a_reached) (by decide +kernel))
          (fun _ _ _ _ _ => (pg_name (i := 2) sc_reached.nd rfl (.inl rfl) (hf := .inr rfl))) (fun _ _ _ _ _ => (pv 2)) (fun _ _ _ _ _ => pe_non) rfl rfl (sw_dict rfl rfl rfl (by decide +kernel)))
      (pss_cons (ps_set (i := 4) sc_reached.nd rfl (.inl rfl) (pe_callTy (call_list_dT rfl) (by rfl) m_list (by decide +kernel) (pa_cons (pv 3) pa_nil)))
      (pss_cons (ps_set (i := 5) sc_reached.nd rfl (.inl rfl) pe_int)
      (pss_cons (ps_while PassesOwn.never (pt_cmpR op_lt (pv 5) (pe_callB call_len_seq (by rfl) m_len (by decide +kernel) (pa_cons (pv 4) pa_nil)) (nomark _))
        (pss_cons (ps_set (i := 6) sc_reached.nd rfl (.inl rfl) (pe_ix ix_list (pv 4) (pv 5) (fun _ _ => rfl)))
      (pss_cons (ps_for PassesOwn.never rfl (pi_list (pe_kn Lr hr (by omega) (pa_cons (pv 0) (pa_cons (pv 6) pa_nil)))) (pg_name (i := 2) sc_reached.nd rfl (.inl rfl))
        (pss_one (ps_if (pt_cmp (pc_dnotin (Room.u1 hr) (pv 2) (pv 3))) (pss_cons (ps_dput (Room.u1 hr) (pv 3) (pv 2) (pv 6) rfl)
      (pss_one (ps_expr (pe_bm PySem.F.plainAttrs_list PySem.F.slot_list_append PySem.F.type_list_append mt_append (pv 4) (pa_cons (pv 2) pa_nil))))) pss_nil)))
      (pss_one (ps_aug (i := 5) sc_reached.nd rfl (.inl rfl) pe_int ip_add)))))
      (pss_one (ps_ret (pe_frz (pv 3)))))))), ?_⟩
    -- the dict of the starts
    refine ⟨.ref g, rfl, g, rfl, ⟨_, eg⟩, fun D nD => stp_it (walk_tup (xs := sdR Ls)) (fun i H' => Same H H' ∧ ∃ L : List Sd, H' D = some (.dT (L.map fun t => (KS t, V.non))) ∧ L.Nodup ∧ (∀ s, s ∈ L ↔ s ∈ (Ls.take i).map (·.2)) ∧ L.length ≤ i) ⟨same_new nD, [], upd_same, .nil, (fun s => by simp), Nat.le_refl _⟩ (fun i H' _ y => sameT y.1 eg) (fun i v H1 H2 hi y z => ?_) (fun H1 y => ?_)⟩
    · obtain ⟨s1, L, eD, nd, mL, lL⟩ := y
      obtain ⟨rfl, gv⟩ := z
      obtain ⟨zz, ez, rfl⟩ := mapGet gv
      have hz := List.mem_of_getElem? ez
      refine ⟨wipe_one, .ref zz.1, rfl, _, KS zz.2, zz.1, rfl, (hL zz hz).keep (.same s1), eD, by rw [List.length_map]; exact small1000 (by rw [List.length_map] at hi; omega), same_over s1 nD, insS L zz.2, by rw [upd_same, put_const], ins_nd nd, fun s => ?_, Nat.le_trans (ins_len L zz.2) (by omega)⟩
      rw [ins_mem, mL s, List.take_add_one, ez, List.map_append, List.mem_append]
      simp
    obtain ⟨s1, L, eD, nd, mL, lL⟩ := y
    rw [List.length_map, List.take_length] at mL
    refine ⟨.ref D, rfl, D, _, rfl, .inl eD, fun l bs nl ik => ?_⟩
    obtain ⟨L0, e0, m0, h0⟩ := keys_sds ik
    have sl := same_new (o := HO.lst (bs.map V.ref)) nl
    have eD1 := sl _ _ eD
    have nlH : H l = none := s1.free nl
    have s01 := s1.trans sl
    have el1 : (upd H1 l (.lst (bs.map V.ref))) l = some (.lst (sdR L0)) := by rw [upd_same, e0]
    have h01 := h0.keep (.same sl)
    have nlD : l ≠ D := fun e => by
      rw [e, eD] at nl
      cases nl
    generalize upd H1 l (.lst (bs.map V.ref)) = H2 at eD1 s01 el1 h01 ⊢
    refine ⟨fun m σ H' => ∃ (n : Nat) (u2 u6 : Option V) (kvs : List (List Key × V)) (E : List (Sd × Option Sd)) (L : List (Addr × Sd)), σ = [some (.ref x), some (.ref g), u2, some (.ref D), some (.ref l), some (.int (n : Int)), u6] ∧ m = 1000 - n ∧ n ≤ E.length ∧ Same H H' ∧ H' D = some (.dT kvs) ∧ AhK H' kvs E ∧ H' l = some (.lst (sdR L)) ∧ SdsAt H' L ∧ L.map (·.2) = E.map (·.1) ∧ Ahd tops rs (Ls.map (·.2)) E ∧ CloE tops rs E n,
      ⟨1000, 0, _, _, _, L.map (fun t => (t, none)), L0, rfl, rfl, Nat.zero_le _, s01, eD1, ahk_const L, el1, h01, ?_, ahd_const nd mL, fun x hx => absurd hx (by simp)⟩, fun m σ H3 W => ?_⟩
    · rw [m0, List.map_map]
      exact (List.map_id _).symm
    obtain ⟨n, u2, u6, kvs, E, L, rfl, rfl, nE, s3, eD3, aK, el3, hL3, eL3, A, cl⟩ := W
    have lE : E.length ≤ 280 := by
      have := A.few
      rw [List.length_map] at this
      omega
    have lLE : L.length = E.length := by
      have := congrArg List.length eL3
      rwa [List.length_map, List.length_map] at this
    refine ⟨_, rfl, .ref l, rfl, l, _, rfl, .inl (.inl (.inl el3)), _, _, rfl, rfl, _, rfl, ite2 (fun c => ?_) (fun c => ?_)⟩
    · have c' : n < L.length := by
        have := of_decide_eq_true c
        rw [List.length_map] at this
        omega
      have ez : L[n]? = some L[n] := List.getElem?_eq_getElem c'
      have hz := hL3 _ (List.getElem_mem c')
      have en : ∃ o, E[n]? = some (L[n].2, o) := by
        have h1 : (L.map (·.2))[n]? = some L[n].2 := by rw [List.getElem?_map, ez]; rfl
        rw [eL3] at h1
        obtain ⟨y, ey, e⟩ := mapGet h1
        exact ⟨y.2, by rw [ey, e]⟩
      obtain ⟨o, eo⟩ := en
      have okz : SideOk tops L[n].2 := (A.rea (n + 1) n (by omega) _ eo).ok rok fun s hs => by
        obtain ⟨z, hz, rfl⟩ := List.mem_map.mp hs
        exact okS z hz
      have mz : L[n].2 ∈ E.map (·.1) := List.mem_map.mpr ⟨_, List.mem_of_getElem? eo, rfl⟩
      refine ⟨fun σ' H' => ∃ (n' : Nat) (u2 u6 : Option V) (kvs : List (List Key × V)) (E : List (Sd × Option Sd)) (L : List (Addr × Sd)), σ' = [some (.ref x), some (.ref g), u2, some (.ref D), some (.ref l), some (.int (n' : Int)), u6] ∧ n' = n + 1 ∧ n' ≤ E.length ∧ Same H H' ∧ H' D = some (.dT kvs) ∧ AhK H' kvs E ∧ H' l = some (.lst (sdR L)) ∧ SdsAt H' L ∧ L.map (·.2) = E.map (·.1) ∧ Ahd tops rs (Ls.map (·.2)) E ∧ CloE tops rs E n', fun σ' H' w' => ?_, ?_⟩
      · obtain ⟨n', u2, u6, kvs, E', L', e1, e2, rest⟩ := w'
        exact ⟨1000 - n', by omega, n', u2, u6, kvs, E', L', e1, rfl, rest⟩
      refine ⟨.ref l, rfl, _, rfl, l, _, n, _, rfl, rfl, .inl (.inl el3), atI_nat (by rw [List.getElem?_map, ez]; rfl), ?_⟩
      refine ⟨.ref x, rfl, .ref L[n].1, rfl, x, L[n].1, tops, rs, L[n].2, rfl, hp.keep (.same s3), hz, okz, rok, l40, fun H4 fl F s4 nfl efl hF eF => ⟨fl, rfl, ⟨_, .inl (.inl efl)⟩, ?_⟩⟩
      have nflH : H fl = none := s3.free nfl
      have nll : fl ≠ l := fun e => by
        rw [e, el3] at nfl
        cases nfl
      have nlf : fl ≠ D := fun e => by
        rw [e, eD3] at nfl
        cases nfl
      have hzn : SideAt H4 L[n].1 L[n].2 := hz.keep (.same s4)
      refine for_it (walk_list (xs := sdR F)) (fun j σ H' => ∃ (u2 : Option V) (kvs : List (List Key × V)) (E' : List (Sd × Option Sd)) (L' : List (Addr × Sd)), σ = [some (.ref x), some (.ref g), u2, some (.ref D), some (.ref l), some (.int (n : Int)), some (.ref L[n].1)] ∧ Same H H' ∧ KT H4 H' ∧ H' fl = some (.lst (sdR F)) ∧ H' D = some (.dT kvs) ∧ AhK H' kvs E' ∧ H' l = some (.lst (sdR L')) ∧ SdsAt H' L' ∧ L'.map (·.2) = E'.map (·.1) ∧ Ahd tops rs (Ls.map (·.2)) E' ∧ (∃ Ex, E' = E ++ Ex) ∧ ∀ b ∈ (F.take j).map (·.2), b ∈ E'.map (·.1))
        ⟨_, kvs, E, L, rfl, s3.trans s4, KT.refl _, efl, s4 _ _ eD3, aK.kt (KT.same s4), s4 _ _ el3, hL3.keep (.same s4), eL3, A, ⟨[], (List.append_nil _).symm⟩, (fun b h => absurd h (by simp))⟩ (fun j σ H' _ y => by
          obtain ⟨_, _, _, _, _, _, _, e, _⟩ := y
          exact .inl (.inl e)) (fun j v σ H5 H5' hj y z => ?_) (fun σ H5 y => ?_)
      · obtain ⟨u2', kvs', E', L', rfl, s5, k5, ef5, eD5, aK5, el5, hL5, eL5, A5, ⟨Ex, rfl⟩, in5⟩ := y
        obtain ⟨rfl, gv⟩ := z
        obtain ⟨fz, efz, rfl⟩ := mapGet gv
        have hfz := (hF fz (List.mem_of_getElem? efz)).kt k5
        have lE5 : (E ++ Ex).length ≤ 280 := by
          have := A5.few
          rw [List.length_map] at this
          omega
        have lL5 : L'.length ≤ 280 := by
          have := congrArg List.length eL5
          rw [List.length_map, List.length_map] at this
          omega
        have mF : fz.2 ∈ ledL tops rs L[n].2 := by
          rw [← eF]
          exact List.mem_map.mpr ⟨fz, List.mem_of_getElem? efz, rfl⟩
        have tkF : (F.take (j + 1)).map (·.2) = (F.take j).map (·.2) ++ [fz.2] := by
          rw [List.take_add_one, efz, List.map_append]
          rfl
        refine ⟨.ref fz.1, rfl, .ref D, rfl, D, _, rfl, DGet.t (k := KS fz.2) eD5 hfz, _, rfl, ?_⟩
        rw [aK5.isSome A5.nd]
        by_cases cin : fz.2 ∈ (E ++ Ex).map (·.1)
        · rw [decide_eq_true cin]
          refine iteF ⟨_, kvs', E ++ Ex, L', rfl, s5, k5, ef5, eD5, aK5, el5, hL5, eL5, A5, ⟨Ex, rfl⟩, fun b hb => ?_⟩
          rw [tkF] at hb
          rcases List.mem_append.mp hb with h | h
          · exact in5 b h
          · rw [List.mem_singleton.mp h]
            exact cin
        · rw [decide_eq_false cin]
          refine iteT ⟨.ref L[n].1, rfl, .ref D, rfl, .ref fz.1, rfl, D, _, rfl, DPut.t (k := KS fz.2) eD5 hfz (small1000 (by rw [aK5.len]; omega)), ?_⟩
          rw [putK_new _ (aK5.no cin)]
          have kD : KT H5' (upd H5' D (.dT (kvs' ++ [(KS fz.2, V.ref L[n].1)]))) := KT.upd eD5 (fun xs e => nomatch e)
          have el6 : (upd H5' D (.dT (kvs' ++ [(KS fz.2, V.ref L[n].1)]))) l = some (.lst (sdR L')) := by rw [upd_ne nlD]; exact el5
          have s6 : Same H (upd H5' D (.dT (kvs' ++ [(KS fz.2, V.ref L[n].1)]))) := same_over s5 nD
          have ef6 : (upd H5' D (.dT (kvs' ++ [(KS fz.2, V.ref L[n].1)]))) fl = some (.lst (sdR F)) := by rw [upd_ne nlf]; exact ef5
          have eD6 : (upd H5' D (.dT (kvs' ++ [(KS fz.2, V.ref L[n].1)]))) D = some (.dT (kvs' ++ [(KS fz.2, V.ref L[n].1)])) := upd_same
          generalize upd H5' D (.dT (kvs' ++ [(KS fz.2, V.ref L[n].1)])) = H6 at kD el6 s6 ef6 eD6 ⊢
          have k6 := k5.trans kD
          refine ⟨.ref l, rfl, .inl ⟨rfl, _, .inl (.inl el6)⟩, .ref fz.1, rfl, l, _, _, rfl, rfl, el6, by rw [List.length_map]; exact small1000 (by omega), ?_⟩
          have kl : KT H6 (upd H6 l (.lst (sdR L' ++ [V.ref fz.1]))) := KT.upd el6 (fun xs e => by cases e)
          have k7 := k6.trans kl
          refine ⟨_, kvs' ++ [(KS fz.2, V.ref L[n].1)], (E ++ Ex) ++ [(fz.2, some L[n].2)], L' ++ [fz], rfl, same_over s6 nlH, k7, by rw [upd_ne nll]; exact ef6, by rw [upd_ne (Ne.symm nlD)]; exact eD6, Paired.snoc (aK5.kt (kD.trans kl)) ⟨rfl, _, rfl, hzn.kt k7⟩, by rw [upd_same]; simp [sdR], (hL5.kt (kD.trans kl)).snoc (hfz.kt (kD.trans kl)), by rw [List.map_append, List.map_append, eL5]; rfl, A5.grow cin mF (by rw [List.map_append]; exact List.mem_append_left _ mz), ⟨Ex ++ [(fz.2, some L[n].2)], List.append_assoc ..⟩, fun b hb => ?_⟩
          rw [tkF] at hb
          rw [List.map_append]
          rcases List.mem_append.mp hb with h | h
          · exact List.mem_append_left _ (in5 b h)
          · rw [List.mem_singleton.mp h]
            exact List.mem_append_right _ (by simp)
      · obtain ⟨u2', kvs', E', L', rfl, s5, k5, ef5, eD5, aK5, el5, hL5, eL5, A5, ⟨Ex, rfl⟩, in5⟩ := y
        rw [List.length_map, List.take_length, eF] at in5
        refine ⟨_, rfl, _, _, rfl, rfl, n + 1, _, _, kvs', E ++ Ex, L', rfl, rfl, ?_, s5, eD5, aK5, el5, hL5, eL5, A5, fun y hy b hb => ?_⟩
        · rw [List.length_append]
          omega
        · rw [List.take_append_of_le_length (by omega), List.take_add_one, eo] at hy
          rcases List.mem_append.mp hy with h | h
          · rw [List.map_append]
            exact List.mem_append_left _ (cl y h b hb)
          · have ey : y = (L[n].2, o) := by simpa using h
            rw [ey] at hb
            exact in5 b hb
    · have c' : n = E.length := by
        have : ¬ ((n : Int) < ((sdR L).length : Int)) := fun z => c (decide_eq_true z)
        rw [List.length_map] at this
        omega
      subst c'
      refine ⟨.ref D, rfl, D, _, rfl, eD3, trivial, fun od => ?_⟩
      have kd : KT H3 (upd H3 D (.frz od (.dT kvs))) := KT.upd eD3 (fun xs e => by cases e)
      exact q _ D od kvs E (same_over s3 nD) nD upd_same (aK.kt kd) A cl lE
end
end K19

set_option Elab.async false
set_option linter.all false
set_option maxRecDepth 100000
namespace K19
open PySem PySem.Spec PyProof.Rows L2 NB

/-! ### chains -/
inductive RCh (tops : List Int) (rs : List Rl) (S : List Sd) : List Sd → Prop where
  | one {s : Sd} : s ∈ S → RCh tops rs S [s]
  | cons {a b : Sd} {t : List Sd} : RCh tops rs S (a :: t) → b ∈ ledL tops rs a → RCh tops rs S (b :: a :: t)
/-- a chain's later part, behind what is still to be found -/
def Lnk (tops : List Int) (rs : List Rl) (S : List Sd) (s : Sd) (R : List Sd) : Option Sd → Prop
  | none => RCh tops rs S R ∧ R.head? = some s
  | some c => (∀ t, RCh tops rs S (c :: t) → RCh tops rs S (R ++ c :: t)) ∧ (R ++ [c]).head? = some s
theorem Lnk.next0 {tops : List Int} {rs : List Rl} {S : List Sd} {s c : Sd} {R : List Sd} (h : Lnk tops rs S s R (some c)) (m : c ∈ S) : Lnk tops rs S s (R ++ [c]) none := ⟨h.1 [] (.one m), h.2⟩
theorem Lnk.next1 {tops : List Int} {rs : List Rl} {S : List Sd} {s c a : Sd} {R : List Sd} (h : Lnk tops rs S s R (some c)) (m : c ∈ ledL tops rs a) : Lnk tops rs S s (R ++ [c]) (some a) := by
  refine ⟨fun t ht => ?_, ?_⟩
  · rw [List.append_assoc]
    exact h.1 (a :: t) (.cons ht m)
  · rw [List.head?_append, h.2]
    rfl
def sdD (s : Sd) : PyData := .tuple [.int s.1, .str (word s.2.1), .int s.2.2]
theorem dp_sd {K : PySem.W.Frag} {H : Hp} {p : Addr} {s : Sd} (h : SideAt H p s) : Dp K H (.ref p) (sdD s) := .tup (.inl (.inl h)) (.cons (.int _) (.cons (.str _) (.cons (.int _) .nil)))
theorem shaped_sd (s : Sd) : SeqAt.shaped (sdD s) = true := by
  unfold SeqAt.shaped sdD
  have h : PyData.strOk (word s.2.1) = true := by
    cases s.2.1 <;> decide +kernel
  simp [PyData.canLay0, PyData.canLayAll0, PyData.depth, PyData.depthAll, h]
theorem eqv_sd (a b : Sd) : PyData.eqv (sdD a) (sdD b) = decide (a = b) := by
  unfold sdD
  simp only [PyData.eqv, PyData.eqvAll, Bool.and_true]
  rw [Bool.eq_iff_iff]
  simp only [Bool.and_eq_true, decide_eq_true_eq]
  constructor
  · rintro ⟨h1, h2, h3⟩
    obtain ⟨i, b', p⟩ := a
    obtain ⟨j, c, q⟩ := b
    simp only [beq_iff_eq] at h1 h2 h3
    have e1 : i = j := by omega
    have e2 : b' = c := word_inj h2
    rw [e1, e2, h3]
  · rintro rfl
    simp
section
variable {P : Program} {w : World} {K : PySem.W.Frag} {mg : Str → Option Value} {base : Heap}
def spCin : Sp := fun vs H Q _ => ∃ (d p : Addr) (od : Obj) (kvs : List (List Key × V)) (E : List (Sd × Option Sd)) (tops : List Int) (rs : List Rl) (S : List Sd) (s : Sd), vs = [.ref d, .ref p] ∧ H d = some (.frz od (.dT kvs)) ∧ AhK H kvs E ∧ Ahd tops rs S E ∧ E.length ≤ 280 ∧ SideAt H p s ∧ s ∈ E.map (·.1) ∧
  ∀ H' g L R, Same H H' → H g = none → H' g = some (.tup (sdR L)) → SdsAt H' L → L.map (·.2) = R.reverse → RCh tops rs S R → R.head? = some s → R.length ≤ 280 → Q (.ref g) H'
abbrev a_chain_in : Stmt := topS 23
abbrev n_chain_in : List Str := ["ahead", "side", "row"]
theorem sc_chain_in : FnScope n_chain_in ["ahead", "side"] (defScope a_chain_in) := ⟨rfl, rfl, rfl, by decide +kernel, rfl, by decide +kernel, by decide +kernel⟩
set_option maxHeartbeats 8000000 in
theorem ok_chain_in {f  : Addr} {fd  : FuncData} {k : Nat}  (F : Fun K "chain_in" "chain_in" a_chain_in f fd)   (m_tuple : mg "tuple" = none) : FnOk P w K mg base CX0 (k + 1) f fd ["ahead", "side"] spCin := by
  refine F.ok sc_chain_in (fun vs H Q E h => ?_) (fun cdv A outer s H vs Q E hr h => ?_)
  · obtain ⟨d, p, od, kvs, E, tops, rs, S, s', rfl, _⟩ := h
    rfl
  · obtain ⟨d, p, od, kvs, E, tops, rs, S, s', rfl, ed, aK, A, lE, hs, ms, q⟩ := h
    refine ⟨_, (pss_cons (ps_set (i := 2) sc_chain_in.nd rfl (.inl rfl) (pe_lst pa_nil))
      (pss_cons (ps_while PassesOwn.never (pt_cmpR op_notN (pv 1) pe_non (nomark _))
        (pss_cons (ps_expr (pe_bm PySem.F.plainAttrs_list PySem.F.slot_list_append PySem.F.type_list_append mt_append (pv 2) (pa_cons (pv 1) pa_nil)))
      (pss_one (ps_set (i := 1) sc_chain_in.nd rfl (.inl rfl) (pe_dget (Room.u1 hr) (pv 0) (pv 1) (fun _ _ => rfl))))))
      (pss_one (ps_ret (pe_callTy call_tuple_of (by rfl) m_tuple (by decide +kernel) (pa_cons (pe_revL (pv 2)) pa_nil)))))), ?_⟩
    refine ⟨Nat.zero_le _, fun l nl => ?_⟩
    have s0 : Same H (upd H l (.lst [])) := same_new nl
    obtain ⟨x0, hx0, ex0⟩ := List.mem_map.mp ms
    obtain ⟨i0, hi0, ei0⟩ := List.getElem_of_mem hx0
    refine ⟨fun m σ H' => ∃ (v : V) (o : Option Sd) (L : List (Addr × Sd)), σ = [some (.ref d), some v, some (.ref l)] ∧ OthAt H' v o ∧ Same H H' ∧ H' l = some (.lst (sdR L)) ∧ SdsAt H' L ∧ Lnk tops rs S s' (L.map (·.2)) o ∧ (match o with
        | none => m = 0 ∧ L.length ≤ E.length
        | some c => ∃ (i : Nat) (o' : Option Sd), E[i]? = some (c, o') ∧ m = i + 1 ∧ L.length + i + 1 ≤ E.length),
      ⟨i0 + 1, .ref p, some s', [], rfl, ⟨p, rfl, hs.keep (.same s0)⟩, s0, upd_same, (fun _ h => absurd h List.not_mem_nil), ⟨fun t ht => ht, rfl⟩, i0, x0.2, ?_, rfl, ?_⟩, fun m σ H1 W => ?_⟩
    · rw [List.getElem?_eq_getElem hi0, ei0, ← ex0]
    · simp only [List.length_nil]
      omega
    obtain ⟨v, o, L, rfl, ho, s1, el, hL, lk, ms'⟩ := W
    cases o with
    | none =>
      cases (show v = .non from ho)
      obtain ⟨_, lL⟩ := ms'
      refine ⟨_, rfl, rfl, _, rfl, iteFa rfl ⟨.ref l, rfl, l, _, rfl, .inl (.inl el), fun p2 np2 => ⟨p2, _, rfl, .inl ⟨.inl (.inl upd_same), fun t nt => ?_⟩⟩⟩⟩
      have st := (same_new (o := HO.lst (sdR L).reverse) np2).trans (same_new (o := HO.tup (sdR L).reverse) nt)
      refine q _ t L.reverse (L.map (·.2)) (s1.trans st) (s1.free ((same_new (o := HO.lst (sdR L).reverse) np2).free nt)) ?_ (fun z hz => (hL z (List.mem_reverse.mp hz)).keep (.same st)) (by rw [List.map_reverse]) lk.1 lk.2 (by rw [List.length_map]; omega)
      rw [upd_same]
      simp only [sdR, List.map_reverse]
    | some c =>
      obtain ⟨pc, rfl, hpc⟩ := ho
      obtain ⟨i, o', eE, rfl, lL⟩ := ms'
      obtain ⟨v2, ev2, hv2⟩ := aK.at' A.nd (List.mem_of_getElem? eE)
      refine ⟨_, rfl, rfl, _, rfl, iteTr rfl ⟨fun σ' H' => ∃ m', m' < i + 1 ∧ ∃ (v : V) (o : Option Sd) (L : List (Addr × Sd)), σ' = [some (.ref d), some v, some (.ref l)] ∧ OthAt H' v o ∧ Same H H' ∧ H' l = some (.lst (sdR L)) ∧ SdsAt H' L ∧ Lnk tops rs S s' (L.map (·.2)) o ∧ (match o with
        | none => m' = 0 ∧ L.length ≤ E.length
        | some c => ∃ (i : Nat) (o' : Option Sd), E[i]? = some (c, o') ∧ m' = i + 1 ∧ L.length + i + 1 ≤ E.length), fun σ' H' h => h, ?_⟩⟩
      refine ⟨.ref l, rfl, .inl ⟨rfl, _, .inl (.inl el)⟩, .ref pc, rfl, l, _, _, rfl, rfl, el, by rw [List.length_map]; exact small1000 (by omega), ?_⟩
      have kl : Keep H1 (upd H1 l (.lst (sdR L ++ [V.ref pc]))) := Keep.upd el
      have s2 : Same H (upd H1 l (.lst (sdR L ++ [V.ref pc]))) := same_over s1 nl
      refine ⟨.ref d, rfl, .ref pc, rfl, d, v2, rfl, .inr ⟨kvs, KS c, pc, .inr ⟨od, s2 _ _ ed⟩, rfl, hpc.keep kl, ev2.symm⟩, ?_⟩
      have e3 : (upd H1 l (.lst (sdR L ++ [V.ref pc]))) l = some (.lst (sdR (L ++ [(pc, c)]))) := by
        rw [upd_same]
        simp [sdR]
      have hL3 : SdsAt (upd H1 l (.lst (sdR L ++ [V.ref pc]))) (L ++ [(pc, c)]) := (hL.keep kl).snoc (hpc.keep kl)
      cases o' with
      | none =>
        have m0 := A.n0 i c eE
        refine ⟨0, by omega, v2, none, L ++ [(pc, c)], rfl, hv2, s2, e3, hL3, ?_, rfl, ?_⟩
        · rw [List.map_append]
          exact lk.next0 m0
        · rw [List.length_append]
          simp only [List.length_cons, List.length_nil]
          omega
      | some a =>
        obtain ⟨m1, m2⟩ := A.n1 i c a eE
        obtain ⟨y, hy, ey⟩ := List.mem_map.mp m2
        obtain ⟨j, hj, e⟩ := List.getElem_of_mem hy
        have hj' : j < i := by
          rw [List.length_take] at hj
          omega
        have eEj : E[j]? = some y := by
          have : (E.take i)[j]? = some y := by rw [List.getElem?_eq_getElem hj, e]
          rwa [List.getElem?_take_of_lt hj'] at this
        refine ⟨j + 1, by omega, v2, some a, L ++ [(pc, c)], rfl, hv2.keep (.same s2), s2, e3, hL3, ?_, j, y.2, by rw [eEj, ← ey], rfl, ?_⟩
        · rw [List.map_append]
          exact lk.next1 m1
        · rw [List.length_append]
          simp only [List.length_cons, List.length_nil]
          omega
/-- what chain_to tells -/
def CTo (tops : List Int) (rs : List Rl) (S : List Sd) (s : Sd) (cs : List Sd) : Prop :=
  (cs = [] ∧ ∀ z, Rea tops rs (· ∈ S) z → withinB tops z s = false) ∨ ∃ R z, RCh tops rs S R ∧ R.head? = some z ∧ withinB tops z s = true ∧ Rea tops rs (· ∈ S) z ∧ ((z = s ∧ cs = R.reverse) ∨ (z ≠ s ∧ cs = R.reverse ++ [s]))
def spCto (K : PySem.W.Frag) (C : Addr) : Sp := fun vs H Q _ => ∃ (x g p : Addr) (tops : List Int) (rs : List Rl) (Ls : List (Addr × Sd)) (s : Sd), vs = [.ref x, .ref g, .ref p] ∧ PlanAt C H x tops rs ∧ SqT K H g (sdR Ls) ∧ SdsAt H Ls ∧ (∀ z ∈ Ls, SideOk tops z.2) ∧ (∀ q ∈ rs, RuleOk tops q) ∧ rs.length ≤ 40 ∧ Ls.length ≤ 200 ∧ SideAt H p s ∧ SideOk tops s ∧
  ∀ H' c L, Same H H' → H' c = some (.tup (sdR L)) → SdsAt H' L → CTo tops rs (Ls.map (·.2)) s (L.map (·.2)) → L.length ≤ 281 → Q (.ref c) H'
abbrev a_chain_to : Stmt := topS 24
abbrev n_chain_to : List Str := ["plan", "starts", "goal", "ahead", "side", "chain"]
theorem sc_chain_to : FnScope n_chain_to ["plan", "starts", "goal"] (defScope a_chain_to) := ⟨rfl, rfl, rfl, by decide +kernel, rfl, by decide +kernel, by decide +kernel⟩
set_option maxHeartbeats 8000000 in
theorem ok_chain_to {f fRe fWi fCi : Addr} {fd fdRe fdWi fdCi : FuncData} {k : Nat} {C : Addr} (F : Fun K "chain_to" "chain_to" a_chain_to f fd) (Re : Kn P w K mg base 4 "reached" ["plan", "starts"] (spRea K C) fRe fdRe) (Wi : Kn P w K mg base 2 "is_within" ["plan", "one", "other"] (spTwo C withinB) fWi fdWi) (Ci : Kn P w K mg base 1 "chain_in" ["ahead", "side"] spCin fCi fdCi)   : FnOk P w K mg base CX0 (k + 5) f fd ["plan", "starts", "goal"] (spCto K C) := by
  refine F.ok sc_chain_to (fun vs H Q E h => ?_) (fun cdv A outer s H vs Q E hr h => ?_)
  · obtain ⟨x, g, p, tops, rs, Ls, s', rfl, _⟩ := h
    rfl
  · obtain ⟨x, g, p, tops, rs, Ls, s', rfl, hp, eg, hLs, okS, rok, l40, l100, hs, ok, q⟩ := h
    refine ⟨_, (pss_cons (ps_set (i := 3) sc_chain_to.nd rfl (.inl rfl) (pe_kn Re hr (by omega) (pa_cons (pv 0) (pa_cons (pv 1) pa_nil))))
      (pss_cons (ps_for PassesOwn.never rfl (pi_keys (pv 3)) (pg_name (i := 4) sc_chain_to.nd rfl (.inl rfl))
        (pss_one (ps_if (pt_val (pe_kn Wi hr (by omega) (pa_cons (pv 0) (pa_cons (pv 4) (pa_cons (pv 2) pa_nil))))) (pss_cons (ps_set (i := 5) sc_chain_to.nd rfl (.inl rfl) (pe_kn Ci hr (by omega) (pa_cons (pv 3) (pa_cons (pv 4) pa_nil))))
      (pss_one (ps_ret (pe_ifExp (pt_cmpR (op_eqD hr.units) (pv 4) (pv 2) (nomark _)) (pv 5) (pe_tup (StX.pa_star (pv 5) (pa_cons (pv 2) pa_nil))))))) pss_nil)))
      (pss_one (ps_ret (pe_tup pa_nil))))), ?_⟩
    refine ⟨.ref x, rfl, .ref g, rfl, x, g, tops, rs, Ls, rfl, hp, eg, hLs, okS, rok, l40, l100, fun H1 d od kvs E s1 nd ed aK A cl lE => ?_⟩
    have okR : ∀ z, Rea tops rs (· ∈ Ls.map (·.2)) z → SideOk tops z := fun z h => h.ok rok fun s hs => by
      obtain ⟨y, hy, rfl⟩ := List.mem_map.mp hs
      exact okS y hy
    refine ⟨.ref d, rfl, d, od, rfl, .inr ⟨kvs, ed, for_it walk_keysT (fun i σ H' => (∃ u4, σ = [some (.ref x), some (.ref g), some (.ref p), some (.ref d), u4, none]) ∧ Same H1 H' ∧ ∀ z ∈ (E.take i).map (·.1), withinB tops z s' = false) ⟨⟨_, rfl⟩, Same.refl _, (fun z h => absurd h (by simp))⟩ (fun i σ H' _ y => y.2.1 _ _ ed) (fun i v σ H2 H2' hi y z => ?_) (fun σ H2 y => ?_)⟩⟩
    · obtain ⟨⟨u4, rfl⟩, s2, al⟩ := y
      obtain ⟨rfl, k, v', qa, ekv, rfl, eqa⟩ := z
      obtain ⟨e, ee, ek, _⟩ := aK.get ekv
      have ek' : k = KS e.1 := ek
      subst ek'
      have hqa : SideAt H2' qa e.1 := eqa
      have me : e.1 ∈ E.map (·.1) := List.mem_map.mpr ⟨e, List.mem_of_getElem? ee, rfl⟩
      have re := (A.mem cl).mp me
      have s02 := s1.trans s2
      refine ⟨.ref x, rfl, .ref qa, rfl, .ref p, rfl, x, qa, p, tops, rs, e.1, s', rfl, hp.keep (.same s02), hqa, hs.keep (.same s02), okR _ re, ok, fun H3 s3 => ⟨_, rfl, ite2 (fun c => ?_) (fun c => ?_)⟩⟩
      · refine ⟨.ref d, rfl, .ref qa, rfl, d, qa, od, kvs, E, tops, rs, Ls.map (·.2), e.1, rfl, (s2.trans s3) _ _ ed, aK.kt (KT.same (s2.trans s3)), A, lE, hqa.keep (.same s3), me, fun H4 cc L R s4 nc ec hL eL rc hd lR => ?_⟩
        have s04 := (s02.trans s3).trans s4
        have lL : L.length ≤ 280 := by
          have := congrArg List.length eL
          rw [List.length_map, List.length_reverse] at this
          omega
        refine ⟨.ref qa, rfl, .ref p, rfl, _, _, dp_sd (hqa.keep (.same (s3.trans s4))), dp_sd (hs.keep (.same s04)), shaped_sd _, shaped_sd _, _, rfl, ?_⟩
        rw [eqv_sd]
        refine ite2 (fun c2 => ?_) (fun c2 => ?_)
        · refine ⟨_, rfl, q H4 cc L s04 ec hL (.inr ⟨R, e.1, rc, hd, c, re, .inl ⟨of_decide_eq_true c2, eL⟩⟩) (by omega)⟩
        · refine ⟨.ref cc, rfl, cc, _, rfl, .inl (.inl (.inl ec)), .ref p, rfl, Nat.le_of_lt (small1000 (by rw [List.length_append, List.length_map]; simp only [List.length_cons, List.length_nil]; omega)), fun t nt => ?_⟩
          have st := same_new (o := HO.tup (sdR L ++ [V.ref p])) nt
          refine q _ t (L ++ [(p, s')]) (s04.trans st) (by rw [upd_same]; simp [sdR]) ((hL.keep (.same st)).snoc (hs.keep (.same (s04.trans st)))) (.inr ⟨R, e.1, rc, hd, c, re, .inr ⟨fun z => c2 (decide_eq_true z), ?_⟩⟩) (by rw [List.length_append]; simp only [List.length_cons, List.length_nil]; omega)
          rw [List.map_append, eL]
          rfl
      · refine ⟨⟨_, rfl⟩, s2.trans s3, fun z hz => ?_⟩
        rw [List.take_add_one, ee, List.map_append] at hz
        rcases List.mem_append.mp hz with h | h
        · exact al z h
        · have : z = e.1 := by simpa using h
          rw [this]
          exact Bool.not_eq_true _ |>.mp c
    · obtain ⟨⟨u4, rfl⟩, s2, al⟩ := y
      rw [aK.len, List.take_length] at al
      refine ⟨Nat.zero_le _, fun t nt => q _ t [] ((s1.trans s2).trans (same_new nt)) upd_same (fun _ h => absurd h List.not_mem_nil) (.inl ⟨rfl, fun z hz => al z ((A.mem cl).mpr hz)⟩) (Nat.zero_le _)⟩
end
end K19

set_option Elab.async false
set_option linter.all false
set_option maxRecDepth 100000
namespace K19
open PySem PySem.Spec PyProof.Rows L2 NB

/-! ### what follows -/
def BndAt (H : Hp) (p : Addr) (lows highs : List Int) : Prop := ∃ Us : List Addr, H p = some (.tup (Us.map V.ref)) ∧ Us.length = lows.length ∧ ∀ (j : Nat) (T : Addr), Us[j]? = some T → H T = some (.tup [.int (plc lows j), .int (plc highs j)])
theorem BndAt.keep {H H' : Hp} {p : Addr} {lows highs : List Int} (h : BndAt H p lows highs) (k : Keep H H') : BndAt H' p lows highs := by
  obtain ⟨Us, e, l, t⟩ := h
  exact ⟨Us, k.tup e, l, fun j T ej => k.tup (t j T ej)⟩
theorem plcSet {l : List Int} {i : Nat} {v : Int} (h : i < l.length) (j : Nat) : plc (l.set i v) j = if j = i then v else plc l j := by
  show (l.set i v).getD j 0 = _
  rw [List.getD_eq_getElem?_getD]
  by_cases c : j = i
  · rw [c, List.getElem?_set_self h, if_pos rfl]
    rfl
  · rw [List.getElem?_set_ne (Ne.symm c), if_neg c]
    exact (List.getD_eq_getElem?_getD ..).symm
structure FolP (tops : List Int) (ks : List Sd) (lows highs : List Int) : Prop where
  ll : lows.length = tops.length
  lh : highs.length = tops.length
  l0 : ∀ i, i < tops.length → plc lows i = 0 ∨ (i, true, plc lows i) ∈ ks
  h0 : ∀ i, i < tops.length → plc highs i = plc tops i ∨ (i, false, plc highs i) ∈ ks
  l1 : ∀ i p, (i, true, p) ∈ ks → p ≤ plc lows i
  h1 : ∀ i p, (i, false, p) ∈ ks → plc highs i ≤ p
  lz : ∀ i, i < tops.length → 0 ≤ plc lows i
  hz : ∀ i, i < tops.length → plc highs i ≤ plc tops i
theorem FolP.init (tops : List Int) : FolP tops [] (List.replicate tops.length 0) tops := by
  have e : ∀ i, plc (List.replicate tops.length (0 : Int)) i = 0 := fun i => by
    show (List.replicate tops.length (0 : Int)).getD i 0 = 0
    rw [List.getD_eq_getElem?_getD, List.getElem?_replicate]
    split <;> rfl
  exact ⟨List.length_replicate, rfl, fun i _ => .inl (e i), fun i _ => .inl rfl, fun _ _ h => absurd h List.not_mem_nil, fun _ _ h => absurd h List.not_mem_nil, fun i _ => by rw [e i]; exact Int.le_refl _, fun i _ => Int.le_refl _⟩
theorem FolP.from' {tops : List Int} {ks : List Sd} {lows highs : List Int} (F : FolP tops ks lows highs) {i : Nat} {p : Int} (li : i < tops.length) : FolP tops (ks ++ [(i, true, p)]) (lows.set i (if p > plc lows i then p else plc lows i)) highs := by
  have lw : i < lows.length := by rw [F.ll]; exact li
  refine ⟨by rw [List.length_set]; exact F.ll, F.lh, fun j hj => ?_, fun j hj => ?_, fun j r h => ?_, fun j r h => ?_, fun j hj => ?_, F.hz⟩
  · rw [plcSet lw]
    by_cases c : j = i
    · rw [if_pos c]
      split
      · rw [c]
        exact .inr (List.mem_append_right _ (List.mem_singleton.mpr rfl))
      · rcases F.l0 i li with h | h
        · exact .inl h
        · rw [c]
          exact .inr (List.mem_append_left _ h)
    · rw [if_neg c]
      rcases F.l0 j hj with h | h
      · exact .inl h
      · exact .inr (List.mem_append_left _ h)
  · rcases F.h0 j hj with h | h
    · exact .inl h
    · exact .inr (List.mem_append_left _ h)
  · rw [plcSet lw]
    rcases List.mem_append.mp h with h | h
    · have := F.l1 j r h
      by_cases c : j = i
      · rw [if_pos c]
        rw [c] at this
        split <;> omega
      · rw [if_neg c]
        exact this
    · have e := List.mem_singleton.mp h
      injection e with e1 e2
      injection e2 with _ e3
      rw [if_pos e1, e3]
      split <;> omega
  · rcases List.mem_append.mp h with h | h
    · exact F.h1 j r h
    · have e := List.mem_singleton.mp h
      injection e with e1 e2
      injection e2 with e2 _
      cases e2
  · rw [plcSet lw]
    have := F.lz j hj
    have := F.lz i li
    split
    · split <;> omega
    · omega
theorem FolP.to' {tops : List Int} {ks : List Sd} {lows highs : List Int} (F : FolP tops ks lows highs) {i : Nat} {p : Int} (li : i < tops.length) : FolP tops (ks ++ [(i, false, p)]) lows (highs.set i (if p < plc highs i then p else plc highs i)) := by
  have lw : i < highs.length := by rw [F.lh]; exact li
  refine ⟨F.ll, by rw [List.length_set]; exact F.lh, fun j hj => ?_, fun j hj => ?_, fun j r h => ?_, fun j r h => ?_, F.lz, fun j hj => ?_⟩
  · rcases F.l0 j hj with h | h
    · exact .inl h
    · exact .inr (List.mem_append_left _ h)
  · rw [plcSet lw]
    by_cases c : j = i
    · rw [if_pos c]
      split
      · rw [c]
        exact .inr (List.mem_append_right _ (List.mem_singleton.mpr rfl))
      · rcases F.h0 i li with h | h
        · rw [c]
          exact .inl h
        · rw [c]
          exact .inr (List.mem_append_left _ h)
    · rw [if_neg c]
      rcases F.h0 j hj with h | h
      · exact .inl h
      · exact .inr (List.mem_append_left _ h)
  · rcases List.mem_append.mp h with h | h
    · exact F.l1 j r h
    · have e := List.mem_singleton.mp h
      injection e with e1 e2
      injection e2 with e2 _
      cases e2
  · rw [plcSet lw]
    rcases List.mem_append.mp h with h | h
    · have := F.h1 j r h
      by_cases c : j = i
      · rw [if_pos c]
        rw [c] at this
        split <;> omega
      · rw [if_neg c]
        exact this
    · have e := List.mem_singleton.mp h
      injection e with e1 e2
      injection e2 with _ e3
      rw [if_pos e1, e3]
      split <;> omega
  · rw [plcSet lw]
    have := F.hz j hj
    have h2 := F.hz i li
    by_cases c : j = i
    · rw [if_pos c, c]
      split <;> omega
    · rw [if_neg c]
      exact this
theorem FolP.fol {tops : List Int} {rs : List Rl} {ks : List Sd} {lows highs : List Int} {S : Sd → Prop} (F : FolP tops ks lows highs) (m : ∀ s, s ∈ ks ↔ Rea tops rs S s) : Fol tops rs S lows highs :=
  ⟨F.ll, F.lh, fun i hi => (F.l0 i hi).imp_right (m _).mp, fun i hi => (F.h0 i hi).imp_right (m _).mp, fun i p h => F.l1 i p ((m _).mpr h), fun i p h => F.h1 i p ((m _).mpr h), F.lz, F.hz⟩
theorem rep_flat (n : Nat) : (List.replicate n [V.int 0]).flatten = (List.replicate n (0 : Int)).map V.int := by
  induction n with
  | zero => rfl
  | succ n ih =>
    rw [List.replicate_succ, List.flatten_cons, ih, List.replicate_succ]
    rfl
section
variable {P : Program} {w : World} {K : PySem.W.Frag} {mg : Str → Option Value} {base : Heap}
/-- what is handed to those who look at a want -/
structure Wnt (K : PySem.W.Frag) (C : Addr) (H : Hp) (x g : Addr) (tops : List Int) (rs : List Rl) (Ls : List (Addr × Sd)) : Prop where
  hp : PlanAt C H x tops rs
  eg : SqT K H g (sdR Ls)
  hL : SdsAt H Ls
  okS : ∀ z ∈ Ls, SideOk tops z.2
  rok : ∀ q ∈ rs, RuleOk tops q
  l40 : rs.length ≤ 40
  lS : Ls.length ≤ 200
  l12 : tops.length ≤ 12
  pl : ∀ i, i < tops.length → 0 ≤ plc tops i
theorem Wnt.same {C : Addr} {H H' : Hp} {x g : Addr} {tops : List Int} {rs : List Rl} {Ls : List (Addr × Sd)} (h : Wnt K C H x g tops rs Ls) (s : Same H H') : Wnt K C H' x g tops rs Ls :=
  ⟨h.hp.keep (.same s), sameT s h.eg, h.hL.keep (.same s), h.okS, h.rok, h.l40, h.lS, h.l12, h.pl⟩
theorem Wnt.ok {C : Addr} {H : Hp} {x g : Addr} {tops : List Int} {rs : List Rl} {Ls : List (Addr × Sd)} (h : Wnt K C H x g tops rs Ls) : ∀ s, s ∈ Ls.map (·.2) → SideOk tops s := fun s hs => by
  obtain ⟨z, hz, rfl⟩ := List.mem_map.mp hs
  exact h.okS z hz
def spFol (K : PySem.W.Frag) (C : Addr) : Sp := fun vs H Q _ => ∃ (x g : Addr) (tops : List Int) (rs : List Rl) (Ls : List (Addr × Sd)), vs = [.ref x, .ref g] ∧ Wnt K C H x g tops rs Ls ∧
  ∀ H' p lows highs, Same H H' → H p = none → BndAt H' p lows highs → Fol tops rs (· ∈ Ls.map (·.2)) lows highs → Q (.ref p) H'
abbrev a_follows : Stmt := topS 26
abbrev n_follows : List Str := ["plan", "want", "lows", "highs", "thing", "word", "place"]
theorem sc_follows : FnScope n_follows ["plan", "want"] (defScope a_follows) := ⟨rfl, rfl, rfl, by decide +kernel, rfl, by decide +kernel, by decide +kernel⟩
set_option maxHeartbeats 8000000 in
theorem ok_follows {f fRe : Addr} {fd fdRe : FuncData} {k : Nat} {C : Addr} (F : Fun K "follows" "follows" a_follows f fd) (Re : Kn P w K mg base 4 "reached" ["plan", "starts"] (spRea K C) fRe fdRe) (T : PlanTxt K mg C) (m_zip : mg "zip" = none) (m_len : mg "len" = none) (m_list : mg "list" = none) (m_max : mg "max" = none) (m_min : mg "min" = none) (m_tuple : mg "tuple" = none) : FnOk P w K mg base CX0 (k + 5) f fd ["plan", "want"] (spFol K C) := by
  refine F.ok sc_follows (fun vs H Q E h => ?_) (fun cdv A outer s H vs Q E hr h => ?_)
  · obtain ⟨x, g, tops, rs, Ls, rfl, _⟩ := h
    rfl
  · obtain ⟨x, g, tops, rs, Ls, rfl, W, q⟩ := h
    refine ⟨_, (pss_cons (ps_set (i := 2) sc_follows.nd rfl (.inl rfl) (pe_op op_rep (pe_lst (pa_cons pe_int pa_nil)) (pe_callB call_len_seq (by rfl) m_len (by decide +kernel) (pa_cons (pe_fld (pv 0) rfl) pa_nil))))
      (pss_cons (ps_set (i := 3) sc_follows.nd rfl (.inl rfl) (pe_callTy call_list_of (by rfl) m_list (by decide +kernel) (pa_cons (pe_fld (pv 0) rfl) pa_nil)))
      (pss_cons (ps_for PassesOwn.never rfl (pi_keys (pe_kn Re hr (by omega) (pa_cons (pv 0) (pa_cons (pv 1) pa_nil)))) (pg_tup rfl (pgs_cons (pg_name (i := 4) sc_follows.nd rfl (.inl rfl)) (pgs_cons (pg_name (i := 5) sc_follows.nd rfl (.inl rfl)) (pgs_cons (pg_name (i := 6) sc_follows.nd rfl (.inl rfl)) pgs_nil))))
        (pss_one (ps_if (pt_cmpR op_eq (pv 5) pe_str (nomark _)) (pss_one (ps_asg (pe_callB (call_max2 rfl) (by rfl) m_max (by decide +kernel) (pa_cons (pe_ix ix_list (pv 2) (pv 4) (fun _ _ => rfl)) (pa_cons (pv 6) pa_nil))) (pg_sub (pv 2) (pv 4) set_list))) (pss_one (ps_asg (pe_callB (call_min2 rfl) (by rfl) m_min (by decide +kernel) (pa_cons (pe_ix ix_list (pv 3) (pv 4) (fun _ _ => rfl)) (pa_cons (pv 6) pa_nil))) (pg_sub (pv 3) (pv 4) set_list))))))
      (pss_one (ps_ret (pe_tupZip rfl (by rfl) m_tuple (by rfl) m_zip (pa_cons (pv 2) (pa_cons (pv 3) pa_nil)))))))), ?_⟩
    have hp := W.hp
    have l12 := W.l12
    obtain ⟨dx, t, R, ex, et, hR⟩ := hp
    refine ⟨(show 1 ≤ sizeLine by decide), fun l0 nl0 => ?_⟩
    have s0 := same_new (o := HO.lst [V.int 0]) nl0
    refine ⟨.ref x, rfl, x, C, dx, _, _, rfl, s0 _ _ ex, T.cl, T.nT, look_tops _ _, t, _, rfl, .inr (.inl (.inl (s0 _ _ et))), l0, _, _, rfl, rfl, upd_same, by omega, by rw [List.length_map]; omega, ?_, fun lw nlw => ?_⟩
    · rw [List.length_map]
      exact Nat.le_of_lt (small1000 (by simp only [List.length_cons, List.length_nil]; omega))
    have s1 := s0.trans (same_new (o := HO.lst (List.replicate (((tops.map V.int).length : Int)).toNat [V.int 0]).flatten) nlw)
    have nlwH : H lw = none := s0.free nlw
    have elw : (upd (upd H l0 (.lst [V.int 0])) lw (.lst (List.replicate (((tops.map V.int).length : Int)).toNat [V.int 0]).flatten)) lw = some (.lst ((List.replicate tops.length (0 : Int)).map V.int)) := by
      rw [upd_same, rep_flat, List.length_map]
      simp
    generalize upd (upd H l0 (.lst [V.int 0])) lw (.lst (List.replicate (((tops.map V.int).length : Int)).toNat [V.int 0]).flatten) = H1 at s1 elw ⊢
    refine ⟨.ref x, rfl, x, C, dx, _, _, rfl, s1 _ _ ex, T.cl, T.nT, look_tops _ _, t, _, rfl, .inr (.inl (.inl (s1 _ _ et))), fun hg nhg => ?_⟩
    have sh := same_new (o := HO.lst (tops.map V.int)) nhg
    have s2 := s1.trans sh
    have nhgH : H hg = none := s1.free nhg
    have nlh : lw ≠ hg := ne_of_none elw nhg
    have elw2 := sh _ _ elw
    have ehg2 : (upd H1 hg (.lst (tops.map V.int))) hg = some (.lst (tops.map V.int)) := upd_same
    generalize upd H1 hg (.lst (tops.map V.int)) = H2 at s2 elw2 ehg2 ⊢
    have W2 := W.same s2
    refine ⟨.ref x, rfl, .ref g, rfl, x, g, tops, rs, Ls, rfl, W2.hp, W2.eg, W2.hL, W2.okS, W2.rok, W2.l40, W2.lS, fun H3 d od kvs E s3 nd ed aK A cl lE => ?_⟩
    have okR : ∀ s, s ∈ E.map (·.1) → SideOk tops s := fun s hs => ((A.mem cl).mp hs).ok W.rok W.ok
    refine ⟨d, od, rfl, .inr ⟨kvs, ed, for_it walk_keysT (fun i σ H' => (∃ u4 u5 u6, σ = [some (.ref x), some (.ref g), some (.ref lw), some (.ref hg), u4, u5, u6]) ∧ Same H H' ∧ H' d = some (.frz od (.dT kvs)) ∧ ∃ lows highs, H' lw = some (.lst (lows.map V.int)) ∧ H' hg = some (.lst (highs.map V.int)) ∧ FolP tops ((E.take i).map (·.1)) lows highs) ⟨⟨_, _, _, rfl⟩, s2.trans s3, ed, _, _, s3 _ _ elw2, s3 _ _ ehg2, FolP.init tops⟩ (fun i σ H' _ y => y.2.2.1) (fun i v σ H4 H4' hi y z => ?_) (fun σ H4 y => ?_)⟩⟩
    · obtain ⟨⟨u4, u5, u6, rfl⟩, s4, ed4, lows, highs, el4, eh4, F⟩ := y
      obtain ⟨rfl, k, v', qa, ekv, rfl, eqa⟩ := z
      obtain ⟨e, ee, ek, _⟩ := aK.get ekv
      have ek' : k = KS e.1 := ek
      subst ek'
      have hqa : SideAt H4' qa e.1 := eqa
      have ok := okR e.1 (List.mem_map.mpr ⟨e, List.mem_of_getElem? ee, rfl⟩)
      have tk : (E.take (i + 1)).map (·.1) = (E.take i).map (·.1) ++ [e.1] := by
        rw [List.take_add_one, ee, List.map_append]
        rfl
      have ndl : d ≠ lw := fun z => by
        rw [z, el4] at ed4
        cases ed4
      have ndh : d ≠ hg := fun z => by
        rw [z, eh4] at ed4
        cases ed4
      have li := ok.lt
      obtain ⟨⟨j, b, p⟩, o⟩ := e
      have li' : j < tops.length := li
      refine ⟨qa, _, rfl, .inl (.inl hqa), rfl, _, _, rfl, _, _, rfl, _, _, rfl, rfl, _, rfl, rfl, _, rfl, ?_⟩
      cases b with
      | true =>
        refine iteTr w_from ⟨.ref lw, rfl, _, rfl, lw, _, j, _, rfl, rfl, .inl (.inl el4), plc_at (by rw [F.ll]; exact li'), _, rfl, _, _, rfl, .ref lw, rfl, _, rfl, lw, _, j, j, rfl, rfl, el4, by rw [List.length_map, F.ll]; exact ixN_nat li', ⟨_, _, _, rfl⟩, same_over s4 nlwH, by rw [upd_ne ndl]; exact ed4, _, highs, by rw [upd_same, List.map_set], by rw [upd_ne (Ne.symm nlh)]; exact eh4, by rw [tk]; exact F.from' li'⟩
      | false =>
        refine iteFa w_to ⟨.ref hg, rfl, _, rfl, hg, _, j, _, rfl, rfl, .inl (.inl eh4), plc_at (by rw [F.lh]; exact li'), _, rfl, _, _, rfl, .ref hg, rfl, _, rfl, hg, _, j, j, rfl, rfl, eh4, by rw [List.length_map, F.lh]; exact ixN_nat li', ⟨_, _, _, rfl⟩, same_over s4 nhgH, by rw [upd_ne ndh]; exact ed4, lows, _, by rw [upd_ne nlh]; exact el4, by rw [upd_same, List.map_set], by rw [tk]; exact F.to' li'⟩
    · obtain ⟨⟨u4, u5, u6, rfl⟩, s4, ed4, lows, highs, el4, eh4, F⟩ := y
      rw [aK.len, List.take_length] at F
      refine ⟨.ref lw, rfl, .ref hg, rfl, lw, hg, _, _, rfl, .inl (.inl el4), .inl (.inl eh4), by rw [List.length_map, List.length_map, F.ll, F.lh], by rw [List.length_map, F.ll]; omega, fun H5 p Us s5 np ep lU aU => q H5 p lows highs (s4.trans s5) (s4.free np) ⟨Us, ep, by rw [lU, List.length_map], fun j T ej => ?_⟩ (F.fol fun s => A.mem cl)⟩
      obtain ⟨a, b, ea, eb, eT⟩ := aU j T ej
      obtain ⟨a', ea', rfl⟩ := mapGet ea
      obtain ⟨b', eb', rfl⟩ := mapGet eb
      have e1 : plc lows j = a' := by
        show lows.getD j 0 = a'
        rw [List.getD_eq_getElem?_getD, ea']
        rfl
      have e2 : plc highs j = b' := by
        show highs.getD j 0 = b'
        rw [List.getD_eq_getElem?_getD, eb']
        rfl
      rw [e1, e2]
      exact eT
def spPull (K : PySem.W.Frag) (C : Addr) : Sp := fun vs H Q _ => ∃ (x a g : Addr) (tops st : List Int) (rs : List Rl) (Ls : List (Addr × Sd)), vs = [.ref x, .ref a, .ref g] ∧ Wnt K C H x g tops rs Ls ∧ H a = some (.tup (st.map V.int)) ∧ st.length = tops.length ∧
  ∀ H' p lows highs, Same H H' → H' p = some (.tup ((pullF lows highs st).map V.int)) → Fol tops rs (· ∈ Ls.map (·.2)) lows highs → Q (.ref p) H'
theorem pull_take (lows highs st : List Int) (i : Nat) (h : i < st.length) : (pullF lows highs st).take (i + 1) = (pullF lows highs st).take i ++ [max (plc lows i) (min (plc st i) (plc highs i))] := by
  rw [List.take_add_one]
  congr 1
  unfold pullF
  rw [List.getElem?_map, List.getElem?_range h]
  rfl
abbrev a_pulled : Stmt := topS 39
abbrev n_pulled : List Str := ["plan", "standing", "want", "place", "low", "high"]
theorem sc_pulled : FnScope n_pulled ["plan", "standing", "want"] (defScope a_pulled) := ⟨rfl, rfl, rfl, by decide +kernel, rfl, by decide +kernel, by decide +kernel⟩
set_option maxHeartbeats 8000000 in
theorem ok_pulled {f fFl : Addr} {fd fdFl : FuncData} {k : Nat} {C : Addr} (F : Fun K "pulled" "pulled" a_pulled f fd) (Fl : Kn P w K mg base 5 "follows" ["plan", "want"] (spFol K C) fFl fdFl)  (m_max : mg "max" = none) (m_min : mg "min" = none) (m_tuple : mg "tuple" = none) (m_zip : mg "zip" = none) : FnOk P w K mg base CX0 (k + 6) f fd ["plan", "standing", "want"] (spPull K C) := by
  refine F.ok sc_pulled (fun vs H Q E h => ?_) (fun cdv A outer s H vs Q E hr h => ?_)
  · obtain ⟨x, a, g, tops, st, rs, Ls, rfl, _⟩ := h
    rfl
  · obtain ⟨x, a, g, tops, st, rs, Ls, rfl, W, ea, ls, q⟩ := h
    refine ⟨_, (pss_one (ps_ret (pe_callTy call_tuple_of (by rfl) m_tuple (by decide +kernel) (pa_cons (
        pe_lc (own := [("place", 3), ("low", 4), ("high", 5)]) (g := (gTup K 2 (gCons (gName 3) (gCons (gTup K 2 (gCons (gName 4) (gCons (gName 5) gNil))) gNil)))) (tt := tYes)  rfl sc_pulled.nd (RZ.pi_zipA (by rfl) m_zip (pa_cons (pv 1) (pa_cons (pe_kn Fl hr (by omega) (pa_cons (pv 0) (pa_cons (pv 2) pa_nil))) pa_nil))) (blkOk_by (N := n_pulled) (sc := defScope a_pulled) (by decide +kernel))
          (fun _ _ _ _ _ => (pg_tup rfl (pgs_cons (pg_name (i := 3) sc_pulled.nd rfl (.inl rfl) (hf := .inr rfl)) (pgs_cons (pg_tup rfl (pgs_cons (pg_name (i := 4) sc_pulled.nd rfl (.inl rfl) (hf := .inr rfl)) (pgs_cons (pg_name (i := 5) sc_pulled.nd rfl (.inl rfl) (hf := .inr rfl)) pgs_nil))) pgs_nil)))) (fun _ _ _ _ _ => pts_nil) (fun _ _ _ _ _ => (pe_callB (call_max2 rfl) (by rfl) m_max (by decide +kernel) (pa_cons (pv 4) (pa_cons (pe_callB (call_min2 rfl) (by rfl) m_min (by decide +kernel) (pa_cons (pv 3) (pa_cons (pv 5) pa_nil))) pa_nil))))) pa_nil)))), ?_⟩
    refine ⟨.ref a, rfl, .ref x, rfl, .ref g, rfl, x, g, tops, rs, Ls, rfl, W, fun H1 p lows highs s1 np hb F => ?_⟩
    obtain ⟨Us, ep, lU, aU⟩ := hb
    have l12 := W.l12
    have lU' : Us.length = st.length := by rw [lU, F.ll, ls]
    refine ⟨a, p, _, _, rfl, .inr ⟨.inl (.inl (s1 _ _ ea)), .inl (.inl ep), fun D nD => lc_it (walk_zipT (xs := st.map V.int) (ys := Us.map V.ref) (by rw [List.length_map, List.length_map, lU'])) (fun i H' => Same H1 H' ∧ H' D = some (.lst (((pullF lows highs st).take i).map V.int))) ⟨same_new nD, upd_same⟩ (fun i H' _ y => ⟨.inl (.inl (y.1 _ _ (s1 _ _ ea))), .inl (.inl (y.1 _ _ ep))⟩) (fun i v H2 H3 hi y z => ?_) (fun H2 y => ?_)⟩⟩
    · obtain ⟨s2, eD⟩ := y
      obtain ⟨T', x1, x2, rfl, nT, rfl, gx1, gx2⟩ := z
      obtain ⟨a1, e1, rfl⟩ := mapGet gx1
      obtain ⟨T, e2, rfl⟩ := mapGet gx2
      have hi' : i < st.length := by simpa using hi
      have eT := s2 _ _ (aU i T e2)
      have sT := same_new (o := HO.tup [V.int a1, V.ref T]) nT
      have ea1 : plc st i = a1 := by
        show st.getD i 0 = a1
        rw [List.getD_eq_getElem?_getD, e1]
        rfl
      refine ⟨T', _, rfl, .inl (.inl upd_same), rfl, _, _, rfl, _, _, rfl, T, _, rfl, .inl (.inl (sT _ _ eT)), rfl, _, _, rfl, _, _, rfl, rfl, rfl, ?_⟩
      refine ⟨rfl, _, rfl, _, rfl, _, rfl, _, _, rfl, _, _, rfl, _, sT _ _ eD, ?_, same_over (s2.trans sT) nD, ?_⟩
      · rw [List.length_map, List.length_take, pull_len]
        exact small1000 (by omega)
      · rw [upd_same, pull_take _ _ _ _ hi', List.map_append, ← ea1]
        have em : (if (if plc highs i < plc st i then plc highs i else plc st i) > plc lows i then (if plc highs i < plc st i then plc highs i else plc st i) else plc lows i) = max (plc lows i) (min (plc st i) (plc highs i)) := by
          repeat' split
          all_goals omega
        rw [em]
        rfl
    · obtain ⟨s2, eD⟩ := y
      rw [List.length_map, List.take_of_length_le (by rw [pull_len]; exact Nat.le_refl _)] at eD
      refine ⟨D, _, rfl, .inl ⟨.inl (.inl eD), fun r nr => q _ r lows highs ((s1.trans s2).trans (same_new nr)) upd_same F⟩⟩
end
end K19

set_option Elab.async false
set_option linter.all false
set_option maxRecDepth 100000
set_option maxHeartbeats 1000000
/-! Data of any kind: None, truths, whole numbers, texts, lists, tuples, dicts. -/
namespace NB
open PySem PySem.Spec PyProof.Rows L2

def kD : Key → PyData
  | .inl i => .int i
  | .inr x => .str x
mutual
/-- the value v is the data d; its lists stand apart from n -/
inductive Da (n : Addr) (H : Hp) : V → PyData → Prop
  | non : Da n H .non .none
  | bl (b : Bool) : Da n H (.bl b) (.bool b)
  | int (i : Int) : Da n H (.int i) (.int i)
  | str (x : Str) : Da n H (.str x) (.str x)
  | lst {a : Addr} {xs : List V} {ds : List PyData} : H a = some (.lst xs) → a ≠ sysModules → a ≠ n → DaAll n H xs ds → Da n H (.ref a) (.list ds)
  | tup {a : Addr} {xs : List V} {ds : List PyData} : H a = some (.tup xs) → DaAll n H xs ds → Da n H (.ref a) (.tuple ds)
  | dct {a : Addr} {kvs : List (Key × V)} {ds : List (PyData × PyData)} : H a = some (.dK kvs) → DaKv n H kvs ds → Da n H (.ref a) (.dict ds)
inductive DaAll (n : Addr) (H : Hp) : List V → List PyData → Prop
  | nil : DaAll n H [] []
  | cons {v : V} {vs : List V} {d : PyData} {ds : List PyData} : Da n H v d → DaAll n H vs ds → DaAll n H (v :: vs) (d :: ds)
inductive DaKv (n : Addr) (H : Hp) : List (Key × V) → List (PyData × PyData) → Prop
  | nil : DaKv n H [] []
  | cons {k : Key} {v : V} {kvs : List (Key × V)} {d : PyData} {ds : List (PyData × PyData)} : Da n H v d → DaKv n H kvs ds → DaKv n H ((k, v) :: kvs) ((kD k, d) :: ds)
end
mutual
theorem Da.keep {n : Addr} {H H' : Hp} (hn : ∃ zs, H n = some (.lst zs)) (k : ∀ b o, b ≠ n → H b = some o → H' b = some o) : ∀ (d : PyData) (v : V), Da n H v d → Da n H' v d
  | .none, _, h => by cases h; exact .non
  | .bool b, _, h => by cases h; exact .bl b
  | .int i, _, h => by cases h; exact .int i
  | .str x, _, h => by cases h; exact .str x
  | .list ds, _, h => by
    cases h with
    | lst e n1 n2 ha => exact .lst (k _ _ n2 e) n1 n2 (DaAll.keep hn k ds _ ha)
  | .tuple ds, _, h => by
    cases h with
    | tup e ha =>
      refine .tup (k _ _ (fun z => ?_) e) (DaAll.keep hn k ds _ ha)
      obtain ⟨zs, q⟩ := hn
      rw [z, q] at e
      cases e
  | .dict ds, _, h => by
    cases h with
    | dct e ha =>
      refine .dct (k _ _ (fun z => ?_) e) (DaKv.keep hn k ds _ ha)
      obtain ⟨zs, q⟩ := hn
      rw [z, q] at e
      cases e
theorem DaAll.keep {n : Addr} {H H' : Hp} (hn : ∃ zs, H n = some (.lst zs)) (k : ∀ b o, b ≠ n → H b = some o → H' b = some o) : ∀ (ds : List PyData) (vs : List V), DaAll n H vs ds → DaAll n H' vs ds
  | [], _, h => by cases h; exact .nil
  | d :: ds, _, h => by
    cases h with
    | cons h1 h2 => exact .cons (Da.keep hn k d _ h1) (DaAll.keep hn k ds _ h2)
theorem DaKv.keep {n : Addr} {H H' : Hp} (hn : ∃ zs, H n = some (.lst zs)) (k : ∀ b o, b ≠ n → H b = some o → H' b = some o) : ∀ (ds : List (PyData × PyData)) (kvs : List (Key × V)), DaKv n H kvs ds → DaKv n H' kvs ds
  | [], _, h => by cases h; exact .nil
  | (_, d) :: ds, _, h => by
    cases h with
    | cons h1 h2 => exact .cons (Da.keep hn k d _ h1) (DaKv.keep hn k ds _ h2)
end
mutual
theorem Da.sameD {n : Addr} {H H' : Hp} (k : Same H H') : ∀ (d : PyData) (v : V), Da n H v d → Da n H' v d
  | .none, _, h => by cases h; exact .non
  | .bool b, _, h => by cases h; exact .bl b
  | .int i, _, h => by cases h; exact .int i
  | .str x, _, h => by cases h; exact .str x
  | .list ds, _, h => by
    cases h with
    | lst e n1 n2 ha => exact .lst (k _ _ e) n1 n2 (DaAll.sameD k ds _ ha)
  | .tuple ds, _, h => by
    cases h with
    | tup e ha => exact .tup (k _ _ e) (DaAll.sameD k ds _ ha)
  | .dict ds, _, h => by
    cases h with
    | dct e ha => exact .dct (k _ _ e) (DaKv.sameD k ds _ ha)
theorem DaAll.sameD {n : Addr} {H H' : Hp} (k : Same H H') : ∀ (ds : List PyData) (vs : List V), DaAll n H vs ds → DaAll n H' vs ds
  | [], _, h => by cases h; exact .nil
  | d :: ds, _, h => by
    cases h with
    | cons h1 h2 => exact .cons (Da.sameD k d _ h1) (DaAll.sameD k ds _ h2)
theorem DaKv.sameD {n : Addr} {H H' : Hp} (k : Same H H') : ∀ (ds : List (PyData × PyData)) (kvs : List (Key × V)), DaKv n H kvs ds → DaKv n H' kvs ds
  | [], _, h => by cases h; exact .nil
  | (_, d) :: ds, _, h => by
    cases h with
    | cons h1 h2 => exact .cons (Da.sameD k d _ h1) (DaKv.sameD k ds _ h2)
end
theorem Da.same {n : Addr} {H H' : Hp} {v : V} {d : PyData} (h : Da n H v d) (k : Same H H') : Da n H' v d := Da.sameD k d v h
theorem DaAll.same {n : Addr} {H H' : Hp} {vs : List V} {ds : List PyData} (h : DaAll n H vs ds) (k : Same H H') : DaAll n H' vs ds := DaAll.sameD k ds vs h
theorem DaAll.len {n : Addr} {H : Hp} {vs : List V} {ds : List PyData} (h : DaAll n H vs ds) : vs.length = ds.length := by
  induction ds generalizing vs with
  | nil => cases h; rfl
  | cons d ds ih =>
    cases h with
    | cons h1 h2 => rw [List.length_cons, List.length_cons, ih h2]
theorem DaAll.get {n : Addr} {H : Hp} {vs : List V} {ds : List PyData} (h : DaAll n H vs ds) (i : Nat) (v : V) (e : vs[i]? = some v) : ∃ d, ds[i]? = some d ∧ Da n H v d := by
  induction ds generalizing vs i with
  | nil => cases h; simp at e
  | cons d ds ih =>
    cases h with
    | cons h1 h2 =>
      cases i with
      | zero => exact ⟨d, rfl, by cases e; exact h1⟩
      | succ i => exact ih h2 i e
theorem DaAll.mem {n : Addr} {H : Hp} {vs : List V} {ds : List PyData} (h : DaAll n H vs ds) {v : V} (hv : v ∈ vs) : ∃ d ∈ ds, Da n H v d := by
  obtain ⟨i, hi, e⟩ := List.getElem_of_mem hv
  obtain ⟨d, e1, e2⟩ := h.get i v (by rw [List.getElem?_eq_getElem hi, e])
  exact ⟨d, List.mem_of_getElem? e1, e2⟩
theorem DaAll.app {n : Addr} {H : Hp} {vs us : List V} {ds es : List PyData} (h : DaAll n H vs ds) (h' : DaAll n H us es) : DaAll n H (vs ++ us) (ds ++ es) := by
  induction ds generalizing vs with
  | nil => cases h; exact h'
  | cons d ds ih =>
    cases h with
    | cons h1 h2 => exact .cons h1 (ih h2)
theorem DaAll.take {n : Addr} {H : Hp} {vs : List V} {ds : List PyData} (h : DaAll n H vs ds) (i : Nat) : DaAll n H (vs.take i) (ds.take i) := by
  induction ds generalizing vs i with
  | nil => cases h; simp only [List.take_nil]; exact .nil
  | cons d ds ih =>
    cases h with
    | cons h1 h2 =>
      cases i with
      | zero => simp only [List.take_zero]; exact .nil
      | succ i => simp only [List.take_succ_cons]; exact .cons h1 (ih h2 i)
theorem DaAll.drop {n : Addr} {H : Hp} {vs : List V} {ds : List PyData} (h : DaAll n H vs ds) (i : Nat) : DaAll n H (vs.drop i) (ds.drop i) := by
  induction ds generalizing vs i with
  | nil => cases h; simp only [List.drop_nil]; exact .nil
  | cons d ds ih =>
    cases h with
    | cons h1 h2 =>
      cases i with
      | zero => simp only [List.drop_zero]; exact .cons h1 h2
      | succ i => simp only [List.drop_succ_cons]; exact ih h2 i
theorem DaAll.ints {n : Addr} {H : Hp} : ∀ xs : List Int, DaAll n H (xs.map V.int) (xs.map PyData.int)
  | [] => .nil
  | x :: xs => .cons (.int x) (DaAll.ints xs)
/-- of which kind it is -/
def tyD : PyData → String
  | .none => "NoneType"
  | .bool _ => "bool"
  | .int _ => "int"
  | .str _ => "str"
  | .list _ => "list"
  | .tuple _ => "tuple"
  | .dict _ => "dict"
theorem Da.ty {K : PySem.W.Frag} {n : Addr} {H : Hp} {v : V} {d : PyData} (h : Da n H v d) : TyX K H v (.type (tyD d)) := by
  cases h with
  | non => exact .base .non
  | bl b => exact .base (.bl b)
  | int i => exact .base (.int i)
  | str x => exact .base (.str x)
  | lst e _ _ _ => exact .base (.lst e)
  | tup e _ => exact .base (.tup e)
  | dct e _ => exact .base (.dK e)
def isTupD : PyData → Bool
  | .tuple _ => true
  | _ => false
def isIntD : PyData → Bool
  | .int _ => true
  | .bool _ => true
  | _ => false
def isBoolD : PyData → Bool
  | .bool _ => true
  | _ => false
def isStrD : PyData → Bool
  | .str _ => true
  | _ => false
theorem kit_tup (d : PyData) : kitB (tyD d) "tuple" = some (isTupD d) := by cases d <;> (simp only [tyD, isTupD, isIntD, isBoolD, isStrD]; decide +kernel)
theorem kit_int (d : PyData) : kitB (tyD d) "int" = some (isIntD d) := by cases d <;> (simp only [tyD, isTupD, isIntD, isBoolD, isStrD]; decide +kernel)
theorem kit_bool (d : PyData) : kitB (tyD d) "bool" = some (isBoolD d) := by cases d <;> (simp only [tyD, isTupD, isIntD, isBoolD, isStrD]; decide +kernel)
theorem kit_str (d : PyData) : kitB (tyD d) "str" = some (isStrD d) := by cases d <;> (simp only [tyD, isTupD, isIntD, isBoolD, isStrD]; decide +kernel)
section
variable {X : Cx} {pins : List (Addr × Obj)} {σ : L2.St} {H : Hp} {s : Shared}
theorem key_reads {h : Heap} {k : Key} {u : Value} (e : keyIs k u = true) : Reads h u (kD k) [] := by
  rcases keyIs_shape e with ⟨i, t, rfl, rfl⟩ | ⟨x, t, rfl, rfl⟩
  · exact .int i t
  · exact .str x t
mutual
theorem Da.reads {n : Addr} (I : Inv X pins σ H s) : ∀ (d : PyData) (v : V) (u : Value), Da n H v d → RelV v u → ∃ as, Reads s.heap u d as ∧ sysModules ∉ as
  | .none, _, _, h, r => by
    cases h
    cases r
    exact ⟨_, Reads.none, List.not_mem_nil⟩
  | .bool b, _, _, h, r => by
    cases h
    cases r
    exact ⟨_, Reads.bool b, List.not_mem_nil⟩
  | .int i, _, _, h, r => by
    cases h
    obtain ⟨t, rfl⟩ := r
    exact ⟨_, Reads.int i t, List.not_mem_nil⟩
  | .str x, _, _, h, r => by
    cases h
    obtain ⟨t, rfl⟩ := r
    exact ⟨_, Reads.str x t, List.not_mem_nil⟩
  | .list ds, _, _, h, r => by
    cases h with
    | lst e n1 n2 ha =>
      cases r
      obtain ⟨its, rv, ⟨o, m, ho, hc, _, hd⟩, _⟩ := I.list (.inl (.inl e))
      obtain ⟨as, hr, hm⟩ := Da.readsAll I ds _ its ha rv
      refine ⟨_, Reads.list ho hc hd hr, fun z => ?_⟩
      rcases List.mem_cons.mp z with q | q
      · exact n1 q.symm
      · exact hm q
  | .tuple ds, _, _, h, r => by
    cases h with
    | tup e ha =>
      cases r
      obtain ⟨its, rv, ⟨o, ho, hc, m, hd⟩, _⟩ := I.tuple (.inl (.inl e))
      obtain ⟨as, hr, hm⟩ := Da.readsAll I ds _ its ha rv
      exact ⟨_, Reads.tuple ho hc hd hr, hm⟩
  | .dict ds, _, _, h, r => by
    cases h with
    | dct e ha =>
      rename_i a kvs
      cases r
      obtain ⟨_, hsys, vs, rel, o, es, ep, h1, h2, h3, _, pr, _⟩ := (show ObjOk X.prog X.w H s.heap a (.dK kvs) from I.hok a _ e)
      obtain ⟨as, bs, q1, m1, q2, m2⟩ := Da.readsKv I ds kvs vs es.toList ha rel pr
      refine ⟨_, Reads.dict h1 h2.1 h3 q1 q2, fun z => ?_⟩
      rw [List.cons_append] at z
      rcases List.mem_cons.mp z with q | q
      · exact beq_eq_false_iff_ne.mp hsys q.symm
      · rcases List.mem_append.mp q with q | q
        · exact m1 q
        · exact m2 q
theorem Da.readsAll {n : Addr} (I : Inv X pins σ H s) : ∀ (ds : List PyData) (vs : List V) (us : List Value), DaAll n H vs ds → Vals vs us → ∃ as, ReadsAll s.heap us ds as ∧ sysModules ∉ as
  | [], _, _, h, r => by
    cases h
    cases r
    exact ⟨_, ReadsAll.nil, List.not_mem_nil⟩
  | d :: ds, _, _, h, r => by
    cases h with
    | cons h1 h2 =>
      cases r with
      | cons r1 r2 =>
        obtain ⟨as, q1, m1⟩ := Da.reads I d _ _ h1 r1
        obtain ⟨bs, q2, m2⟩ := Da.readsAll I ds _ _ h2 r2
        refine ⟨_, ReadsAll.cons q1 q2, fun z => ?_⟩
        rcases List.mem_append.mp z with q | q
        · exact m1 q
        · exact m2 q
theorem Da.readsKv {n : Addr} (I : Inv X pins σ H s) : ∀ (ds : List (PyData × PyData)) (kvs : List (Key × V)) (vs : List (Key × Value)) (es : List DictEntry), DaKv n H kvs ds → KV kvs vs → Pairs (mixKind X.prog X.w) es vs →
    ∃ as bs, ReadsAll s.heap (es.map (·.key)) (ds.map (·.1)) as ∧ sysModules ∉ as ∧ ReadsAll s.heap (es.map (·.val)) (ds.map (·.2)) bs ∧ sysModules ∉ bs
  | [], _, _, _, h, r, p => by
    cases h
    cases r
    cases p
    exact ⟨_, _, ReadsAll.nil, List.not_mem_nil, ReadsAll.nil, List.not_mem_nil⟩
  | (_, d) :: ds, _, _, _, h, r, p => by
    cases h with
    | cons h1 h2 =>
      cases r with
      | cons r1 r2 =>
        cases p with
        | cons p1 p2 p3 =>
          obtain ⟨as, bs, q1, m1, q2, m2⟩ := Da.readsKv I ds _ _ _ h2 r2 p3
          obtain ⟨cs, q3, m3⟩ := Da.reads I d _ _ h1 r1.2
          refine ⟨_, _, ReadsAll.cons (key_reads (by have e := r1.1; simp only at e; show keyIs _ _ = true; rw [e]; exact p1)) q1, ?_, ReadsAll.cons (by show Reads s.heap (DictEntry.val _) d _; rw [p2]; exact q3) q2, fun z => ?_⟩
          · rw [List.nil_append]
            exact m1
          · rcases List.mem_append.mp z with q | q
            · exact m3 q
            · exact m2 q
end
end
/-- data that repr writes: at most w by weight, nested at most k deep -/
structure Sm (d : PyData) (w k : Nat) : Prop where
  sh : d.showable = true
  dp : d.depth ≤ k
  lv : d.leavesShort 100 = true
  wt : d.weight ≤ w
theorem Sm.mono {d : PyData} {w v k m : Nat} (h : Sm d w k) (hw : w ≤ v) (hk : k ≤ m) : Sm d v m := ⟨h.sh, Nat.le_trans h.dp hk, h.lv, Nat.le_trans h.wt hw⟩
/-- each of them -/
def SmE (ds : List PyData) (k : Nat) : Prop := ∀ d ∈ ds, d.showable = true ∧ d.depth ≤ k ∧ d.leavesShort 100 = true
theorem smE_iff : ∀ (ds : List PyData) (k : Nat), SmE ds k ↔ PyData.showableAll ds = true ∧ PyData.depthAll ds ≤ k ∧ PyData.leavesShortAll 100 ds = true
  | [], k => by
    refine ⟨fun _ => ⟨rfl, Nat.zero_le _, rfl⟩, fun _ d h => absurd h List.not_mem_nil⟩
  | d :: ds, k => by
    have ih := smE_iff ds k
    constructor
    · intro h
      have h1 := h d List.mem_cons_self
      have h2 := ih.mp fun e he => h e (List.mem_cons_of_mem _ he)
      refine ⟨?_, ?_, ?_⟩
      · simp only [PyData.showableAll, h1.1, h2.1, Bool.and_self]
      · simp only [PyData.depthAll]
        omega
      · simp only [PyData.leavesShortAll, h1.2.2, h2.2.2, Bool.and_self]
    · rintro ⟨h1, h2, h3⟩ e he
      simp only [PyData.showableAll, Bool.and_eq_true] at h1
      simp only [PyData.depthAll] at h2
      simp only [PyData.leavesShortAll, Bool.and_eq_true] at h3
      rcases List.mem_cons.mp he with rfl | he
      · exact ⟨h1.1, by omega, h3.1⟩
      · exact ih.mpr ⟨h1.2, by omega, h3.2⟩ e he
theorem smE_iff_depth : ∀ (ds : List PyData) (k : Nat), PyData.depthAll ds ≤ k ↔ ∀ d ∈ ds, d.depth ≤ k
  | [], k => ⟨fun _ d h => absurd h List.not_mem_nil, fun _ => Nat.zero_le _⟩
  | d :: ds, k => by
    have ih := smE_iff_depth ds k
    simp only [PyData.depthAll]
    constructor
    · intro h e he
      rcases List.mem_cons.mp he with rfl | he
      · omega
      · exact ih.mp (by omega) e he
    · intro h
      have h1 := h d List.mem_cons_self
      have h2 := ih.mpr fun e he => h e (List.mem_cons_of_mem _ he)
      omega
theorem wt_app : ∀ xs ys : List PyData, PyData.weightAll (xs ++ ys) = PyData.weightAll xs + PyData.weightAll ys
  | [], ys => by simp [PyData.weightAll]
  | x :: xs, ys => by
    rw [List.cons_append]
    simp only [PyData.weightAll, wt_app xs ys]
    omega
theorem wt_len : ∀ xs : List PyData, xs.length ≤ PyData.weightAll xs
  | [] => by simp [PyData.weightAll]
  | x :: xs => by
    have := wt_len xs
    simp only [PyData.weightAll, List.length_cons]
    omega
theorem wt_mem : ∀ {xs : List PyData} {d : PyData}, d ∈ xs → d.weight + 1 ≤ PyData.weightAll xs
  | [], d, h => absurd h List.not_mem_nil
  | x :: xs, d, h => by
    simp only [PyData.weightAll]
    rcases List.mem_cons.mp h with rfl | h
    · omega
    · have := wt_mem h
      omega
theorem Sm.tup {ds : List PyData} {w k : Nat} (h : SmE ds k) (hw : PyData.weightAll ds ≤ w) : Sm (.tuple ds) w (k + 1) := by
  obtain ⟨a, b, c⟩ := (smE_iff ds k).mp h
  refine ⟨?_, ?_, ?_, ?_⟩
  · simpa only [PyData.showable] using a
  · simp only [PyData.depth]
    omega
  · simpa only [PyData.leavesShort] using c
  · simpa only [PyData.weight] using hw
theorem Sm.lst {ds : List PyData} {w k : Nat} (h : SmE ds k) (hw : PyData.weightAll ds ≤ w) : Sm (.list ds) w (k + 1) := by
  obtain ⟨a, b, c⟩ := (smE_iff ds k).mp h
  refine ⟨?_, ?_, ?_, ?_⟩
  · simpa only [PyData.showable] using a
  · simp only [PyData.depth]
    omega
  · simpa only [PyData.leavesShort] using c
  · simpa only [PyData.weight] using hw
theorem Sm.of_tup {ds : List PyData} {w k : Nat} (h : Sm (.tuple ds) w k) : ∃ j, k = j + 1 ∧ SmE ds j ∧ PyData.weightAll ds ≤ w := by
  obtain ⟨a, b, c, e⟩ := h
  simp only [PyData.showable] at a
  simp only [PyData.depth] at b
  simp only [PyData.leavesShort] at c
  simp only [PyData.weight] at e
  refine ⟨k - 1, by omega, (smE_iff ds _).mpr ⟨a, by omega, c⟩, e⟩
theorem Sm.int {i : Int} (h : i.natAbs < 10 ^ 90) : Sm (.int i) 310 0 := by
  have s := Small.int h
  exact ⟨s.sh, s.dp, s.lv, s.wt⟩
theorem Sm.bool (b : Bool) : Sm (.bool b) 0 0 := ⟨rfl, Nat.le_refl _, rfl, Nat.le_refl _⟩
theorem Sm.none : Sm .none 0 0 := ⟨rfl, Nat.le_refl _, rfl, Nat.le_refl _⟩
theorem Sm.e {d : PyData} {w k : Nat} (h : Sm d w k) : d.showable = true ∧ d.depth ≤ k ∧ d.leavesShort 100 = true := ⟨h.sh, h.dp, h.lv⟩
theorem Sm.dict0 : Sm (.dict []) 0 1 := ⟨rfl, by decide, rfl, Nat.le_refl _⟩
theorem Sm.dict1 {x : Str} {d : PyData} {w v k : Nat} (hx : Sm (.str x) v k) (h : Sm d w k) : Sm (.dict [(.str x, d)]) (v + w + 2) (k + 1) := by
  have a := hx.wt
  have b := h.wt
  have c := hx.dp
  have e := h.dp
  refine ⟨?_, ?_, ?_, ?_⟩
  · simp only [PyData.showable, PyData.showableKv, h.sh, Bool.and_self]
  · simp only [PyData.depth, PyData.depthKv]
    omega
  · have e1 := hx.lv
    simp only [PyData.leavesShort, PyData.leavesShortKv] at e1 ⊢
    rw [e1, h.lv]
    rfl
  · simp only [PyData.weight, PyData.weightKv] at a ⊢
    omega
theorem Sm.long {d : PyData} {w k : Nat} (h : Sm d w k) (hw : w ≤ 150000) : d.shown.length ≤ sizeLine := by
  have e := PyData.shown_le 100 (by decide) d h.lv
  have := h.wt
  rw [sizeLine_eq]
  have : (100 + 2) * d.weight ≤ (100 + 2) * 150000 := Nat.mul_le_mul_left _ (Nat.le_trans h.wt hw)
  omega
section
variable {X : Cx}
/-- isinstance(x, T), x data -/
theorem call_isiD : CallR X (.builtin "isinstance") (fun xs H Q => ∃ n v d T b, xs = [v, .ty T] ∧ Da n H v d ∧ kitB (tyD d) T = some b ∧ Q (.bl b) H) := by
  intro pins s σ H xs us Q I r h
  obtain ⟨n, v, d, T, b, rfl, hd, hk, q⟩ := h
  exact call_isi pins s σ H _ us Q I r ⟨v, .ty T, _, _, b, rfl, .ty T, hd.ty, kit_ty hk, q⟩
/-- repr(x), x data -/
theorem call_reprA (hG : X.A.guards = some []) (hu : X.A.units + 64 < cLine) : CallR X (.builtin "repr") (fun xs H Q => ∃ n v d w k, xs = [v] ∧ Da n H v d ∧ Sm d w k ∧ w ≤ 150000 ∧ k ≤ 60 ∧ Q (.str d.shown) H) := by
  intro pins s σ H xs us Q I r h
  obtain ⟨n, v, d, w, k, rfl, hd, S, hw, hk, q⟩ := h
  obtain ⟨u, rfl, ru⟩ := vals1 r
  have hz := S.long hw
  have hsh := S.sh
  cases v with
  | ref a =>
    obtain ⟨as, rd, nm⟩ := Da.reads I d _ u hd ru
    cases ru
    have hn := S.dp
    exact repr_of_reads' rd S.sh (fun _ => nm) hG (by omega) (fun _ _ z => z) (fun h' u tk hk => ⟨.str _, H, I.kept hk, ⟨_, rfl⟩, q⟩) hz
  | non =>
    cases hd
    cases ru
    exact P.repr_of_none ⟨.str "None", H, I.tok _, ⟨_, rfl⟩, q⟩
  | bl b =>
    cases hd
    cases ru
    exact P.repr_of_bool ⟨.str (if b then "True" else "False"), H, I.tok _, ⟨_, rfl⟩, q⟩
  | int i =>
    cases hd
    obtain ⟨t, rfl⟩ := ru
    simp only [PyData.showable, decide_eq_true_eq] at hsh
    exact P.repr_of_int hsh ⟨.str (toString i), H, I.tok _, ⟨_, rfl⟩, q⟩
  | str x =>
    cases hd
    obtain ⟨t, rfl⟩ := ru
    exact P.repr_of_str ⟨.str (reprText x), H, I.tok _, ⟨_, rfl⟩, q⟩ hz
  | _ => cases hd
/-- t == (), t any tuple -/
theorem op_eq0 (hu : X.A.units < cLine) : OpR X (compareOp .Eq) (fun x y H Q => ∃ a b xs, x = .ref a ∧ y = .ref b ∧ SqT X.K H a xs ∧ SqT X.K H b [] ∧ Q (.bl xs.isEmpty) H) := by
  intro pins s σ H x y v u Q I rx ry h
  obtain ⟨a, b, xs, rfl, rfl, ha, hb, q⟩ := h
  cases rx
  cases ry
  obtain ⟨i1, r1, p1, _⟩ := I.tuple ha
  obtain ⟨i2, r2, p2, _⟩ := I.tuple hb
  cases r2
  refine SeqAt.eq_tupleAt (e := fun _ => true) p1 p2 hu (fun j h1 h2 => absurd h2 (by simp)) ?_
  refine ⟨.bl xs.isEmpty, H, I, ?_, q⟩
  have e := r1.length
  cases xs with
  | nil =>
    cases r1
    rfl
  | cons z zs =>
    cases r1
    simp [L2.RelV]
/-- x is y, x is not y, of truths -/
theorem op_isB : OpR X (compareOp .Is) (fun x y H Q => ∃ a b, x = .bl a ∧ y = .bl b ∧ Q (.bl (a == b)) H) := by
  intro pins s σ H x y v u Q I rx ry h
  obtain ⟨a, b, rfl, rfl, q⟩ := h
  cases rx
  cases ry
  exact wpAny_pure ⟨.bl (a == b), H, I, by cases a <;> cases b <;> rfl, q⟩
theorem op_isnotB : OpR X (compareOp .IsNot) (fun x y H Q => ∃ a b, x = .bl a ∧ y = .bl b ∧ Q (.bl (!(a == b))) H) := by
  intro pins s σ H x y v u Q I rx ry h
  obtain ⟨a, b, rfl, rfl, q⟩ := h
  cases rx
  cases ry
  exact wpAny_pure ⟨.bl (!(a == b)), H, I, by cases a <;> cases b <;> rfl, q⟩
/-- t != (), t any tuple -/
theorem op_ne0 (hu : X.A.units < cLine) : OpR X (compareOp .NotEq) (fun x y H Q => ∃ a b xs, x = .ref a ∧ y = .ref b ∧ SqT X.K H a xs ∧ SqT X.K H b [] ∧ Q (.bl (!xs.isEmpty)) H) := by
  intro pins s σ H x y v u Q I rx ry h
  obtain ⟨a, b, xs, rfl, rfl, ha, hb, q⟩ := h
  cases rx
  cases ry
  obtain ⟨i1, r1, p1, _⟩ := I.tuple ha
  obtain ⟨i2, r2, p2, _⟩ := I.tuple hb
  cases r2
  refine SeqAt.RcNeAt.tuples (e := fun _ => true) p1 p2 hu (fun j h1 h2 => absurd h2 (by simp)) X.prog X.w X.xe _ ?_
  refine ⟨.bl (!xs.isEmpty), H, I, ?_, q⟩
  cases xs with
  | nil =>
    cases r1
    rfl
  | cons z zs =>
    cases r1
    simp [L2.RelV]
/-- a written list stands apart from what the machine keeps by itself -/
def tLstN (t : TA) : TE := fun σ H Q => t σ H fun xs H1 => xs.length ≤ sizeLine ∧ ∀ p, H1 p = none → p ≠ sysModules → Q (.ref p) (upd H1 p (.lst xs))
theorem pe_lstN {es : List Expr} {pos : Pos} {t : TA} (h : PA X es t) : PE X (.List es pos) (tLstN t) := by
  refine ⟨fun pins s σ H Q I hq => ?_⟩
  refine wpAny_List_spliced (thn (h.run pos pins s σ H _ I hq) fun us s1 ⟨xs, H1, I1, r, z, q⟩ => ⟨by rw [← r.length]; exact z, ?_⟩)
  have hf : H1 s1.heap.objs.size = none := I1.hok.fresh (Nat.le_refl _)
  refine ⟨.ref s1.heap.objs.size, upd H1 s1.heap.objs.size (.lst xs), I1.laid (t' := s1.toks) (fun b u e => Heap.get?_push_of_some _ e) (Nat.le_refl _) ?_, rfl, q _ hf (Nat.ne_of_gt I1.big)⟩
  exact ⟨z, us, 0, r, Heap.get?_push_size _ rfl⟩
/-- list(t), t a tuple -/
theorem call_list_ofN : CallR X (.type "list") (fun xs H Q => ∃ p ys, xs = [.ref p] ∧ SqT X.K H p ys ∧ ∀ l, H l = none → l ≠ sysModules → Q (.ref l) (upd H l (.lst ys))) := by
  intro pins s σ H xs us Q I r h
  obtain ⟨p, ys, rfl, hq, q⟩ := h
  obtain ⟨u, rfl, rx⟩ := vals1 r
  cases rx
  have fin : ∀ (its : List Value), Vals ys its → ys.length ≤ sizeLine → ∀ (h' : Heap) (c' : Nat), (∀ b o', s.heap.get? b = some o' → h'.get? b = some o') →
      h'.get? s.heap.objs.size = some { cls := .type "list", dict := none, data := .seq its.toArray c', slots := #[] } → EP X pins σ Q (.ref s.heap.objs.size) { s with heap := h' } := fun its r' hz h' c' kp e =>
    ⟨.ref s.heap.objs.size, _, I.laid (t' := s.toks) kp (Nat.le_refl _) (show ObjOk X.prog X.w _ h' _ (.lst ys) from ⟨hz, its, c', r', e⟩), rfl, q _ (I.hok.fresh (Nat.le_refl _)) (Nat.ne_of_gt I.big)⟩
  obtain ⟨its, r', pl, hz⟩ := I.tuple hq
  have hlen := r'.length
  obtain ⟨o, ho, hc, n, hd⟩ := pl
  exact call_list_seq p (.inr rfl) ho hc hd (fun h' c' kp e => fin its r' hz h' c' kp e) (by simp only [List.size_toArray] <;> omega)
end
/-- two ways that come to the same -/
theorem join2 {c : Bool} {A B : VK → Prop} {Q : VK} (R : V → Hp → Prop) (hA : ∀ Q' : VK, (∀ v H, R v H → Q' v H) → A Q') (hB : ∀ Q' : VK, (∀ v H, R v H → Q' v H) → B Q') (hQ : ∀ v H, R v H → Q v H) : if c = true then A Q else B Q := by
  cases c
  · exact iteF (hB Q hQ)
  · exact iteT (hA Q hQ)
theorem inV_int2 (i j k : Int) : inV (V.int i) [V.int j, V.int k] = (decide (i = j) || decide (i = k)) := by
  rw [Bool.eq_iff_iff]
  simp only [inV, eqV, List.any_cons, List.any_nil, Bool.or_false, Bool.or_eq_true, beq_iff_eq, decide_eq_true_eq]
  constructor
  · rintro (h | h)
    · exact .inl h.symm
    · exact .inr h.symm
  · rintro (h | h)
    · exact .inl h.symm
    · exact .inr h.symm
theorem inV_str2 (z x y : Str) : inV (V.str z) [V.str x, V.str y] = (decide (z = x) || decide (z = y)) := by
  rw [Bool.eq_iff_iff]
  simp only [inV, eqV, List.any_cons, List.any_nil, Bool.or_false, Bool.or_eq_true, beq_iff_eq, decide_eq_true_eq]
  constructor
  · rintro (h | h)
    · exact .inl h.symm
    · exact .inr h.symm
  · rintro (h | h)
    · exact .inl h.symm
    · exact .inr h.symm
theorem wipe1 {σ : L2.St} {k : Nat} {v : Option V} {n : Str} : wipe ((wipe σ ([(n, k)].map (·.2))).set k v) ([(n, k)].map (·.2)) = wipe σ ([(n, k)].map (·.2)) := by
  show ((σ.set k none).set k v).set k none = σ.set k none
  rw [List.set_set, List.set_set]
end NB

set_option Elab.async false
set_option linter.all false
set_option maxRecDepth 100000
namespace K19
open PySem PySem.Spec PyProof.Rows L2 NB

/-! ### wants that none has: the mathematics -/
section
variable {tops : List Int} {rs : List Rl}
/-- a want is had by a good standing, or one that follows from it bars a wanted one -/
theorem some_goodS (rok : ∀ q ∈ rs, RuleOk tops q) (pl : ∀ i, i < tops.length → 0 ≤ plc tops i) {st : List Int} (hg : st ∈ goods tops rs) {S : Sd → Prop} (hS : ∀ s, S s → SideOk tops s) : (∃ g ∈ goods tops rs, ∀ s, S s → inB g s = true) ∨ ∃ w z, S w ∧ Rea tops rs S z ∧ barsB tops z w = true := by
  obtain ⟨lows, highs, F⟩ := fol_ex rok pl hS
  by_cases c : ∀ i, i < tops.length → plc lows i ≤ plc highs i
  · obtain ⟨g, h⟩ := F.good rok hS c hg
    exact .inl ⟨_, g, fun s hs => h s (.base hs)⟩
  · obtain ⟨i, h⟩ := Classical.not_forall.mp c
    obtain ⟨hi, h⟩ := Classical.not_imp.mp h
    have p0 := pl i hi
    have a : Rea tops rs S (i, true, plc lows i) := (F.l0 i hi).resolve_left fun e => by
      rcases F.h0 i hi with h' | h'
      · omega
      · have := (h'.ok rok hS).bd
        have h2 : 0 ≤ plc highs i := this.1
        omega
    have b : Rea tops rs S (i, false, plc highs i) := (F.h0 i hi).resolve_left fun e => by
      have := (a.ok rok hS).bd
      have h2 : plc lows i ≤ plc tops i := this.2
      omega
    obtain ⟨w, hw, bw⟩ := b.one
    obtain ⟨z, hz, bz⟩ := bw.turn (a := (i, true, plc lows i)) (by
      rw [bars_iff]
      refine ⟨rfl, .inr ?_⟩
      show plc highs i < plc lows i
      omega)
    exact .inr ⟨w, z, hw, a.trans hz, bz⟩
theorem bar_none (rok : ∀ q ∈ rs, RuleOk tops q) {S : Sd → Prop} (hS : ∀ s, S s → SideOk tops s) {w z : Sd} (hw : S w) (hz : Rea tops rs S z) (b : barsB tops z w = true) : ¬ ∃ g ∈ goods tops rs, ∀ s, S s → inB g s = true := fun ⟨g, hg, h⟩ => by
  have := bars_out hg (hz.ok rok hS) (hS w hw) b (hz.in' rok hS hg h)
  rw [h w hw] at this
  cases this
end

/-! ### papers that are none, what is forced, bounds, rooms by their bounds -/
theorem Fol.iff {tops : List Int} {rs : List Rl} {S T : Sd → Prop} {lows highs : List Int} (F : Fol tops rs S lows highs) (h : ∀ s, S s ↔ T s) : Fol tops rs T lows highs := by
  have e : S = T := funext fun s => propext (h s)
  exact e ▸ F
theorem cto_tn {tops : List Int} {rs : List Rl} {s o : Sd} {cs : List Sd} (h : CTo tops rs [o] s cs) (eo : othS tops s = some o) : cs ≠ [] ↔ Tn tops rs s := by
  have one : ∀ {z}, Rea tops rs (· ∈ [o]) z ↔ Rea tops rs (· = o) z := fun {z} => ⟨fun r => r.mono fun s h => List.mem_singleton.mp h, fun r => r.mono fun s h => List.mem_singleton.mpr h⟩
  constructor
  · intro ne
    rcases h with ⟨e, _⟩ | ⟨R, z, rc, hd, wi, re, _⟩
    · exact absurd e ne
    · exact ⟨o, eo, z, one.mp re, wi⟩
  · rintro ⟨o', eo', z, re, wi⟩ e
    rw [eo] at eo'
    cases eo'
    rcases h with ⟨_, al⟩ | ⟨R, z', rc, hd, wi', re', h | h⟩
    · rw [al z (one.mpr re)] at wi
      cases wi
    · rw [h.2, List.reverse_eq_nil_iff] at e
      rw [e] at hd
      cases hd
    · rw [h.2] at e
      exact absurd e (by simp)
theorem oth_back {tops : List Int} {s o : Sd} (ok : SideOk tops s) (h : othS tops s = some o) : ∃ o', othS tops o = some o' := by
  have b := ok.bd
  rcases oth_cases h with ⟨_, c, rfl⟩ | ⟨_, c, rfl⟩
  · exact ⟨_, oth_to (by omega)⟩
  · exact ⟨_, oth_from (by omega)⟩
theorem any_false (n : Nat) : (List.replicate n false).any id = false := by simp
theorem more_false (n : Nat) : (List.replicate (n + 1) false).map V.bl = (List.replicate n false).map V.bl ++ [V.bl false] := by
  rw [List.replicate_succ', List.map_append]
  rfl
theorem cat_sq {K : PySem.W.Frag} {H : Hp} {a b : Addr} {xs ys : List V} {Q : VK} (ea : SqT K H a xs) (eb : SqT K H b ys) (hz : xs.length + ys.length ≤ 1000) (q : ∀ g H', Same H H' → SqT K H' g (xs ++ ys) → Q (.ref g) H') : rCatA K (.ref a) (.ref b) H Q := by
  refine ⟨a, b, xs, ys, rfl, rfl, ea, eb, Nat.le_of_lt (small1000 hz), fun e => ?_, fun _ e => ?_, fun _ _ p np => q p _ (same_new np) (.inl (.inl upd_same))⟩
  · subst e
    exact q b H (Same.refl H) eb
  · subst e
    refine q a H (Same.refl H) ?_
    rw [List.append_nil]
    exact ea
section
variable {P : Program} {w : World} {K : PySem.W.Frag} {mg : Str → Option Value} {base : Heap}
/-- a want that some good standing has -/
def Had (tops : List Int) (rs : List Rl) (Ls : List (Addr × Sd)) : Prop := ∃ st ∈ goods tops rs, ∀ s, s ∈ Ls.map (·.2) → inB st s = true
def spRs (C : Addr) : Sp := fun vs H Q _ => ∃ (x : Addr) (tops : List Int) (rs : List Rl), vs = [.ref x] ∧ PlanAt C H x tops rs ∧ (∀ q ∈ rs, RuleOk tops q) ∧ rs.length ≤ 40 ∧
  ∀ H' l L, Same H H' → H' l = some (.lst (sdR L)) → SdsAt H' L → (∀ s, s ∈ L.map (·.2) ↔ RuleSd rs s ∧ othS tops s ≠ none) → L.length ≤ 80 → Q (.ref l) H'
theorem ruleSd_take {rs : List Rl} {i : Nat} {q : Rl} (h : rs[i]? = some q) {s : Sd} : RuleSd (rs.take (i + 1)) s ↔ RuleSd (rs.take i) s ∨ s = q.1 ∨ s = q.2 := by
  unfold RuleSd
  rw [List.take_add_one, h]
  constructor
  · rintro ⟨r, hr, e⟩
    rcases List.mem_append.mp hr with h | h
    · exact .inl ⟨r, h, e⟩
    · have : r = q := by simpa using h
      rw [this] at e
      exact .inr e
  · rintro (⟨r, hr, e⟩ | e)
    · exact ⟨r, List.mem_append_left _ hr, e⟩
    · exact ⟨q, List.mem_append_right _ (by simp), e⟩
abbrev a_rule_sides : Stmt := topS 29
abbrev n_rule_sides : List Str := ["plan", "sides", "rule", "side"]
theorem sc_rule_sides : FnScope n_rule_sides ["plan"] (defScope a_rule_sides) := ⟨rfl, rfl, rfl, by decide +kernel, rfl, by decide +kernel, by decide +kernel⟩
set_option maxHeartbeats 8000000 in
theorem ok_rule_sides {f fOt : Addr} {fd fdOt : FuncData} {k : Nat} {C : Addr} (F : Fun K "rule_sides" "rule_sides" a_rule_sides f fd) (Ot : Kn P w K mg base 2 "other_side" ["plan", "side"] (spOth C) fOt fdOt) (T : PlanTxt K mg C)  : FnOk P w K mg base CX0 (k + 3) f fd ["plan"] (spRs C) := by
  refine F.ok sc_rule_sides (fun vs H Q E h => ?_) (fun cdv A outer s H vs Q E hr h => ?_)
  · obtain ⟨x, tops, rs, rfl, _⟩ := h
    rfl
  · obtain ⟨x, tops, rs, rfl, hp, rok, l40, q⟩ := h
    refine ⟨_, (pss_cons (ps_dc2T (i := 1) (own := [("rule", 2), ("side", 3)]) (vs1 := [3]) (g := (gName 2)) (wi1 := iTup K (tVar 2)) (g1 := (gName 3)) (tk := (tVar 3)) (tv := (tC (.bl true))) (Room.u1 hr) rfl sc_rule_sides.nd (pi_tup (pe_fld (pv 0) rfl)) (blkOk_by (N := n_rule_sides) (sc := defScope a_rule_sides) (by decide +kernel)) (by decide)
          (fun _ _ _ _ _ => (pg_name (i := 2) sc_rule_sides.nd rfl (.inl rfl) (hf := .inr rfl))) (fun _ _ _ _ _ => (pi_tup (pv 2))) (fun _ _ _ _ _ => (pg_name (i := 3) sc_rule_sides.nd rfl (.inl rfl) (hf := .inr rfl))) (fun _ _ _ _ _ => (pv 3)) (fun _ _ _ _ _ => pe_bl) rfl rfl (sw_dict rfl rfl rfl (by decide +kernel)))
      (pss_one (ps_ret (
        pe_lock (pe_lc (own := [("side", 3)]) (g := (gName 3)) (tt := (tTest (tOp rNotN (tCall (spOth C) [] E0 (tCons (tVar 0) (tCons (tVar 3) tNil))) (tC .non)))) (te := (tVar 3)) rfl sc_rule_sides.nd (pi_keys (pv 1)) (blkOk_by (N := n_rule_sides) (sc := defScope a_rule_sides) (by decide +kernel))
          (fun _ _ _ _ _ => (pg_name (i := 3) sc_rule_sides.nd rfl (.inl rfl) (hf := .inr rfl))) (fun _ _ _ _ _ => pts_one (pt_cmpR op_notN1 (pe_kn Ot hr (by omega) (pa_cons (pv 0) (pa_cons (pv 3) pa_nil))) pe_non (nomark _))) (fun _ _ _ _ _ => (pv 3))))))), ?_⟩
    have hp' := hp
    obtain ⟨dx, t, R, ex, et, as, eR, la, ha⟩ := hp'
    refine ⟨.ref x, rfl, x, C, dx, _, _, rfl, ex, T.cl, T.nR, look_rules _ _, R, rfl, ⟨_, .inl (.inl eR)⟩, fun D nD => stp_it (walk_tup (xs := as.map V.ref)) (fun i H' => Same H H' ∧ ∃ L : List Sd, H' D = some (.dT (L.map fun t => (KS t, V.bl true))) ∧ (∀ s, s ∈ L ↔ RuleSd (rs.take i) s) ∧ L.length ≤ 2 * i) ⟨same_new nD, [], upd_same, (fun s => by simp [RuleSd]), Nat.le_refl _⟩ (fun i H' _ y => .inl (.inl (y.1 _ _ eR))) (fun i v H1 H2 hi y z => ?_) (fun H1 y => ?_)⟩
    · obtain ⟨s1, L, eD, mL, lL⟩ := y
      obtain ⟨rfl, gv⟩ := z
      obtain ⟨r, er, rfl⟩ := mapGet gv
      have hi' : i < as.length := by simpa using hi
      have eq : rs[i]? = some rs[i] := List.getElem?_eq_getElem (by omega)
      obtain ⟨p1, p2, eR1, h1, h2⟩ := (ha i r _ er eq).keep (.same s1)
      have nDr : r ≠ D := fun e => by
        rw [e, eD] at eR1
        cases eR1
      refine ⟨rfl, .ref r, rfl, r, rfl, ⟨_, .inl (.inl eR1)⟩, stp_it (walk_tup (xs := [V.ref p1, V.ref p2])) (fun j H' => Same H H' ∧ KT H2 H' ∧ ∃ L : List Sd, H' D = some (.dT (L.map fun t => (KS t, V.bl true))) ∧ (∀ s, s ∈ L ↔ RuleSd (rs.take i) s ∨ s ∈ [rs[i].1, rs[i].2].take j) ∧ L.length ≤ 2 * i + j) ⟨s1, KT.refl _, L, eD, (fun s => by simp [mL s]), by omega⟩ (fun j H' _ y => .inl (.inl (y.2.1 _ _ eR1))) (fun j v H3 H4 hj y z => ?_) (fun H3 y => ?_)⟩
      · obtain ⟨s3, k3, L3, eD3, mL3, lL3⟩ := y
        obtain ⟨rfl, gv⟩ := z
        have hj2 : j < 2 := hj
        obtain ⟨pj, sj, ev, hj', ej⟩ : ∃ (pj : Addr) (sj : Sd), v = .ref pj ∧ SideAt H4 pj sj ∧ [rs[i].1, rs[i].2][j]? = some sj := by
          have : j = 0 ∨ j = 1 := by omega
          rcases this with rfl | rfl
          · exact ⟨p1, rs[i].1, (Option.some.inj gv).symm, h1.kt k3, rfl⟩
          · exact ⟨p2, rs[i].2, (Option.some.inj gv).symm, h2.kt k3, rfl⟩
        subst ev
        refine ⟨wipe_one (n := "side"), .ref pj, rfl, _, KS sj, pj, rfl, hj', eD3, by rw [List.length_map]; exact small1000 (by omega), same_over s3 nD, k3.trans (KT.upd eD3 (fun xs e => nomatch e)), insS L3 sj, by rw [upd_same, put_const], fun s => ?_, Nat.le_trans (ins_len L3 sj) (by omega)⟩
        rw [ins_mem, mL3 s, List.take_add_one, ej, List.mem_append, or_assoc]
        simp
      · obtain ⟨s3, k3, L3, eD3, mL3, lL3⟩ := y
        refine ⟨s3, L3, eD3, fun s => ?_, ?_⟩
        · rw [mL3 s, ruleSd_take eq]
          simp
        · have : L3.length ≤ 2 * i + 2 := lL3
          omega
    obtain ⟨s1, L, eD, mL, lL⟩ := y
    rw [List.length_map, la] at mL lL
    rw [List.take_length] at mL
    refine ⟨D, _, eD, trivial, fun od => ?_⟩
    have sF : Same H (upd H1 D (.frz od (.dT (L.map fun t => (KS t, V.bl true))))) := same_over s1 nD
    have eF : (upd H1 D (.frz od (.dT (L.map fun t => (KS t, V.bl true))))) D = some (.frz od (.dT (L.map fun t => (KS t, V.bl true)))) := upd_same
    generalize upd H1 D (.frz od (.dT (L.map fun t => (KS t, V.bl true)))) = HF at sF eF ⊢
    refine ⟨.ref D, rfl, D, od, rfl, .inr ⟨_, eF, fun D2 nD2 => lc_it walk_keysT (fun i H' => Same HF H' ∧ ∃ L', H' D2 = some (.lst (sdR L')) ∧ SdsAt H' L' ∧ (∀ s, s ∈ L'.map (·.2) ↔ s ∈ L.take i ∧ othS tops s ≠ none) ∧ L'.length ≤ i) ⟨same_new nD2, [], upd_same, (fun _ h => absurd h List.not_mem_nil), (fun s => by simp), Nat.le_refl _⟩ (fun i H' _ y => y.1 _ _ eF) (fun i v H2 H3 hi y z => ?_) (fun H2 y => ?_)⟩⟩
    · obtain ⟨s2, L', eD2, hL', mL', lL'⟩ := y
      obtain ⟨rfl, k, v', qa, ekv, rfl, eqa⟩ := z
      obtain ⟨sd, esd, ekk⟩ := mapGet ekv
      injection ekk with ek _
      subst ek
      have hqa : SideAt H3 qa sd := eqa
      have oks : SideOk tops sd := by
        obtain ⟨q', hq', h⟩ := (mL sd).mp (List.mem_of_getElem? esd)
        rcases h with rfl | rfl
        · exact (rok q' hq').1
        · exact (rok q' hq').2
      have tk : ∀ s, s ∈ L.take (i + 1) ↔ s ∈ L.take i ∨ s = sd := fun s => by
        rw [List.take_add_one, esd, List.mem_append]
        simp
      refine ⟨wipe_one, .ref x, rfl, .ref qa, rfl, x, qa, tops, rs, sd, rfl, hp.keep (.same (sF.trans s2)), hqa, oks, fun H4 v s4 ho => ⟨rfl, _, rfl, ?_⟩⟩
      cases eo : othS tops sd with
      | none =>
        rw [eo] at ho
        cases (show v = .non from ho)
        refine iteFa rfl ⟨s2.trans s4, L', s4 _ _ eD2, hL'.keep (.same s4), fun s => ?_, by omega⟩
        rw [mL' s, tk s]
        constructor
        · rintro ⟨h1, h2⟩
          exact ⟨.inl h1, h2⟩
        · rintro ⟨h1 | h1, h2⟩
          · exact ⟨h1, h2⟩
          · exact absurd (h1 ▸ eo) h2
      | some o =>
        rw [eo] at ho
        obtain ⟨go, rfl, _⟩ := ho
        have eD4 := s4 _ _ eD2
        have lw : i < L.length := by simpa using hi
        refine iteTr rfl ⟨_, rfl, _, eD4, by rw [List.length_map]; exact small1000 (by omega), same_over (s2.trans s4) nD2, L' ++ [(qa, sd)], by rw [upd_same]; simp [sdR], ((hL'.keep (.same s4)).keep (Keep.upd eD4)).snoc ((hqa.keep (.same s4)).keep (Keep.upd eD4)), fun s => ?_, by rw [List.length_append]; simp only [List.length_cons, List.length_nil]; omega⟩
        rw [List.map_append, List.mem_append, mL' s, tk s]
        constructor
        · rintro (⟨h1, h2⟩ | h)
          · exact ⟨.inl h1, h2⟩
          · have : s = sd := by simpa using h
            exact ⟨.inr this, by rw [this, eo]; simp⟩
        · rintro ⟨h1 | h1, h2⟩
          · exact .inl ⟨h1, h2⟩
          · exact .inr (by simp [h1])
    · obtain ⟨s2, L', eD2, hL', mL', lL'⟩ := y
      rw [List.length_map] at mL' lL'
      rw [List.take_length] at mL'
      refine ⟨s2 _ _ eF, ?_⟩
      have nDD : D2 ≠ D := fun e => by
        rw [e, eF] at nD2
        cases nD2
      have kD : KT H2 (upd H2 D (.dT (L.map fun t => (KS t, V.bl true)))) := KT.upd (s2 _ _ eF) (fun xs e => nomatch e)
      exact q _ D2 L' (same_over (sF.trans s2) nD) (by rw [upd_ne nDD]; exact eD2) (hL'.kt kD) (fun s => by rw [mL' s, mL s]) (by omega)
end

/-! ### barred papers, of any want -/
section
variable {P : Program} {w : World} {K : PySem.W.Frag} {mg : Str → Option Value} {base : Heap}
def spBarG (K : PySem.W.Frag) (C : Addr) : Sp := fun vs H Q _ => ∃ (x g : Addr) (tops : List Int) (rs : List Rl) (Ls : List (Addr × Sd)), vs = [.ref x, .ref g] ∧ Wnt K C H x g tops rs Ls ∧
  (∀ H', Same H H' → (∀ s w, Rea tops rs (· ∈ Ls.map (·.2)) s → w ∈ Ls.map (·.2) → barsB tops s w = false) → Q .non H') ∧
  ∀ H' h c L R s w, Same H H' → H' h = some (.tup [.str "barred", .ref c]) → H' c = some (.tup (sdR L)) → SdsAt H' L → L.map (·.2) = R.reverse → RCh tops rs (Ls.map (·.2)) R → R.head? = some s → R.length ≤ 280 → Rea tops rs (· ∈ Ls.map (·.2)) s → w ∈ Ls.map (·.2) → barsB tops s w = true → Q (.ref h) H'
abbrev a_barred_paper : Stmt := topS 28
abbrev n_barred_paper : List Str := ["plan", "want", "ahead", "side", "wanted"]
theorem sc_barred_paper : FnScope n_barred_paper ["plan", "want"] (defScope a_barred_paper) := ⟨rfl, rfl, rfl, by decide +kernel, rfl, by decide +kernel, by decide +kernel⟩
set_option maxHeartbeats 8000000 in
theorem ok_barred_paper {f fRe fBr fCi : Addr} {fd fdRe fdBr fdCi : FuncData} {k : Nat} {C : Addr} (F : Fun K "barred_paper" "barred_paper" a_barred_paper f fd) (Re : Kn P w K mg base 4 "reached" ["plan", "starts"] (spRea K C) fRe fdRe) (Br : Kn P w K mg base 2 "bars" ["plan", "one", "other"] (spTwo C barsB) fBr fdBr) (Ci : Kn P w K mg base 1 "chain_in" ["ahead", "side"] spCin fCi fdCi)  (m_any : mg "any" = none) : FnOk P w K mg base CX0 (k + 5) f fd ["plan", "want"] (spBarG K C) := by
  refine F.ok sc_barred_paper (fun vs H Q E h => ?_) (fun cdv A outer s H vs Q E hr h => ?_)
  · obtain ⟨x, g, tops, rs, Ls, rfl, _⟩ := h
    rfl
  · obtain ⟨x, g, tops, rs, Ls, rfl, W, q0, q1⟩ := h
    refine ⟨_, (pss_cons (ps_set (i := 2) sc_barred_paper.nd rfl (.inl rfl) (pe_kn Re hr (by omega) (pa_cons (pv 0) (pa_cons (pv 1) pa_nil))))
      (pss_cons (ps_for PassesOwn.never rfl (pi_keys (pv 2)) (pg_name (i := 3) sc_barred_paper.nd rfl (.inr rfl))
        (pss_one (ps_if (pt_val (pe_callB (cr_any rfl) (by rfl) m_any (by decide +kernel) (pa_cons (
        pe_lc (own := [("wanted", 4)]) (g := (gName 4)) (tt := tYes) (te := (tCall (spTwo C barsB) [] E0 (tCons (tVar 0) (tCons (tVar 3) (tCons (tVar 4) tNil))))) rfl sc_barred_paper.nd (pi_tup (pv 1)) (blkOk_by (N := n_barred_paper) (sc := defScope a_barred_paper) (by decide +kernel))
          (fun _ _ _ _ _ => (pg_name (i := 4) sc_barred_paper.nd rfl (.inl rfl) (hf := .inr rfl))) (fun _ _ _ _ _ => pts_nil) (fun _ _ _ _ _ => (pe_kn Br hr (by omega) (pa_cons (pv 0) (pa_cons (pv 3) (pa_cons (pv 4) pa_nil)))))) pa_nil))) (pss_one (ps_ret (pe_tup (pa_cons pe_str (pa_cons (pe_kn Ci hr (by omega) (pa_cons (pv 2) (pa_cons (pv 3) pa_nil))) pa_nil))))) pss_nil)))
      (pss_one (ps_ret pe_non)))), ?_⟩
    have lS := W.lS
    refine ⟨.ref x, rfl, .ref g, rfl, x, g, tops, rs, Ls, rfl, W.hp, W.eg, W.hL, W.okS, W.rok, W.l40, W.lS, fun H1 d od kvs E s1 nd ed aK A cl lE => ?_⟩
    refine ⟨.ref d, rfl, d, od, rfl, .inr ⟨kvs, ed, for_it walk_keysT (fun i σ H' => (∃ u3, σ = [some (.ref x), some (.ref g), some (.ref d), u3, none]) ∧ Same H1 H' ∧ ∀ z ∈ (E.take i).map (·.1), ∀ w ∈ Ls.map (·.2), barsB tops z w = false) ⟨⟨_, rfl⟩, Same.refl _, (fun z h => absurd h (by simp))⟩ (fun i σ H' _ y => y.2.1 _ _ ed) (fun i v σ H2' H2 hi y z => ?_) (fun σ H2 y => ?_)⟩⟩
    · obtain ⟨⟨u3, rfl⟩, s2, al⟩ := y
      obtain ⟨rfl, k, v', qa, ekv, rfl, eqa⟩ := z
      obtain ⟨e, ee, ek, _⟩ := aK.get ekv
      have ek' : k = KS e.1 := ek
      subst ek'
      have hqa : SideAt H2 qa e.1 := eqa
      have me : e.1 ∈ E.map (·.1) := List.mem_map.mpr ⟨e, List.mem_of_getElem? ee, rfl⟩
      have re := (A.mem cl).mp me
      have oke := re.ok W.rok W.ok
      have s02 := s1.trans s2
      have W2 := W.same s02
      refine ⟨.ref g, rfl, g, rfl, ⟨_, W2.eg⟩, fun D nD => lc_it (walk_tup (xs := sdR Ls)) (fun j H' => Same H2 H' ∧ H' D = some (.lst (((Ls.take j).map fun z => barsB tops e.1 z.2).map V.bl))) ⟨same_new nD, upd_same⟩ (fun j H' _ y => sameT y.1 W2.eg) (fun j v H4 H3 hj y z => ?_) (fun H3 y => ?_)⟩
      · obtain ⟨s3, eD⟩ := y
        obtain ⟨rfl, gv⟩ := z
        obtain ⟨zz, ez, rfl⟩ := mapGet gv
        have hz := List.mem_of_getElem? ez
        refine ⟨wipe_one, .ref x, rfl, .ref qa, rfl, .ref zz.1, rfl, x, qa, zz.1, tops, rs, e.1, zz.2, rfl, W2.hp.keep (.same s3), hqa.keep (.same s3), (W2.hL zz hz).keep (.same s3), oke, W.okS zz hz, fun H5 s5 => ?_⟩
        refine ⟨_, s5 _ _ eD, ?_, same_over (s3.trans s5) nD, ?_⟩
        · rw [List.length_map, List.length_map, List.length_take]
          exact small1000 (by omega)
        · rw [upd_same, List.take_add_one, ez, List.map_append, List.map_append]
          rfl
      · obtain ⟨s3, eD⟩ := y
        have lr : (sdR Ls).length = Ls.length := List.length_map _
        rw [lr, List.take_length] at eD
        refine ⟨D, _, rfl, .inl (.inl eD), _, rfl, ite2 (fun c => ?_) (fun c => ?_)⟩
        · rw [List.any_map] at c
          obtain ⟨zz, hz, bz⟩ := List.any_eq_true.mp c
          refine ⟨.ref d, rfl, .ref qa, rfl, d, qa, od, kvs, E, tops, rs, Ls.map (·.2), e.1, rfl, (s2.trans s3) _ _ ed, aK.kt (KT.same (s2.trans s3)), A, lE, hqa.keep (.same s3), me, fun H4 cc L R s4 nc ec hL eL rc hd lR => ⟨(show 2 ≤ sizeLine by decide), fun h nh => ?_⟩⟩
          have sh := same_new (o := HO.tup [V.str "barred", V.ref cc]) nh
          exact q1 _ h cc L R e.1 zz.2 (((s02.trans s3).trans s4).trans sh) upd_same (sh _ _ ec) (hL.keep (.same sh)) eL rc hd lR re (List.mem_map.mpr ⟨zz, hz, rfl⟩) bz
        · refine ⟨⟨_, rfl⟩, s2.trans s3, fun z hz w hw => ?_⟩
          rw [List.take_add_one, ee, List.map_append] at hz
          rcases List.mem_append.mp hz with h | h
          · exact al z h w hw
          · have ez : z = e.1 := by simpa using h
            subst ez
            obtain ⟨zz, hzz, rfl⟩ := List.mem_map.mp hw
            cases b : barsB tops e.1 zz.2 with
            | false => rfl
            | true =>
              refine absurd ?_ c
              rw [List.any_map]
              exact List.any_eq_true.mpr ⟨zz, hzz, b⟩
    · obtain ⟨⟨u3, rfl⟩, s2, al⟩ := y
      refine q0 H2 (s1.trans s2) fun s w hs hw => al s ?_ w hw
      have lk := aK.length
      rw [lk, List.take_length]
      exact (A.mem cl).mpr hs
end
end K19

set_option Elab.async false
set_option linter.all false
set_option maxRecDepth 100000
namespace K19
open PySem PySem.Spec PyProof.Rows L2 NB

/-! ### turning, rings, what is forced, bounds -/
def rNe0 (K : PySem.W.Frag) : R2 := fun x y H Q => ∃ a b xs, x = .ref a ∧ y = .ref b ∧ SqT K H a xs ∧ SqT K H b [] ∧ Q (.bl (!xs.isEmpty)) H
theorem op_ne0R {X : Cx} (hu : X.A.units < cLine) : OpR X (compareOp .NotEq) (rNe0 X.K) := op_ne0 hu
section
variable {P : Program} {w : World} {K : PySem.W.Frag} {mg : Str → Option Value} {base : Heap}
def spTurn (C : Addr) : Sp := fun vs H Q _ => ∃ (x p : Addr) (tops : List Int) (rs : List Rl) (s o : Sd), vs = [.ref x, .ref p] ∧ PlanAt C H x tops rs ∧ (∀ q ∈ rs, RuleOk tops q) ∧ rs.length ≤ 40 ∧ SideAt H p s ∧ SideOk tops s ∧ othS tops s = some o ∧
  ∀ H' c L, Same H H' → H' c = some (.tup (sdR L)) → SdsAt H' L → CTo tops rs [o] s (L.map (·.2)) → L.length ≤ 281 → Q (.ref c) H'
abbrev a_turning : Stmt := topS 30
abbrev n_turning : List Str := ["plan", "side"]
theorem sc_turning : FnScope n_turning ["plan", "side"] (defScope a_turning) := ⟨rfl, rfl, rfl, by decide +kernel, rfl, by decide +kernel, by decide +kernel⟩
set_option maxHeartbeats 8000000 in
theorem ok_turning {f fCt fOt : Addr} {fd fdCt fdOt : FuncData} {k : Nat} {C : Addr} (F : Fun K "turning" "turning" a_turning f fd) (Ct : Kn P w K mg base 5 "chain_to" ["plan", "starts", "goal"] (spCto K C) fCt fdCt) (Ot : Kn P w K mg base 2 "other_side" ["plan", "side"] (spOth C) fOt fdOt)   : FnOk P w K mg base CX0 (k + 6) f fd ["plan", "side"] (spTurn C) := by
  refine F.ok sc_turning (fun vs H Q E h => ?_) (fun cdv A outer s H vs Q E hr h => ?_)
  · obtain ⟨x, p, tops, rs, s', o, rfl, _⟩ := h
    rfl
  · obtain ⟨x, p, tops, rs, s', o, rfl, hp, rok, l40, hs, ok, eo, q⟩ := h
    refine ⟨_, (pss_one (ps_ret (pe_kn Ct hr (by omega) (pa_cons (pv 0) (pa_cons (pe_tup (pa_cons (pe_kn Ot hr (by omega) (pa_cons (pv 0) (pa_cons (pv 1) pa_nil))) pa_nil)) (pa_cons (pv 1) pa_nil)))))), ?_⟩
    refine ⟨.ref x, rfl, .ref x, rfl, .ref p, rfl, x, p, tops, rs, s', rfl, hp, hs, ok, fun H1 v s1 ho => ?_⟩
    rw [eo] at ho
    obtain ⟨g, rfl, hg⟩ := ho
    refine ⟨(show 1 ≤ sizeLine by decide), fun t nt => ?_⟩
    have st := same_new (o := HO.tup [V.ref g]) nt
    have s2 := s1.trans st
    refine ⟨.ref p, rfl, x, t, p, tops, rs, [(g, o)], s', rfl, hp.keep (.same s2), .inl (.inl upd_same), fun z hz => ?_, fun z hz => ?_, rok, l40, by simp, hs.keep (.same s2), ok, fun H3 c L s3 ec hL ct lL => q H3 c L (s2.trans s3) ec hL ct lL⟩
    · rw [List.mem_singleton.mp hz]
      exact hg.keep (.same st)
    · rw [List.mem_singleton.mp hz]
      exact oth_ok ok eo
def spNon1 (C : Addr) : Sp := fun vs H Q _ => ∃ (x : Addr) (tops : List Int) (rs : List Rl), vs = [.ref x] ∧ PlanAt C H x tops rs ∧ (∀ q ∈ rs, RuleOk tops q) ∧ rs.length ≤ 40 ∧ (∃ st, st ∈ goods tops rs) ∧ ∀ H', Same H H' → Q .non H'
abbrev a_ring_paper : Stmt := topS 31
abbrev n_ring_paper : List Str := ["plan", "side", "back", "there"]
theorem sc_ring_paper : FnScope n_ring_paper ["plan"] (defScope a_ring_paper) := ⟨rfl, rfl, rfl, by decide +kernel, rfl, by decide +kernel, by decide +kernel⟩
set_option maxHeartbeats 8000000 in
theorem ok_ring_paper {f fRs fTu fOt : Addr} {fd fdRs fdTu fdOt : FuncData} {k : Nat} {C : Addr} (F : Fun K "ring_paper" "ring_paper" a_ring_paper f fd) (Rs : Kn P w K mg base 3 "rule_sides" ["plan"] (spRs C) fRs fdRs) (Tu : Kn P w K mg base 6 "turning" ["plan", "side"] (spTurn C) fTu fdTu) (Ot : Kn P w K mg base 2 "other_side" ["plan", "side"] (spOth C) fOt fdOt)   : FnOk P w K mg base CX0 (k + 7) f fd ["plan"] (spNon1 C) := by
  refine F.ok sc_ring_paper (fun vs H Q E h => ?_) (fun cdv A outer s H vs Q E hr h => ?_)
  · obtain ⟨x, tops, rs, rfl, _⟩ := h
    rfl
  · obtain ⟨x, tops, rs, rfl, hp, rok, l40, had, q⟩ := h
    refine ⟨_, (pss_cons (ps_for PassesOwn.never rfl (pi_list (pe_kn Rs hr (by omega) (pa_cons (pv 0) pa_nil))) (pg_name (i := 1) sc_ring_paper.nd rfl (.inl rfl))
        (pss_cons (ps_set (i := 2) sc_ring_paper.nd rfl (.inl rfl) (pe_kn Tu hr (by omega) (pa_cons (pv 0) (pa_cons (pv 1) pa_nil))))
      (pss_cons (ps_set (i := 3) sc_ring_paper.nd rfl (.inl rfl) (pe_ifExp (pt_cmpR (op_ne0 hr.units0) (pv 2) (pe_tup pa_nil) (nomark _)) (pe_kn Tu hr (by omega) (pa_cons (pv 0) (pa_cons (pe_kn Ot hr (by omega) (pa_cons (pv 0) (pa_cons (pv 1) pa_nil))) pa_nil))) (pe_tup pa_nil)))
      (pss_one (ps_if (pt_cmpR (op_ne0 hr.units0) (pv 3) (pe_tup pa_nil) (nomark _)) (pss_one (ps_ret (pe_tup (pa_cons pe_str (pa_cons (pv 3) (pa_cons (pv 2) pa_nil)))))) pss_nil)))))
      (pss_one (ps_ret pe_non))), ?_⟩
    obtain ⟨st, hst⟩ := had
    refine ⟨.ref x, rfl, x, tops, rs, rfl, hp, rok, l40, fun H1 l L s1 el hL mL lL => ⟨l, rfl, ⟨_, .inl (.inl el)⟩, ?_⟩⟩
    refine for_it (walk_list (xs := sdR L)) (fun i σ H' => (∃ u1 u2 u3, σ = [some (.ref x), u1, u2, u3]) ∧ Same H1 H') ⟨⟨_, _, _, rfl⟩, Same.refl _⟩ (fun i σ H' _ y => .inl (.inl (y.2 _ _ el))) (fun i v σ H2 H2' hi y z => ?_) (fun σ H2 y => q H2 (s1.trans y.2))
    obtain ⟨⟨u1, u2, u3, rfl⟩, s2⟩ := y
    obtain ⟨rfl, gv⟩ := z
    obtain ⟨zz, ez, rfl⟩ := mapGet gv
    have hz := List.mem_of_getElem? ez
    obtain ⟨hr1, hr2⟩ := (mL zz.2).mp (List.mem_map.mpr ⟨zz, hz, rfl⟩)
    have ok : SideOk tops zz.2 := by
      obtain ⟨q', hq', h⟩ := hr1
      rcases h with e | e
      · rw [e]; exact (rok q' hq').1
      · rw [e]; exact (rok q' hq').2
    obtain ⟨o, eo⟩ := Option.ne_none_iff_exists'.mp hr2
    have s02 := s1.trans s2
    refine ⟨.ref x, rfl, .ref zz.1, rfl, x, zz.1, tops, rs, zz.2, o, rfl, hp.keep (.same s02), rok, l40, (hL zz hz).keep (.same s2), ok, eo, fun H3 c L3 s3 ec hL3 ct lL3 => ?_⟩
    refine ⟨.ref c, rfl, Nat.zero_le _, fun z0 nz0 => ?_⟩
    have sz := same_new (o := HO.tup []) nz0
    have s24 := (s2.trans s3).trans sz
    refine ⟨c, z0, _, rfl, rfl, .inl (.inl (sz _ _ ec)), .inl (.inl upd_same), _, rfl, ?_⟩
    cases hc : (sdR L3).isEmpty with
    | true =>
      refine iteFa rfl ⟨Nat.zero_le _, fun t nt => ?_⟩
      have st' := same_new (o := HO.tup []) nt
      refine ⟨.ref t, rfl, Nat.zero_le _, fun z1 nz1 => ?_⟩
      have s1' := same_new (o := HO.tup []) nz1
      exact ⟨t, z1, [], rfl, rfl, .inl (.inl (s1' _ _ upd_same)), .inl (.inl upd_same), _, rfl, iteFa rfl ⟨⟨_, _, _, rfl⟩, (s24.trans st').trans s1'⟩⟩
    | false =>
      have tn : Tn tops rs zz.2 := (cto_tn ct eo).mp fun e => by
        have e' : L3 = [] := List.map_eq_nil_iff.mp e
        rw [e'] at hc
        cases hc
      have is := tn.in' rok hst ok
      have s14 := s1.trans s24
      refine iteTr rfl ⟨.ref x, rfl, .ref x, rfl, .ref zz.1, rfl, x, zz.1, tops, rs, zz.2, rfl, hp.keep (.same s14), (hL zz hz).keep (.same s24), ok, fun H5 v s5 ho => ?_⟩
      rw [eo] at ho
      obtain ⟨g, rfl, hg⟩ := ho
      have oko := oth_ok ok eo
      obtain ⟨o', eo'⟩ := oth_back ok eo
      refine ⟨x, g, tops, rs, o, o', rfl, hp.keep (.same (s14.trans s5)), rok, l40, hg, oko, eo', fun H6 c6 L6 s6 ec6 hL6 ct6 lL6 => ?_⟩
      have e6 : L6 = [] := by
        by_cases ce : L6.map (·.2) = []
        · exact List.map_eq_nil_iff.mp ce
        · have io := ((cto_tn ct6 eo').mp ce).in' rok hst oko
          rw [oth_in hst ok eo, is] at io
          cases io
      subst e6
      refine ⟨.ref c6, rfl, Nat.zero_le _, fun z1 nz1 => ?_⟩
      have s1' := same_new (o := HO.tup []) nz1
      exact ⟨c6, z1, [], rfl, rfl, .inl (.inl (s1' _ _ ec6)), .inl (.inl upd_same), _, rfl, iteFa rfl ⟨⟨_, _, _, rfl⟩, ((s24.trans s5).trans s6).trans s1'⟩⟩
/-- the paper that a want is barred -/
structure BarAt (H : Hp) (h : Addr) (tops : List Int) (rs : List Rl) (Ls : List (Addr × Sd)) : Prop where
  ex : ∃ (c : Addr) (L : List (Addr × Sd)) (R : List Sd) (s w : Sd), H h = some (.tup [.str "barred", .ref c]) ∧ H c = some (.tup (sdR L)) ∧ SdsAt H L ∧ L.map (·.2) = R.reverse ∧ RCh tops rs (Ls.map (·.2)) R ∧ R.head? = some s ∧ R.length ≤ 280 ∧ Rea tops rs (· ∈ Ls.map (·.2)) s ∧ w ∈ Ls.map (·.2) ∧ barsB tops s w = true
theorem BarAt.same {H H' : Hp} {h : Addr} {tops : List Int} {rs : List Rl} {Ls : List (Addr × Sd)} (b : BarAt H h tops rs Ls) (s : Same H H') : BarAt H' h tops rs Ls := by
  obtain ⟨c, L, R, s', w, e1, e2, e3, e4⟩ := b.ex
  exact ⟨c, L, R, s', w, s _ _ e1, s _ _ e2, e3.keep (.same s), e4⟩
def spNoneG (K : PySem.W.Frag) (C : Addr) : Sp := fun vs H Q _ => ∃ (x g : Addr) (tops : List Int) (rs : List Rl) (Ls : List (Addr × Sd)), vs = [.ref x, .ref g] ∧ Wnt K C H x g tops rs Ls ∧ (∃ st, st ∈ goods tops rs) ∧ (∀ H', Same H H' → Had tops rs Ls → Q .non H') ∧ ∀ H' h, Same H H' → BarAt H' h tops rs Ls → ¬ Had tops rs Ls → Q (.ref h) H'
abbrev a_none_paper : Stmt := topS 32
abbrev n_none_paper : List Str := ["plan", "want", "paper"]
theorem sc_none_paper : FnScope n_none_paper ["plan", "want"] (defScope a_none_paper) := ⟨rfl, rfl, rfl, by decide +kernel, rfl, by decide +kernel, by decide +kernel⟩
set_option maxHeartbeats 8000000 in
theorem ok_none_paper {f fBp fRp : Addr} {fd fdBp fdRp : FuncData} {k : Nat} {C : Addr} (F : Fun K "none_paper" "none_paper" a_none_paper f fd) (Bp : Kn P w K mg base 5 "barred_paper" ["plan", "want"] (spBarG K C) fBp fdBp) (Rp : Kn P w K mg base 7 "ring_paper" ["plan"] (spNon1 C) fRp fdRp)   : FnOk P w K mg base CX0 (k + 8) f fd ["plan", "want"] (spNoneG K C) := by
  refine F.ok sc_none_paper (fun vs H Q E h => ?_) (fun cdv A outer s H vs Q E hr h => ?_)
  · obtain ⟨x, g, tops, rs, Ls, rfl, _⟩ := h
    rfl
  · obtain ⟨x, g, tops, rs, Ls, rfl, W, hs, q0, q1⟩ := h
    refine ⟨_, (pss_cons (ps_set (i := 2) sc_none_paper.nd rfl (.inl rfl) (pe_kn Bp hr (by omega) (pa_cons (pv 0) (pa_cons (pv 1) pa_nil))))
      (pss_cons (ps_if (pt_cmpR op_isN (pv 2) pe_non (nomark _)) (pss_one (ps_set (i := 2) sc_none_paper.nd rfl (.inl rfl) (pe_kn Rp hr (by omega) (pa_cons (pv 0) pa_nil)))) pss_nil)
      (pss_one (ps_ret (pv 2))))), ?_⟩
    obtain ⟨st, hst⟩ := hs
    refine ⟨.ref x, rfl, .ref g, rfl, x, g, tops, rs, Ls, rfl, W, fun H1 s1 nb => ?_, fun H1 h c L R s w s1 eh ec hL eL rc hd lR re hw b => ?_⟩
    · have had : Had tops rs Ls := (some_goodS W.rok W.pl hst W.ok).resolve_right fun ⟨w, z, hw, hz, b⟩ => by
        rw [nb z w hz hw] at b
        cases b
      exact ⟨_, rfl, rfl, _, rfl, iteTr rfl ⟨.ref x, rfl, x, tops, rs, rfl, W.hp.keep (.same s1), W.rok, W.l40, ⟨st, hst⟩, fun H2 s2 => ⟨_, rfl, q0 H2 (s1.trans s2) had⟩⟩⟩
    · exact ⟨_, rfl, rfl, _, rfl, iteFa rfl ⟨_, rfl, q1 H1 h s1 ⟨c, L, R, s, w, eh, ec, hL, eL, rc, hd, lR, re, hw, b⟩ (bar_none W.rok W.ok hw re b)⟩⟩
/-- of wants that are had -/
def spNone (K : PySem.W.Frag) (C : Addr) : Sp := fun vs H Q _ => ∃ (x g : Addr) (tops : List Int) (rs : List Rl) (Ls : List (Addr × Sd)), vs = [.ref x, .ref g] ∧ Wnt K C H x g tops rs Ls ∧ Had tops rs Ls ∧ ∀ H', Same H H' → Q .non H'
theorem none_of {vs : List V} {H : Hp} {Q : VK} {E : XK} {C : Addr} (h : spNone K C vs H Q E) : spNoneG K C vs H Q E := by
  obtain ⟨x, g, tops, rs, Ls, e, W, had, q⟩ := h
  have had' := had
  obtain ⟨st, hst, _⟩ := had'
  exact ⟨x, g, tops, rs, Ls, e, W, ⟨st, hst⟩, fun H' s _ => q H' s, fun H' h s b n => absurd had n⟩
def spForced (C : Addr) : Sp := fun vs H Q _ => ∃ (x : Addr) (tops : List Int) (rs : List Rl), vs = [.ref x] ∧ PlanAt C H x tops rs ∧ (∀ q ∈ rs, RuleOk tops q) ∧ rs.length ≤ 40 ∧
  ∀ H' g L, Same H H' → H' g = some (.tup (sdR L)) → SdsAt H' L → (∀ s, s ∈ L.map (·.2) ↔ Frc tops rs s) → L.length ≤ 80 → Q (.ref g) H'
abbrev a_forced : Stmt := topS 33
abbrev n_forced : List Str := ["plan", "side"]
theorem sc_forced : FnScope n_forced ["plan"] (defScope a_forced) := ⟨rfl, rfl, rfl, by decide +kernel, rfl, by decide +kernel, by decide +kernel⟩
set_option maxHeartbeats 8000000 in
theorem ok_forced {f fRs fTu : Addr} {fd fdRs fdTu : FuncData} {k : Nat} {C : Addr} (F : Fun K "forced" "forced" a_forced f fd) (Rs : Kn P w K mg base 3 "rule_sides" ["plan"] (spRs C) fRs fdRs) (Tu : Kn P w K mg base 6 "turning" ["plan", "side"] (spTurn C) fTu fdTu)  (m_tuple : mg "tuple" = none) : FnOk P w K mg base CX0 (k + 7) f fd ["plan"] (spForced C) := by
  refine F.ok sc_forced (fun vs H Q E h => ?_) (fun cdv A outer s H vs Q E hr h => ?_)
  · obtain ⟨x, tops, rs, rfl, _⟩ := h
    rfl
  · obtain ⟨x, tops, rs, rfl, hp, rok, l40, q⟩ := h
    refine ⟨_, (pss_one (ps_ret (pe_callTy call_tuple_of (by rfl) m_tuple (by decide +kernel) (pa_cons (
        pe_lc (own := [("side", 1)]) (g := (gName 1)) (tt := (tTest (tOp (rNe0 K) (tCall (spTurn C) [] E0 (tCons (tVar 0) (tCons (tVar 1) tNil))) (tTup tNil)))) (te := (tVar 1)) rfl sc_forced.nd (pi_list (pe_kn Rs hr (by omega) (pa_cons (pv 0) pa_nil))) (blkOk_by (N := n_forced) (sc := defScope a_forced) (by decide +kernel))
          (fun _ _ _ _ _ => (pg_name (i := 1) sc_forced.nd rfl (.inl rfl) (hf := .inr rfl))) (fun _ _ _ _ _ => pts_one (pt_cmpR (op_ne0R hr.units0) (pe_kn Tu hr (by omega) (pa_cons (pv 0) (pa_cons (pv 1) pa_nil))) (pe_tup pa_nil) (nomark _))) (fun _ _ _ _ _ => (pv 1))) pa_nil)))), ?_⟩
    refine ⟨.ref x, rfl, x, tops, rs, rfl, hp, rok, l40, fun H1 l L s1 el hL mL lL => ⟨l, rfl, ⟨_, .inl (.inl el)⟩, fun D nD => ?_⟩⟩
    refine lc_it (walk_list (xs := sdR L)) (fun i H' => Same H1 H' ∧ ∃ L', H' D = some (.lst (sdR L')) ∧ SdsAt H' L' ∧ (∀ s, s ∈ L'.map (·.2) ↔ s ∈ (L.take i).map (·.2) ∧ Tn tops rs s) ∧ L'.length ≤ i) ⟨same_new nD, [], upd_same, (fun _ h => absurd h List.not_mem_nil), (fun s => by simp), Nat.le_refl _⟩ (fun i H' _ y => .inl (.inl (y.1 _ _ el))) (fun i v H2 H2' hi y z => ?_) (fun H2 y => ?_)
    · obtain ⟨s2, L', eD, hL', mL', lL'⟩ := y
      obtain ⟨rfl, gv⟩ := z
      obtain ⟨zz, ez, rfl⟩ := mapGet gv
      have hz := List.mem_of_getElem? ez
      obtain ⟨hr1, hr2⟩ := (mL zz.2).mp (List.mem_map.mpr ⟨zz, hz, rfl⟩)
      have ok : SideOk tops zz.2 := by
        obtain ⟨q', hq', h⟩ := hr1
        rcases h with e | e
        · rw [e]; exact (rok q' hq').1
        · rw [e]; exact (rok q' hq').2
      obtain ⟨o, eo⟩ := Option.ne_none_iff_exists'.mp hr2
      have lw : i < L.length := by simpa using hi
      have tk : ∀ s, s ∈ (L.take (i + 1)).map (·.2) ↔ s ∈ (L.take i).map (·.2) ∨ s = zz.2 := fun s => by
        rw [List.take_add_one, ez, List.map_append, List.mem_append]
        simp
      refine ⟨wipe_one, .ref x, rfl, .ref zz.1, rfl, x, zz.1, tops, rs, zz.2, o, rfl, hp.keep (.same (s1.trans s2)), rok, l40, (hL zz hz).keep (.same s2), ok, eo, fun H3 c L3 s3 ec hL3 ct lL3 => ⟨Nat.zero_le _, fun z0 nz0 => ?_⟩⟩
      have sz := s3.trans (same_new (o := HO.tup []) nz0)
      refine ⟨c, z0, _, rfl, rfl, .inl (.inl (same_new (o := HO.tup []) nz0 _ _ ec)), .inl (.inl upd_same), _, rfl, ?_⟩
      have eD4 := sz _ _ eD
      cases hc : (sdR L3).isEmpty with
      | true =>
        have nt : ¬ Tn tops rs zz.2 := fun h => (cto_tn ct eo).mpr h (by
          rw [List.isEmpty_iff] at hc
          have : L3 = [] := List.map_eq_nil_iff.mp hc
          rw [this]
          rfl)
        refine iteFa rfl ⟨s2.trans sz, L', eD4, hL'.keep (.same sz), fun s => ?_, by omega⟩
        rw [mL' s, tk s]
        constructor
        · rintro ⟨h1, h2⟩
          exact ⟨.inl h1, h2⟩
        · rintro ⟨h1 | h1, h2⟩
          · exact ⟨h1, h2⟩
          · exact absurd (h1 ▸ h2) nt
      | false =>
        have tn : Tn tops rs zz.2 := (cto_tn ct eo).mp fun e => by
          have e' : L3 = [] := List.map_eq_nil_iff.mp e
          rw [e'] at hc
          cases hc
        refine iteTr rfl ⟨_, rfl, _, eD4, by rw [List.length_map]; exact small1000 (by omega), same_over (s2.trans sz) nD, L' ++ [zz], by rw [upd_same]; simp [sdR], ((hL'.keep (.same sz)).keep (Keep.upd eD4)).snoc (((hL zz hz).keep (.same (s2.trans sz))).keep (Keep.upd eD4)), fun s => ?_, by rw [List.length_append]; simp only [List.length_cons, List.length_nil]; omega⟩
        rw [List.map_append, List.mem_append, mL' s, tk s]
        constructor
        · rintro (⟨h1, h2⟩ | h)
          · exact ⟨.inl h1, h2⟩
          · have : s = zz.2 := by simpa using h
            exact ⟨.inr this, this ▸ tn⟩
        · rintro ⟨h1 | h1, h2⟩
          · exact .inl ⟨h1, h2⟩
          · exact .inr (by simp [h1])
    · obtain ⟨s2, L', eD, hL', mL', lL'⟩ := y
      rw [List.length_map] at mL' lL'
      rw [List.take_length] at mL'
      refine ⟨D, _, rfl, .inl ⟨.inl (.inl eD), fun r nr => ?_⟩⟩
      have sr := same_new (o := HO.tup (sdR L')) nr
      refine q _ r L' ((s1.trans s2).trans sr) upd_same (hL'.keep (.same sr)) (fun s => ?_) (by omega)
      rw [mL' s, mL s]
      constructor
      · rintro ⟨⟨h1, _⟩, h2⟩
        exact ⟨h1, h2⟩
      · rintro ⟨h1, h2⟩
        refine ⟨⟨h1, ?_⟩, h2⟩
        obtain ⟨o, eo, _⟩ := h2
        rw [eo]
        simp
def spBoG (K : PySem.W.Frag) (C : Addr) : Sp := fun vs H Q _ => ∃ (x g : Addr) (tops : List Int) (rs : List Rl) (Ls : List (Addr × Sd)), vs = [.ref x, .ref g] ∧ Wnt K C H x g tops rs Ls ∧ (∃ st, st ∈ goods tops rs) ∧ Ls.length ≤ 100 ∧
  (∀ H' h p lows highs, Same H H' → Had tops rs Ls → H' h = some (.tup [.str "bounds", .ref p]) → BndAt H' p lows highs → Fol tops rs (fun s => s ∈ Ls.map (·.2) ∨ Frc tops rs s) lows highs → Q (.ref h) H') ∧ ∀ H' h h', Same H H' → H' h = some (.tup [.str "none", .ref h']) → BarAt H' h' tops rs Ls → ¬ Had tops rs Ls → Q (.ref h) H'
abbrev a_bounds : Stmt := topS 34
abbrev n_bounds : List Str := ["plan", "want", "paper"]
theorem sc_bounds : FnScope n_bounds ["plan", "want"] (defScope a_bounds) := ⟨rfl, rfl, rfl, by decide +kernel, rfl, by decide +kernel, by decide +kernel⟩
set_option maxHeartbeats 8000000 in
theorem ok_bounds {f fNp fFo fFl : Addr} {fd fdNp fdFo fdFl : FuncData} {k : Nat} {C : Addr} {ed : Addr} (F : FunD K "bounds" "bounds" (defArgs a_bounds) (defBody a_bounds) (defScope a_bounds) [V.ref ed] [] f fd) (Np : Kn P w K mg base 8 "none_paper" ["plan", "want"] (spNoneG K C) fNp fdNp) (Fo : Kn P w K mg base 7 "forced" ["plan"] (spForced C) fFo fdFo) (Fl : Kn P w K mg base 5 "follows" ["plan", "want"] (spFol K C) fFl fdFl)   : FnOk P w K mg base CX0 (k + 9) f fd ["plan", "want"] (spBoG K C) := by
  refine F.ok sc_bounds (fun vs H Q E h => ?_) (fun cdv A outer s H vs Q E hr h => ?_)
  · obtain ⟨x, g, tops, rs, Ls, rfl, _⟩ := h
    rfl
  · obtain ⟨x, g, tops, rs, Ls, rfl, W, hs, l100, q, q1⟩ := h
    refine ⟨_, (pss_cons (ps_set (i := 2) sc_bounds.nd rfl (.inl rfl) (pe_kn Np hr (by omega) (pa_cons (pv 0) (pa_cons (pv 1) pa_nil))))
      (pss_cons (ps_if (pt_cmpR op_notN (pv 2) pe_non (nomark _)) (pss_one (ps_ret (pe_tup (pa_cons pe_str (pa_cons (pv 2) pa_nil))))) pss_nil)
      (pss_one (ps_ret (pe_tup (pa_cons pe_str (pa_cons (pe_kn Fl hr (by omega) (pa_cons (pv 0) (pa_cons (pe_op (r := rCatA K) op_catA (pv 1) (pe_kn Fo hr (by omega) (pa_cons (pv 0) pa_nil))) pa_nil))) pa_nil))))))), ?_⟩
    refine ⟨.ref x, rfl, .ref g, rfl, x, g, tops, rs, Ls, rfl, W, hs, fun H1 s1 had => ?_, fun H1 h' s1 bar nhad => ?_⟩
    rotate_left
    · refine ⟨_, rfl, rfl, _, rfl, iteTr rfl ⟨_, rfl, (show 2 ≤ sizeLine by decide), fun h nh => ?_⟩⟩
      have sh := same_new (o := HO.tup [V.str "none", V.ref h']) nh
      exact q1 _ h h' (s1.trans sh) upd_same (bar.same sh) nhad
    have W1 := W.same s1
    refine ⟨_, rfl, rfl, _, rfl, iteFa rfl ⟨.ref x, rfl, .ref g, rfl, .ref x, rfl, x, tops, rs, rfl, W1.hp, W.rok, W.l40, fun H2 f L s2 ef hL mL lL => ?_⟩⟩
    have W2 := W1.same s2
    refine cat_sq W2.eg (.inl (.inl ef)) (by rw [List.length_map, List.length_map]; omega) fun c H3 s3 ec => ?_
    have W3 := W2.same s3
    have eL : sdR Ls ++ sdR L = sdR (Ls ++ L) := (List.map_append ..).symm
    rw [eL] at ec
    refine ⟨x, c, tops, rs, Ls ++ L, rfl, ⟨W3.hp, ec, fun z hz => ?_, fun z hz => ?_, W.rok, W.l40, by rw [List.length_append]; omega, W.l12, W.pl⟩, fun H4 p lows highs s4 np hb F => ⟨(show 2 ≤ sizeLine by decide), fun h nh => ?_⟩⟩
    · rcases List.mem_append.mp hz with h | h
      · exact W3.hL z h
      · exact (hL z h).keep (.same s3)
    · rcases List.mem_append.mp hz with h | h
      · exact W.okS z h
      · exact frc_ok W.rok ((mL z.2).mp (List.mem_map.mpr ⟨z, h, rfl⟩))
    · have sh := same_new (o := HO.tup [V.str "bounds", V.ref p]) nh
      refine q _ h p lows highs ((((s1.trans s2).trans s3).trans s4).trans sh) had upd_same (hb.keep (.same sh)) (F.iff fun s => ?_)
      rw [List.map_append, List.mem_append, mL s]
def spBo (K : PySem.W.Frag) (C : Addr) : Sp := fun vs H Q _ => ∃ (x g : Addr) (tops : List Int) (rs : List Rl) (Ls : List (Addr × Sd)), vs = [.ref x, .ref g] ∧ Wnt K C H x g tops rs Ls ∧ Had tops rs Ls ∧ Ls.length ≤ 100 ∧
  ∀ H' h p lows highs, Same H H' → H' h = some (.tup [.str "bounds", .ref p]) → BndAt H' p lows highs → Fol tops rs (fun s => s ∈ Ls.map (·.2) ∨ Frc tops rs s) lows highs → Q (.ref h) H'
theorem bo_of {vs : List V} {H : Hp} {Q : VK} {E : XK} {C : Addr} (h : spBo K C vs H Q E) : spBoG K C vs H Q E := by
  obtain ⟨x, g, tops, rs, Ls, e, W, had, l, q⟩ := h
  have had' := had
  obtain ⟨st, hst, _⟩ := had'
  exact ⟨x, g, tops, rs, Ls, e, W, ⟨st, hst⟩, l, fun H' h p lows highs s _ e b F => q H' h p lows highs s e b F, fun H' h h' s e b n => absurd had n⟩
end
end K19

set_option Elab.async false
set_option linter.all false
set_option maxRecDepth 100000
namespace K19
open PySem PySem.Spec PyProof.Rows L2 NB

/-! ### wants had, the nearest that has one, whether a way leads -/
/-- the good standing that has a want and lies between -/
structure Nrst (tops : List Int) (rs : List Rl) (W : List Sd) (st n : List Int) : Prop where
  good : n ∈ goods tops rs
  has : ∀ s ∈ W, inB n s = true
  btw : ∀ g ∈ goods tops rs, (∀ s ∈ W, inB g s = true) → ∀ i, i < tops.length → Btw (plc st i) (plc n i) (plc g i)
theorem Fol.nrst {tops : List Int} {rs : List Rl} (rok : ∀ q ∈ rs, RuleOk tops q) {W : List Sd} (ok : ∀ s, s ∈ W → SideOk tops s) {lows highs st g0 : List Int} (F : Fol tops rs (· ∈ W) lows highs) (hst : st ∈ goods tops rs) (hg0 : g0 ∈ goods tops rs) (i0 : ∀ s ∈ W, inB g0 s = true) : Nrst tops rs W st (pullF lows highs st) := by
  have cr := F.cross rok ok hg0 i0
  obtain ⟨h1, h2⟩ := F.good rok ok cr hst
  refine ⟨h1, fun s hs => h2 s (.base hs), fun g hg ig i hi => ?_⟩
  have sd := F.sound rok ok hg ig hi
  have ls := goods_len hst
  rw [plc_pull (by omega)]
  unfold Btw
  omega
section
variable {P : Program} {w : World} {K : PySem.W.Frag} {mg : Str → Option Value} {base : Heap}
def spNear (K : PySem.W.Frag) (C : Addr) : Sp := fun vs H Q _ => ∃ (x a g : Addr) (tops st : List Int) (rs : List Rl) (Ls : List (Addr × Sd)), vs = [.ref x, .ref a, .ref g] ∧ Wnt K C H x g tops rs Ls ∧ Had tops rs Ls ∧ H a = some (.tup (st.map V.int)) ∧ st ∈ goods tops rs ∧
  ∀ H' p n, Same H H' → H' p = some (.tup (n.map V.int)) → Nrst tops rs (Ls.map (·.2)) st n → Q (.ref p) H'
abbrev a_nearest : Stmt := topS 40
abbrev n_nearest : List Str := ["plan", "standing", "want", "paper"]
theorem sc_nearest : FnScope n_nearest ["plan", "standing", "want"] (defScope a_nearest) := ⟨rfl, rfl, rfl, by decide +kernel, rfl, by decide +kernel, by decide +kernel⟩
set_option maxHeartbeats 8000000 in
theorem ok_nearest {f fNp fPu : Addr} {fd fdNp fdPu : FuncData} {k : Nat} {C : Addr} (F : Fun K "nearest" "nearest" a_nearest f fd) (Np : Kn P w K mg base 8 "none_paper" ["plan", "want"] (spNoneG K C) fNp fdNp) (Pu : Kn P w K mg base 6 "pulled" ["plan", "standing", "want"] (spPull K C) fPu fdPu)   : FnOk P w K mg base CX0 (k + 9) f fd ["plan", "standing", "want"] (spNear K C) := by
  refine F.ok sc_nearest (fun vs H Q E h => ?_) (fun cdv A outer s H vs Q E hr h => ?_)
  · obtain ⟨x, a, g, tops, st, rs, Ls, rfl, _⟩ := h
    rfl
  · obtain ⟨x, a, g, tops, st, rs, Ls, rfl, W, had, ea, hst, q⟩ := h
    refine ⟨_, (pss_cons (ps_set (i := 3) sc_nearest.nd rfl (.inl rfl) (pe_kn Np hr (by omega) (pa_cons (pv 0) (pa_cons (pv 2) pa_nil))))
      (pss_cons (ps_if (pt_cmpR op_notN (pv 3) pe_non (nomark _)) (pss_one (ps_never)) pss_nil)
      (pss_one (ps_ret (pe_kn Pu hr (by omega) (pa_cons (pv 0) (pa_cons (pv 1) (pa_cons (pv 2) pa_nil)))))))), ?_⟩
    have had' := had
    obtain ⟨g0, hg0, i0⟩ := had'
    refine ⟨.ref x, rfl, .ref g, rfl, x, g, tops, rs, Ls, rfl, W, ⟨g0, hg0⟩, fun H1 s1 _ => ?_, fun H1 h s1 b n => absurd had n⟩
    refine ⟨_, rfl, rfl, _, rfl, iteFa rfl ⟨.ref x, rfl, .ref a, rfl, .ref g, rfl, x, a, g, tops, st, rs, Ls, rfl, W.same s1, s1 _ _ ea, goods_len hst, fun H2 p lows highs s2 ep F => q H2 p _ (s1.trans s2) ep (F.nrst W.rok W.ok hst hg0 i0)⟩⟩
end

/-! ### all standings, all good ones -/
/-- a list of standings -/
def LsAt (H : Hp) (ps : List (Addr × List Int)) : Prop := ∀ z ∈ ps, H z.1 = some (.tup (z.2.map V.int))
theorem LsAt.same {H H' : Hp} {ps : List (Addr × List Int)} (h : LsAt H ps) (s : Same H H') : LsAt H' ps := fun z hz => s _ _ (h z hz)
theorem LsAt.keep {H H' : Hp} {ps : List (Addr × List Int)} (h : LsAt H ps) (k : Keep H H') : LsAt H' ps := fun z hz => k.tup (h z hz)
theorem LsAt.app {H : Hp} {ps qs : List (Addr × List Int)} (h : LsAt H ps) (h' : LsAt H qs) : LsAt H (ps ++ qs) := fun z hz => by
  rcases List.mem_append.mp hz with q | q
  · exact h z q
  · exact h' z q
end K19

set_option Elab.async false
set_option linter.all false
set_option maxRecDepth 100000
namespace K19
open PySem PySem.Spec PyProof.Rows L2 NB

/-! ### lists of standings as data -/
theorem Room.u65 {k : Nat} {A : Around} (r : Room k A) : A.units + 65 < cLine := by have := r.un; omega
theorem not_diff {a b : V} (e : a = b) {P Q : Prop} (h : Q) : if (!decide (a = b)) = true then P else Q := by
  rw [decide_eq_true e]
  exact h
def lsD (ps : List (Addr × List Int)) : List PyData := ps.map fun z => .tuple (z.2.map PyData.int)
theorem lsD_dp {K : PySem.W.Frag} {H : Hp} : ∀ {ps : List (Addr × List Int)}, LsAt H ps → DpAll K H (refs ps) (lsD ps)
  | [], _ => .nil
  | z :: ps, h => .cons (dpt (h z List.mem_cons_self)) (lsD_dp fun y hy => h y (List.mem_cons_of_mem _ hy))
theorem lsD_lay : ∀ ps : List (Addr × List Int), PyData.canLayAll0 (lsD ps) = true
  | [] => rfl
  | z :: ps => by
    show PyData.canLayAll0 (PyData.tuple (z.2.map PyData.int) :: lsD ps) = true
    simp only [PyData.canLayAll0, PyData.canLay0, lay_ints, lsD_lay ps, Bool.and_self]
theorem lsD_depth : ∀ ps : List (Addr × List Int), PyData.depthAll (lsD ps) ≤ 1
  | [] => Nat.zero_le _
  | z :: ps => by
    show PyData.depthAll (PyData.tuple (z.2.map PyData.int) :: lsD ps) ≤ 1
    have := lsD_depth ps
    simp only [PyData.depthAll, PyData.depth, depth_ints]
    omega
theorem lsD_shaped (ps : List (Addr × List Int)) : SeqAt.shaped (.list (lsD ps)) = true := by
  have := lsD_depth ps
  unfold SeqAt.shaped
  rw [Bool.and_eq_true, decide_eq_true_eq]
  simp only [PyData.canLay0, lsD_lay, PyData.depth, true_and]
  omega
theorem lsD_in {ps : List (Addr × List Int)} {s : List Int} (h : s ∈ ps.map (·.2)) : ((lsD ps).any fun z => PyData.eqv z (.tuple (s.map PyData.int))) = true := by
  obtain ⟨z, hz, e⟩ := List.mem_map.mp h
  rw [List.any_eq_true]
  refine ⟨.tuple (z.2.map PyData.int), List.mem_map.mpr ⟨z, hz, rfl⟩, ?_⟩
  simp only [PyData.eqv]
  rw [eqv_ints, e, decide_eq_true rfl]
theorem eqv_same (s : List Int) : PyData.eqv (.tuple (s.map PyData.int)) (.tuple (s.map PyData.int)) = true := by
  simp only [PyData.eqv]
  rw [eqv_ints, decide_eq_true rfl]
theorem show_bd {s : List Int} (h : TS.Bd 4 s) (l : s.length ≤ 12) : Showable (.tuple (s.map PyData.int)) :=
  (Small.tuple (SmallAll.ints fun x hx => Nat.lt_of_lt_of_le (show x.natAbs < 4 by have := h x hx; omega) (by decide))).ok (by omega) (by decide)

/-! ### wiped slots -/
theorem wipe_get (σ : L2.St) : ∀ (vs : List Nat) (j : Nat), (wipe σ vs)[j]? = if j ∈ vs then σ[j]?.map (fun _ => none) else σ[j]?
  | [], j => by rw [if_neg List.not_mem_nil]; rfl
  | v :: vs, j => by
    show ((wipe σ vs).set v none)[j]? = _
    rw [List.getElem?_set, wipe_get σ vs j, wipe_length]
    by_cases c : v = j
    · subst c
      rw [if_pos rfl, if_pos List.mem_cons_self]
      by_cases d : v < σ.length
      · rw [if_pos d, List.getElem?_eq_getElem d]
        rfl
      · rw [if_neg d, List.getElem?_eq_none (by omega)]
        rfl
    · rw [if_neg c]
      have : j ∈ v :: vs ↔ j ∈ vs := by rw [List.mem_cons]; exact ⟨fun h => h.elim (fun e => absurd e.symm c) id, .inr⟩
      by_cases d : j ∈ vs
      · rw [if_pos d, if_pos (this.mpr d)]
      · rw [if_neg d, if_neg (fun h => d (this.mp h))]
theorem wipe_any {σ τ : L2.St} {vs : List Nat} (l : τ.length = σ.length) (h : ∀ j, j ∉ vs → τ[j]? = σ[j]?) : wipe τ vs = wipe σ vs := by
  refine List.ext_getElem? fun j => ?_
  rw [wipe_get, wipe_get]
  by_cases d : j ∈ vs
  · rw [if_pos d, if_pos d]
    by_cases e : j < σ.length
    · rw [List.getElem?_eq_getElem e, List.getElem?_eq_getElem (by omega)]
      rfl
    · rw [List.getElem?_eq_none (by omega), List.getElem?_eq_none (by omega)]
  · rw [if_neg d, if_neg d, h j d]
end K19

set_option Elab.async false
set_option linter.all false
set_option maxRecDepth 100000
set_option maxHeartbeats 1000000
/-! enumerate of a zip of two tuples. -/
namespace NB
open PySem PySem.Spec PyProof.Rows L2
open PySem.Sem (wp)

section
variable {prog : Program} {w : World} {A : Around} {E : Value → Shared → Prop} {s : Shared} {z ti to i1 i2 l1 l2 : Addr} {a a1 a2 : Value} {f : Bool} {xs ys : Array Value} {i : Nat}
abbrev St2z (h : Heap) (i1 i2 l1 l2 : Addr) (xs ys : Array Value) (i : Nat) : Prop :=
  (h.IsTupleIter i1 l1 i ∧ h.IsTuple l1 xs) ∧ (h.IsTupleIter i2 l2 i ∧ h.IsTuple l2 ys)
structure Far2z (z ti to i1 i2 l1 l2 : Addr) : Prop where
  tiz : ti ≠ z
  toz : to ≠ z
  tito : ti ≠ to
  ti1 : ti ≠ i1
  ti2 : ti ≠ i2
  to1 : to ≠ i1
  to2 : to ≠ i2
  z1 : i1 ≠ z
  z2 : i2 ≠ z
  n12 : i1 ≠ i2
  l1n : l1 ≠ z ∧ l1 ≠ to ∧ l1 ≠ i1 ∧ l1 ≠ i2
  l2n : l2 ≠ z ∧ l2 ≠ to ∧ l2 ≠ i1 ∧ l2 ≠ i2
theorem next2z {x1 x2 : Value} {Q : Value → Shared → Prop} (D : Far2z z ti to i1 i2 l1 l2) (ho : Out a) (hz : Zat s.heap z ti to a (.bool f))
    (hI : IsTupOf2 s.heap ti (.ref i1) (.ref i2)) (hO : IsTupOf2 s.heap to a1 a2) (st : St2z s.heap i1 i2 l1 l2 xs ys i)
    (hx : xs[i]? = some x1) (hy : ys[i]? = some x2)
    (hQ : ∀ (h' : Heap) (a' : Value) (g : Bool) (b1 b2 : Value), Out a' → Zat h' z ti to a' (.bool g) → IsTupOf2 h' to b1 b2 → St2z h' i1 i2 l1 l2 xs ys (i + 1) → IsTupOf2 h' s.heap.objs.size x1 x2 → h'.objs.size = s.heap.objs.size + 1 →
      (∀ c o, c ≠ z → c ≠ to → c ≠ i1 → c ≠ i2 → s.heap.get? c = some o → h'.get? c = some o) → Q (.ref s.heap.objs.size) { s with heap := h' }) :
    wpAny (model prog w) A (Builtin.«zip.__next__» ⟨[.ref z], []⟩) (fun fin s' => ∃ v, fin = .done (.ret v) ∧ Q v s') E s := by
  obtain ⟨hp, gg, dd, tk, os⟩ := s
  show wpAny _ _ (field (.ref z) 2 >>= _) _ _ _
  refine wpAny_bind (wpAny_field hz rfl (x := .bool false) rfl ?_)
  show wpAny _ _ (field (.ref z) 3 >>= _) _ _ _
  refine wpAny_bind (wpAny_field hz rfl (x := .ref ti) rfl ?_)
  refine wpAny_bind (wpAny_seqItems hI rfl ?_)
  show wpAny _ _ (Builtin.SmallTypes.ownedTupleIsFree (.ref z) >>= _) _ _ _
  refine wpAny_bind (freeOr ho hz fun b h1 f1 hz1 hs1 => ?_)
  replace hs1 : Heap.SameBut z hp h1 := hs1
  obtain ⟨sa, sb⟩ := st
  have sa1 := keepIt sa hs1 D.z1 D.l1n.1
  have sb1 := keepIt sb hs1 D.z2 D.l2n.1
  have hO1 : IsTupOf2 h1 to a1 a2 := hs1.extBut _ _ D.toz hO
  cases b with
  | false =>
    simp only [Bool.false_eq_true, if_false]
    refine wpAny_bind ?_
    rw [← Array.forIn_toList]
    simp only [List.forIn_cons, List.forIn_nil]
    refine wpAny_bind (wpAny_bind (wpAny_holding ?_))
    show wpAny _ _ (Builtin.SmallTypes.nextOf (.ref i1) >>= _) _ _ ⟨h1, gg, dd, tk, os⟩
    refine wpAny_bind (drawT (s := ⟨h1, gg, dd, tk, os⟩) sa1 D.l1n.2.2.1 hx fun h2 sa2 hs2 => wpAny_pure (wpAny_pure ?_))
    replace hs2 : Heap.SameBut i1 h1 h2 := hs2
    have sb2 := keepIt sb1 hs2 D.n12.symm D.l2n.2.2.1
    refine wpAny_bind (wpAny_bind (wpAny_holding ?_))
    show wpAny _ _ (Builtin.SmallTypes.nextOf (.ref i2) >>= _) _ _ ⟨h2, gg, dd, tk, os⟩
    refine wpAny_bind (drawT (s := ⟨h2, gg, dd, tk, os⟩) sb2 D.l2n.2.2.2 hy fun h3 sb3 hs3 => wpAny_pure (wpAny_pure (wpAny_pure ?_)))
    replace hs3 : Heap.SameBut i2 h2 h3 := hs3
    have sa3 := keepIt sa2 hs3 D.n12 D.l1n.2.2.2
    show wpAny _ _ (newTuple [x1, x2] >>= _) _ _ ⟨h3, gg, dd, tk, os⟩
    refine wpAny_bind (wpAny_newTuple (wpAny_pure ⟨_, rfl, ?_⟩))
    have sz : h3.objs.size = hp.objs.size := by rw [hs3.1, hs2.1, hs1.1]
    have kk : ∀ c o, c ≠ z → c ≠ i1 → c ≠ i2 → hp.get? c = some o → h3.get? c = some o := fun c o c0 c1 c2 e =>
      hs3.extBut _ _ c2 (hs2.extBut _ _ c1 (hs1.extBut _ _ c0 e))
    have hz3 : Zat h3 z ti to a (.bool f1) := hs3.extBut _ _ D.z2.symm (hs2.extBut _ _ D.z1.symm hz1)
    have hO3 : IsTupOf2 h3 to a1 a2 := kk _ _ D.toz D.to1 D.to2 hO
    have up : ∀ c o, h3.get? c = some o → (h3.push { cls := .type "tuple", data := .seq #[x1, x2] }).get? c = some o := fun c o e => Heap.get?_push_of_some _ e
    have nw : IsTupOf2 (h3.push { cls := .type "tuple", data := .seq #[x1, x2] }) h3.objs.size x1 x2 := Heap.get?_push_size _ rfl
    have zw : (h3.push { cls := .type "tuple", data := .seq #[x1, x2] }).objs.size = h3.objs.size + 1 := Heap.size_push ..
    show Q (.ref h3.objs.size) _
    rw [sz] at nw zw ⊢
    exact hQ _ a f1 a1 a2 ho (up _ _ hz3) (up _ _ hO3)
      ⟨⟨sa3.1.at fun o e => up _ o e, sa3.2.push _⟩, ⟨sb3.1.at fun o e => up _ o e, sb3.2.push _⟩⟩ nw zw
      fun c o c0 _ c1 c2 e => up c o (kk c o c0 c1 c2 e)
  | true =>
    simp only [if_true]
    refine wpAny_bind (wpAny_rule ?_)
    refine wpAny_bind (wpAny_field (s := ⟨h1, gg, dd, tk, os⟩) hz1 rfl (x := .ref to) rfl ?_)
    refine wpAny_bind (wpAny_setField_rec (s := ⟨h1, gg, dd, tk, os⟩) hz1 (by simp) fun g0 z0 s0 => ?_)
    replace z0 : Zat g0 z ti to .ellipsis (.bool f1) := z0
    replace s0 : Heap.SameBut z h1 g0 := s0
    have ta0 := keepIt sa1 s0 D.z1 D.l1n.1
    have tb0 := keepIt sb1 s0 D.z2 D.l2n.1
    have o0 : IsTupOf2 g0 to a1 a2 := s0.extBut _ _ D.toz hO1
    refine wpAny_bind ?_
    simp only [List.zipIdx_cons, List.zipIdx_nil, List.forIn_cons, List.forIn_nil]
    refine wpAny_bind (wpAny_bind (wpAny_onRaise ?_))
    show wpAny _ _ (Builtin.SmallTypes.nextOf (.ref i1) >>= _) _ _ ⟨g0, gg, dd, tk, os⟩
    refine wpAny_bind (drawT (s := ⟨g0, gg, dd, tk, os⟩) ta0 D.l1n.2.2.1 hx fun p1 ta1 s1 => wpAny_pure ?_)
    replace s1 : Heap.SameBut i1 g0 p1 := s1
    have o1 : IsTupOf2 p1 to a1 a2 := s1.extBut _ _ D.to1 o0
    refine wpAny_bind (wpAny_seqItems (s := ⟨p1, gg, dd, tk, os⟩) o1 rfl ?_)
    refine wpAny_bind (updateSeq_IsTupOf2 (s := ⟨p1, gg, dd, tk, os⟩) o1 fun q1 u1 r1 => wpAny_bind (wpAny_letGo (wpAny_pure ?_)))
    replace u1 : IsTupOf2 q1 to x1 a2 := u1
    replace r1 : Heap.SameBut to p1 q1 := r1
    have ta2 := keepIt ta1 r1 D.to1.symm D.l1n.2.1
    have tb2 := keepIt (keepIt tb0 s1 D.n12.symm D.l2n.2.2.1) r1 D.to2.symm D.l2n.2.1
    refine wpAny_bind (wpAny_bind (wpAny_onRaise ?_))
    show wpAny _ _ (Builtin.SmallTypes.nextOf (.ref i2) >>= _) _ _ ⟨q1, gg, dd, tk, os⟩
    refine wpAny_bind (drawT (s := ⟨q1, gg, dd, tk, os⟩) tb2 D.l2n.2.2.2 hy fun p2 tb3 s2 => wpAny_pure ?_)
    replace s2 : Heap.SameBut i2 q1 p2 := s2
    have o2 : IsTupOf2 p2 to x1 a2 := s2.extBut _ _ D.to2 u1
    refine wpAny_bind (wpAny_seqItems (s := ⟨p2, gg, dd, tk, os⟩) o2 rfl ?_)
    refine wpAny_bind (updateSeq_IsTupOf2 (s := ⟨p2, gg, dd, tk, os⟩) o2 fun q2 u2 r2 => wpAny_bind (wpAny_letGo (wpAny_pure (wpAny_pure ?_))))
    replace u2 : IsTupOf2 q2 to x1 x2 := u2
    replace r2 : Heap.SameBut to p2 q2 := r2
    have ta4 := keepIt (keepIt ta2 s2 D.n12 D.l1n.2.2.2) r2 D.to1.symm D.l1n.2.1
    have tb4 := keepIt tb3 r2 D.to2.symm D.l2n.2.1
    refine wpAny_bind (wpAny_seqItems (s := ⟨q2, gg, dd, tk, os⟩) u2 rfl (wpAny_bind (wpAny_newTuple ?_)))
    have sz : q2.objs.size = hp.objs.size := by rw [r2.1, s2.1, r1.1, s1.1, s0.1, hs1.1]
    have hz3 : Zat q2 z ti to .ellipsis (.bool f1) := r2.extBut _ _ D.toz.symm (s2.extBut _ _ D.z2.symm (r1.extBut _ _ D.toz.symm (s1.extBut _ _ D.z1.symm z0)))
    have kk : ∀ c o, c ≠ z → c ≠ to → c ≠ i1 → c ≠ i2 → hp.get? c = some o → q2.get? c = some o := fun c o c0 ct c1 c2 e =>
      r2.extBut _ _ ct (s2.extBut _ _ c2 (r1.extBut _ _ ct (s1.extBut _ _ c1 (s0.extBut _ _ c0 (hs1.extBut _ _ c0 e)))))
    have zlt : z < q2.objs.size := Heap.lt_size hz3
    show wpAny _ _ (Builtin.SmallTypes.ownedTupleHandOut (.ref z) (.ref q2.objs.size) >>= _) _ _ ⟨q2.push { cls := .type "tuple", data := .seq #[x1, x2] }, gg, dd, tk, os⟩
    refine wpAny_bind ?_
    unfold Builtin.SmallTypes.ownedTupleHandOut
    have z5 : Zat (q2.push { cls := .type "tuple", data := .seq #[x1, x2] }) z ti to .ellipsis (.bool f1) := Heap.get?_push_of_some _ hz3
    refine wpAny_bind (wpAny_setField_rec z5 (by simp) fun h7 z7 s7 => ?_)
    replace z7 : Zat h7 z ti to (rawInt q2.objs.size) (.bool f1) := z7
    replace s7 : Heap.SameBut z (q2.push { cls := .type "tuple", data := .seq #[x1, x2] }) h7 := s7
    refine wpAny_setField_rec z7 (by simp) fun h8 z8 s8 => ?_
    replace z8 : Zat h8 z ti to (rawInt q2.objs.size) (.bool false) := z8
    replace s8 : Heap.SameBut z h7 h8 := s8
    have up : ∀ c o, c ≠ z → q2.get? c = some o → h8.get? c = some o := fun c o c1 e => s8.extBut _ _ c1 (s7.extBut _ _ c1 (Heap.get?_push_of_some _ e))
    have nw : IsTupOf2 h8 q2.objs.size x1 x2 := s8.extBut _ _ (Nat.ne_of_gt zlt) (s7.extBut _ _ (Nat.ne_of_gt zlt) (Heap.get?_push_size _ rfl))
    have zw : h8.objs.size = q2.objs.size + 1 := by rw [s8.1, s7.1, Heap.size_push]
    have fin : ∀ {it l : Addr} {k : Nat} {vs : Array Value}, (q2.IsTupleIter it l k ∧ q2.IsTuple l vs) → it ≠ z → l ≠ z → h8.IsTupleIter it l k ∧ h8.IsTuple l vs := fun {it l k vs} st n1 n2 =>
      keepIt (keepIt ⟨st.1.at fun o e => Heap.get?_push_of_some _ e, st.2.push _⟩ s7 n1 n2) s8 n1 n2
    refine wpAny_pure ⟨_, rfl, ?_⟩
    show Q (.ref q2.objs.size) _
    rw [sz] at nw zw z8 ⊢
    exact hQ h8 _ false x1 x2 (.inr ⟨_, rfl⟩) z8 (up _ _ D.toz u2) ⟨fin ta4 D.z1 D.l1n.1, fin tb4 D.z2 D.l2n.1⟩ nw zw
      fun c o c0 ct c1 c2 e => up c o c0 (kk c o c0 ct c1 c2 e)
theorem end2z {Q : Fin → Shared → Prop} (hh : A.handled = none) (D : Far2z z ti to i1 i2 l1 l2) (ho : Out a) (hz : Zat s.heap z ti to a (.bool f))
    (hI : IsTupOf2 s.heap ti (.ref i1) (.ref i2)) (st : s.heap.IsTupleIter i1 l1 i ∧ s.heap.IsTuple l1 xs) (hx : xs[i]? = none)
    (hE : ∀ h' e, (∀ c o, c ≠ z → c ≠ to → c ≠ i1 → c ≠ i2 → s.heap.get? c = some o → h'.get? c = some o) → (∃ o, h'.get? e = some o ∧ o.cls = .type "StopIteration") → E (.ref e) { s with heap := h' }) :
    wpAny (model prog w) A (Builtin.«zip.__next__» ⟨[.ref z], []⟩) Q E s := by
  obtain ⟨hp, gg, dd, tk, os⟩ := s
  show wpAny _ _ (field (.ref z) 2 >>= _) _ _ _
  refine wpAny_bind (wpAny_field hz rfl (x := .bool false) rfl ?_)
  show wpAny _ _ (field (.ref z) 3 >>= _) _ _ _
  refine wpAny_bind (wpAny_field hz rfl (x := .ref ti) rfl ?_)
  refine wpAny_bind (wpAny_seqItems hI rfl ?_)
  show wpAny _ _ (Builtin.SmallTypes.ownedTupleIsFree (.ref z) >>= _) _ _ _
  refine wpAny_bind (freeOr ho hz fun b h1 f1 hz1 hs1 => ?_)
  replace hs1 : Heap.SameBut z hp h1 := hs1
  have sa1 := keepIt st hs1 D.z1 D.l1n.1
  cases b with
  | false =>
    simp only [Bool.false_eq_true, if_false]
    refine wpAny_bind ?_
    rw [← Array.forIn_toList]
    simp only [List.forIn_cons, List.forIn_nil]
    refine wpAny_bind (wpAny_bind (wpAny_holding ?_))
    show wpAny _ _ (Builtin.SmallTypes.nextOf (.ref i1) >>= _) _ _ ⟨h1, gg, dd, tk, os⟩
    refine wpAny_bind (RZ.nextOf_tuple_end (s := ⟨h1, gg, dd, tk, os⟩) hh sa1.1 sa1.2 hx fun h2 e hs2 he => ?_)
    exact hE h2 e (fun c o c0 _ c1 _ q => hs2 _ _ c1 (hs1.extBut _ _ c0 q)) he
  | true =>
    simp only [if_true]
    refine wpAny_bind (wpAny_rule ?_)
    refine wpAny_bind (wpAny_field (s := ⟨h1, gg, dd, tk, os⟩) hz1 rfl (x := .ref to) rfl ?_)
    refine wpAny_bind (wpAny_setField_rec (s := ⟨h1, gg, dd, tk, os⟩) hz1 (by simp) fun g0 z0 s0 => ?_)
    replace z0 : Zat g0 z ti to .ellipsis (.bool f1) := z0
    replace s0 : Heap.SameBut z h1 g0 := s0
    have ta0 := keepIt sa1 s0 D.z1 D.l1n.1
    refine wpAny_bind ?_
    simp only [List.zipIdx_cons, List.zipIdx_nil, List.forIn_cons, List.forIn_nil]
    refine wpAny_bind (wpAny_bind (wpAny_onRaise ?_))
    show wpAny _ _ (Builtin.SmallTypes.nextOf (.ref i1) >>= _) _ _ ⟨g0, gg, dd, tk, os⟩
    refine wpAny_bind (RZ.nextOf_tuple_end (s := ⟨g0, gg, dd, tk, os⟩) hh ta0.1 ta0.2 hx fun h2 e hs2 he => ?_)
    obtain ⟨oe, hoe, hce⟩ := he
    replace hs2 : Heap.ExtBut i1 g0 h2 := hs2
    replace hoe : h2.get? e = some oe := hoe
    have z2 : Zat h2 z ti to .ellipsis (.bool f1) := hs2 _ _ D.z1.symm z0
    have ne : e ≠ z := fun q => by subst q; rw [z2] at hoe; cases hoe; simp at hce
    refine wpAny_setField_rec (s := ⟨h2, gg, dd, tk, os⟩) z2 (by simp) fun h3 _ s3 => ?_
    replace s3 : Heap.SameBut z h2 h3 := s3
    exact hE h3 e (fun c o c0 _ c1 _ q => s3.extBut _ _ c0 (hs2 _ _ c1 (s0.extBut _ _ c0 (hs1.extBut _ _ c0 q)))) ⟨oe, s3.extBut _ _ ne hoe, hce⟩
theorem nextOfZ {x1 x2 : Value} {Q : Value → Shared → Prop} (D : Far2z z ti to i1 i2 l1 l2) (ho : Out a) (hz : Zat s.heap z ti to a (.bool f))
    (hI : IsTupOf2 s.heap ti (.ref i1) (.ref i2)) (hO : IsTupOf2 s.heap to a1 a2) (st : St2z s.heap i1 i2 l1 l2 xs ys i)
    (hx : xs[i]? = some x1) (hy : ys[i]? = some x2)
    (hQ : ∀ (h' : Heap) (a' : Value) (g : Bool) (b1 b2 : Value), Out a' → Zat h' z ti to a' (.bool g) → IsTupOf2 h' to b1 b2 → St2z h' i1 i2 l1 l2 xs ys (i + 1) → IsTupOf2 h' s.heap.objs.size x1 x2 → h'.objs.size = s.heap.objs.size + 1 →
      (∀ c o, c ≠ z → c ≠ to → c ≠ i1 → c ≠ i2 → s.heap.get? c = some o → h'.get? c = some o) → Q (.ref s.heap.objs.size) { s with heap := h' }) :
    wpAny (model prog w) A (Builtin.SmallTypes.nextOf (.ref z)) Q E s := by
  have ty : s.TypeIs (.ref z) "zip" := ⟨_, hz, rfl⟩
  unfold Builtin.SmallTypes.nextOf
  refine wpAny_bind (wpAny_callSpecial?_slot (name := Str.ofString "__next__") ty F.slot_zip_next (wpAny_call_entry F.slot_zip_next ty F.entry_zip_next ?_ (F.args_zip_next_1 _)))
  exact next2z D ho hz hI hO st hx hy fun h' a' g b1 b2 c1 c2 c3 c4 c5 c6 c7 => wpAny_pure (hQ h' a' g b1 b2 c1 c2 c3 c4 c5 c6 c7)
theorem nextOfZ_end {Q : Value → Shared → Prop} (hh : A.handled = none) (D : Far2z z ti to i1 i2 l1 l2) (ho : Out a) (hz : Zat s.heap z ti to a (.bool f))
    (hI : IsTupOf2 s.heap ti (.ref i1) (.ref i2)) (st : s.heap.IsTupleIter i1 l1 i ∧ s.heap.IsTuple l1 xs) (hx : xs[i]? = none)
    (hE : ∀ h' e, (∀ c o, c ≠ z → c ≠ to → c ≠ i1 → c ≠ i2 → s.heap.get? c = some o → h'.get? c = some o) → (∃ o, h'.get? e = some o ∧ o.cls = .type "StopIteration") → E (.ref e) { s with heap := h' }) :
    wpAny (model prog w) A (Builtin.SmallTypes.nextOf (.ref z)) Q E s := by
  have ty : s.TypeIs (.ref z) "zip" := ⟨_, hz, rfl⟩
  unfold Builtin.SmallTypes.nextOf
  refine wpAny_bind (wpAny_callSpecial?_slot (name := Str.ofString "__next__") ty F.slot_zip_next (wpAny_call_entry F.slot_zip_next ty F.entry_zip_next ?_ (F.args_zip_next_1 _)))
  exact end2z hh D ho hz hI st hx hE
end

section
variable {prog : Program} {w : World} {A : Around} {E : Value → Shared → Prop} {s : Shared} {e z ti to i1 i2 l1 l2 : Addr} {a a1 a2 old : Value} {f : Bool} {xs ys : Array Value} {i : Nat} {c : Int}
/-- the enumerate's next over a zip: h₁ is the heap behind the zip's own next -/
theorem enumZ_next {x1 x2 : Value} {Q : Value → Shared → Prop} (D : Far2z z ti to i1 i2 l1 l2) (he : IsEnum s.heap e z c old) (n1 : e ≠ z) (n2 : e ≠ to) (n3 : e ≠ i1) (n4 : e ≠ i2)
    (ho : Out a) (hz : Zat s.heap z ti to a (.bool f)) (hI : IsTupOf2 s.heap ti (.ref i1) (.ref i2)) (hO : IsTupOf2 s.heap to a1 a2) (st : St2z s.heap i1 i2 l1 l2 xs ys i) (hx : xs[i]? = some x1) (hy : ys[i]? = some x2)
    (hQ : ∀ (h₁ : Heap) (a' : Value) (g : Bool) (b1 b2 : Value), Out a' → Zat h₁ z ti to a' (.bool g) → IsTupOf2 h₁ to b1 b2 → St2z h₁ i1 i2 l1 l2 xs ys (i + 1) → IsTupOf2 h₁ s.heap.objs.size x1 x2 → h₁.objs.size = s.heap.objs.size + 1 →
      (∀ c o, c ≠ z → c ≠ to → c ≠ i1 → c ≠ i2 → s.heap.get? c = some o → h₁.get? c = some o) → IsEnum h₁ e z c old →
      ∀ h', IsEnumOut h' e z (c + 1) (.ref s.heap.objs.size) h₁.objs.size → h'.get? h₁.objs.size = some { cls := .type "tuple", data := .seq #[.int c s.toks, .ref s.heap.objs.size] } → (∀ b o, b ≠ e → h₁.get? b = some o → h'.get? b = some o) →
      Q (.ref h₁.objs.size) { s with heap := h', toks := s.toks + 1 }) :
    wpAny (model prog w) A (Builtin.«enumerate.__next__» ⟨[.ref e], []⟩) (fun fin s' => ∃ v, fin = .done (.ret v) ∧ Q v s') E s := by
  obtain ⟨hp, g, d, tk, os⟩ := s
  show wpAny _ _ (field (.ref e) 2 >>= _) _ _ _
  refine wpAny_bind (wpAny_field he rfl (x := .ref z) rfl ?_)
  refine wpAny_bind (nextOfZ D ho hz hI hO st hx hy fun h₁ a' g' b1 b2 ho' hz' hO' st' hT hsz hk => ?_)
  have he₁ : IsEnum h₁ e z c old := hk _ _ n1 n2 n3 n4 he
  have hq := hQ h₁ a' g' b1 b2 ho' hz' hO' st' hT hsz hk he₁
  clear hQ
  generalize hx' : Value.ref (Shared.heap ⟨hp, g, d, tk, os⟩).objs.size = x at hq ⊢
  show wpAny _ _ (field (.ref e) 3 >>= _) _ _ ⟨h₁, g, d, tk, os⟩
  refine wpAny_bind (wpAny_field he₁ rfl (x := rawInt c) rfl ?_)
  show wpAny _ _ (field (.ref e) 4 >>= _) _ _ ⟨h₁, g, d, tk, os⟩
  refine wpAny_bind (wpAny_field he₁ rfl (x := .none) rfl ?_)
  show wpAny _ _ (mkInt c >>= _) _ _ ⟨h₁, g, d, tk, os⟩
  refine wpAny_bind (wpAny_mkInt ?_)
  show wpAny _ _ (setField (.ref e) 3 (rawInt (c + 1)) >>= _) _ _ ⟨h₁, g, d, tk + 1, os⟩
  refine wpAny_bind (wpAny_setField_rec he₁ (by simp) fun h₂ he₂ hs₂ => ?_)
  replace hs₂ : Heap.SameBut e h₁ h₂ := hs₂
  replace he₂ : IsEnum h₂ e z (c + 1) old := he₂
  show wpAny _ _ (setField (.ref e) 4 .none >>= _) _ _ ⟨h₂, g, d, tk + 1, os⟩
  refine wpAny_bind (wpAny_setField_rec he₂ (by simp) fun h₃ he₃ hs₃ => ?_)
  replace hs₃ : Heap.SameBut e h₂ h₃ := hs₃
  replace he₃ : IsEnum h₃ e z (c + 1) old := he₃
  show wpAny _ _ (newTuple [.int c tk, x] >>= _) _ _ ⟨h₃, g, d, tk + 1, os⟩
  refine wpAny_bind (wpAny_newTuple ?_)
  have he₄ : IsEnum (h₃.push { cls := .type "tuple", data := .seq #[.int c tk, x] }) e z (c + 1) old := Heap.get?_push_of_some _ he₃
  generalize hh₄ : h₃.push { cls := .type "tuple", data := .seq #[.int c tk, x] } = h₄ at he₄
  have hsz3 : h₃.objs.size = h₁.objs.size := by rw [hs₃.1, hs₂.1]
  have hel : e < h₁.objs.size := Heap.lt_size he₁
  have ht₄ : h₄.get? h₁.objs.size = some { cls := .type "tuple", data := .seq #[.int c tk, x] } := by rw [← hh₄, ← hsz3]; exact Heap.get?_push_size _ rfl
  have hk₄ : ∀ b o, b ≠ e → h₁.get? b = some o → h₄.get? b = some o := fun b o hbe hb => by
    rw [← hh₄]; exact Heap.get?_push_of_some _ (hs₃.extBut b o hbe (hs₂.extBut b o hbe hb))
  show wpAny _ _ (Builtin.SmallTypes.ownedTupleIsFree (.ref e) >>= _) _ _ ⟨h₄, g, d, tk + 1, os⟩
  rw [hsz3]
  clear hh₄ he₃ hs₃ he₂ hs₂ hsz3 h₃ h₂
  refine wpAny_bind ?_
  · unfold Builtin.SmallTypes.ownedTupleIsFree
    refine wpAny_bind (wpAny_field he₄ rfl (x := .none) rfl (wpAny_pure ?_))
    simp only [if_true]
    refine wpAny_bind (wpAny_rule ?_)
    refine wpAny_bind (wpAny_field he₄ rfl (x := old) rfl ?_)
    refine wpAny_bind (wpAny_setField_rec he₄ (by simp) fun h₅ he₅ hs₅ => ?_)
    replace hs₅ : Heap.SameBut e h₄ h₅ := hs₅
    replace he₅ : IsEnum h₅ e z (c + 1) x := he₅
    show wpAny _ _ (Builtin.SmallTypes.ownedTupleHandOut (.ref e) (.ref h₁.objs.size) >>= _) _ _ ⟨h₅, g, d, tk + 1, os⟩
    refine wpAny_bind ?_
    · unfold Builtin.SmallTypes.ownedTupleHandOut
      refine wpAny_bind (wpAny_setField_rec he₅ (by simp) fun h₆ he₆ hs₆ => ?_)
      replace hs₆ : Heap.SameBut e h₅ h₆ := hs₆
      replace he₆ : IsEnumOut h₆ e z (c + 1) x h₁.objs.size := he₆
      refine wpAny_setField_rec he₆ (by simp) fun h₇ he₇ hs₇ => ?_
      replace hs₇ : Heap.SameBut e h₆ h₇ := hs₇
      replace he₇ : IsEnumOut h₇ e z (c + 1) x h₁.objs.size := he₇
      refine wpAny_bind (wpAny_letGo (wpAny_pure ⟨_, rfl, hq h₇ he₇ ?_ ?_⟩))
      · exact hs₇.extBut _ _ (Nat.ne_of_gt hel) (hs₆.extBut _ _ (Nat.ne_of_gt hel) (hs₅.extBut _ _ (Nat.ne_of_gt hel) ht₄))
      · exact fun b o hbe hb => hs₇.extBut b o hbe (hs₆.extBut b o hbe (hs₅.extBut b o hbe (hk₄ b o hbe hb)))
theorem enumZ_end {Q : Option Value → Shared → Prop} (hh : A.in1.handled = none) (D : Far2z z ti to i1 i2 l1 l2) (he : IsEnum s.heap e z c old)
    (ho : Out a) (hz : Zat s.heap z ti to a (.bool f)) (hI : IsTupOf2 s.heap ti (.ref i1) (.ref i2)) (st : s.heap.IsTupleIter i1 l1 i ∧ s.heap.IsTuple l1 xs) (hx : xs[i]? = none)
    (hQ : ∀ h', (∀ c o, c ≠ z → c ≠ to → c ≠ i1 → c ≠ i2 → s.heap.get? c = some o → h'.get? c = some o) → Q none { s with heap := h' }) : wpAny (model prog w) A (pyNext (.ref e)) Q E s := by
  have hT : s.TypeIs (.ref e) "enumerate" := ⟨_, he, rfl⟩
  unfold pyNext
  refine wpAny_bind (wpAny_attempt (wpAny_callSpecial?_slot (name := Str.ofString "__next__") hT F.slot_enumerate_next
    (wpAny_call_entry F.slot_enumerate_next hT F.entry_enumerate_next ?_ (F.args_enumerate_next_1 _))))
  show wpAny _ _ (field (.ref e) 2 >>= _) _ _ _
  refine wpAny_bind (wpAny_field he rfl (x := .ref z) rfl ?_)
  refine wpAny_bind (nextOfZ_end hh D ho hz hI st hx fun h' x hk hx' => ?_)
  obtain ⟨o, ho', hc⟩ := hx'
  refine wpAny_bind (wpAny_isInstance (T := "StopIteration") (b := true) ⟨o, ho', hc⟩ isSubtype_stop ?_)
  exact wpAny_pure (hQ _ hk)
end

theorem enumNewZ (z : Addr) : Meets (Builtin.«enumerate.__new__» ⟨[.type "enumerate", .ref z], []⟩) (fun _ R s => (∃ ti to, IsZip s.heap z ti to .none) ∧
      R (.ok (.ret (.ref s.heap.objs.size))) { s with heap := s.heap.push { cls := .type "enumerate", data := .fields #[.none, .bool false, .ref z, rawInt 0, .none, .none] } }) :=
  .of_wp fun prog w A R s h => by
    obtain ⟨hp, g, d, tk, os⟩ := s
    obtain ⟨⟨ti, to, hl⟩, h⟩ := h
    have hsub := sub_enumerate
    have hL : IsZip (Shared.heap ⟨hp, g, d, tk, os⟩) z ti to .none := hl
    wp_walk
    refine wpAny_stack_any fun st => wpAny_pure ?_
    split
    · rename_i c _ _ _ _ _
      cases (c == Value.type "enumerate")
      · wp_walk using wpAny_pyIter_zip hL
        exact ⟨_, rfl, h⟩
      · wp_walk using wpAny_pyIter_zip hL
        exact ⟨_, rfl, h⟩
    · wp_walk using wpAny_pyIter_zip hL
      exact ⟨_, rfl, h⟩
section
variable {prog : Program} {w : World} {A : Around} {E : Value → Shared → Prop} {s : Shared}
theorem enumZ {z ti to : Addr} {Q : Value → Shared → Prop} (hz : IsZip s.heap z ti to .none)
    (h : ∀ h', IsEnum h' s.heap.objs.size z 0 .none → (∀ b o, s.heap.get? b = some o → h'.get? b = some o) → Q (.ref s.heap.objs.size) { s with heap := h' }) :
    wpAny (model prog w) A (call (.type "enumerate") [.ref z]) Q E s := by
  refine callType_new F.called_enumerate (by decide) (F.typeCall_enumerate_1 _) (F.newCall_enumerate_1 _) (fun obj => F.args_object_init_2 obj _) F.entry_enumerate_new (enumNewZ z) ⟨⟨ti, to, hz⟩, ?_⟩
  have he := Heap.get?_push_size s.heap (o := { cls := .type "enumerate", data := .fields #[.none, .bool false, .ref z, rawInt 0, .none, .none] }) rfl
  exact ⟨⟨_, he, rfl⟩, h _ he fun b o x => Heap.get?_push_of_some _ x⟩
end
section
variable {prog : Program} {w : World} {A : Around} {E : Value → Shared → Prop} {s : Shared} {e z ti to i1 i2 l1 l2 : Addr} {a a1 a2 old : Value} {f : Bool} {xs ys : Array Value} {i : Nat} {c : Int}
theorem pyNextEZ {x1 x2 : Value} {Q : Option Value → Shared → Prop} (D : Far2z z ti to i1 i2 l1 l2) (he : IsEnum s.heap e z c old) (n1 : e ≠ z) (n2 : e ≠ to) (n3 : e ≠ i1) (n4 : e ≠ i2)
    (ho : Out a) (hz : Zat s.heap z ti to a (.bool f)) (hI : IsTupOf2 s.heap ti (.ref i1) (.ref i2)) (hO : IsTupOf2 s.heap to a1 a2) (st : St2z s.heap i1 i2 l1 l2 xs ys i) (hx : xs[i]? = some x1) (hy : ys[i]? = some x2)
    (hQ : ∀ (h₁ : Heap) (a' : Value) (g : Bool) (b1 b2 : Value), Out a' → Zat h₁ z ti to a' (.bool g) → IsTupOf2 h₁ to b1 b2 → St2z h₁ i1 i2 l1 l2 xs ys (i + 1) → IsTupOf2 h₁ s.heap.objs.size x1 x2 → h₁.objs.size = s.heap.objs.size + 1 →
      (∀ c o, c ≠ z → c ≠ to → c ≠ i1 → c ≠ i2 → s.heap.get? c = some o → h₁.get? c = some o) → IsEnum h₁ e z c old →
      ∀ h', IsEnumOut h' e z (c + 1) (.ref s.heap.objs.size) h₁.objs.size → h'.get? h₁.objs.size = some { cls := .type "tuple", data := .seq #[.int c s.toks, .ref s.heap.objs.size] } → (∀ b o, b ≠ e → h₁.get? b = some o → h'.get? b = some o) →
      Q (some (.ref h₁.objs.size)) { s with heap := h', toks := s.toks + 1 }) :
    wpAny (model prog w) A (pyNext (.ref e)) Q E s := by
  have ty : s.TypeIs (.ref e) "enumerate" := ⟨_, he, rfl⟩
  unfold pyNext
  refine wpAny_bind (wpAny_attempt (wpAny_callSpecial?_slot (name := Str.ofString "__next__") ty F.slot_enumerate_next ?_))
  refine wpAny_call_entry F.slot_enumerate_next ty F.entry_enumerate_next ?_ (F.args_enumerate_next_1 _)
  exact enumZ_next D he n1 n2 n3 n4 ho hz hI hO st hx hy fun h₁ a' g b1 b2 c1 c2 c3 c4 c5 c6 c7 c8 h' c9 c10 c11 => wpAny_pure (hQ h₁ a' g b1 b2 c1 c2 c3 c4 c5 c6 c7 c8 h' c9 c10 c11)
end
/-- numbers and the pairs of two tuples of one length, side by side -/
def ItEz (K : PySem.W.Frag) (a b : Addr) : It :=
  ⟨fun i H => ∃ (xs ys : List V) (x y : V), SqT K H a xs ∧ SqT K H b ys ∧ xs[i]? = some x ∧ ys[i]? = some y,
    fun i H v H' => ∃ T U x y, v = .ref T ∧ H U = none ∧ upd H U (.tup [x, y]) T = none ∧ H' = upd (upd H U (.tup [x, y])) T (.tup [.int (i : Nat), .ref U]) ∧ (∀ xs, SqT K H a xs → xs[i]? = some x) ∧ ∀ ys, SqT K H b ys → ys[i]? = some y,
    fun i H => ∃ xs : List V, SqT K H a xs ∧ xs.length ≤ i⟩
structure FarE (e z ti to i1 i2 a b : Addr) : Prop where
  D : Far2z z ti to i1 i2 a b
  ez : e ≠ z
  et : e ≠ ti
  eo : e ≠ to
  e1 : e ≠ i1
  e2 : e ≠ i2
  ea : a ≠ e
  eb : b ≠ e
theorem turnEz {P : Program} {w : World} {K : PySem.W.Frag} {elts : List Expr} {kk : Nat} {tpos : Pos} {e z ti to i1 i2 a b : Addr} (F : FarE e z ti to i1 i2 a b) :
    Turn P w K (.Tuple elts kk tpos) (ItEz K a b) [e, z, ti, to, i1, i2] e (fun i h => (∃ old, IsEnum h e z ((i : Nat) : Int) old) ∧ (∃ v f, Out v ∧ Zat h z ti to v (.bool f)) ∧ IsTupOf2 h ti (.ref i1) (.ref i2) ∧ (∃ b1 b2, IsTupOf2 h to b1 b2) ∧
      h.IsTupleIter i1 a i ∧ h.IsTupleIter i2 b i) where
  mem := by simp
  obj := fun i h st q hq => by
    obtain ⟨⟨old, he⟩, ⟨v, f, _, hz⟩, hI, ⟨b1, b2, hO⟩, ⟨o1, e1, _, d1⟩, ⟨o2, e2, _, d2⟩⟩ := st
    have e' : q = e ∨ q = z ∨ q = ti ∨ q = to ∨ q = i1 ∨ q = i2 := by simpa using hq
    rcases e' with r | r | r | r | r | r
    · rw [r]; exact ⟨_, he, fun v q => nomatch q⟩
    · rw [r]; exact ⟨_, hz, fun v q => nomatch q⟩
    · rw [r]; exact ⟨_, hI, fun v q => nomatch q⟩
    · rw [r]; exact ⟨_, hO, fun v q => nomatch q⟩
    · rw [r]; exact ⟨o1, e1, fun v q => by rw [d1] at q; cases q⟩
    · rw [r]; exact ⟨o2, e2, fun v q => by rw [d2] at q; cases q⟩
  keep := fun i h h' st k => by
    obtain ⟨⟨old, he⟩, ⟨v, f, ho, hz⟩, hI, ⟨b1, b2, hO⟩, h1, h2⟩ := st
    exact ⟨⟨old, k e (by simp) _ he⟩, ⟨v, f, ho, k z (by simp) _ hz⟩, k ti (by simp) _ hI, ⟨b1, b2, k to (by simp) _ hO⟩, h1.at fun o q => k i1 (by simp) o q, h2.at fun o q => k i2 (by simp) o q⟩
  item := by
    intro X hP hw hK hc i pins s σ H E I hf st hg
    subst hP hw hK
    obtain ⟨⟨old, he⟩, ⟨v, f, ho, hz⟩, hI, ⟨b1, b2, hO⟩, h1, h2⟩ := st
    obtain ⟨xs, ys, x, y, qx, qy, hx, hy⟩ := hg
    obtain ⟨t1, r1, p1, _⟩ := I.tuple qx
    obtain ⟨t2, r2, p2, _⟩ := I.tuple qy
    obtain ⟨v1, g1, rv1⟩ := r1.get hx
    obtain ⟨v2, g2, rv2⟩ := r2.get hy
    have D := F.D
    have lts : ∀ q ∈ [e, z, ti, to, i1, i2], q < s.heap.objs.size := fun q hq => by
      have e' : q = e ∨ q = z ∨ q = ti ∨ q = to ∨ q = i1 ∨ q = i2 := by simpa using hq
      rcases e' with r | r | r | r | r | r
      · rw [r]; exact Heap.lt_size he
      · rw [r]; exact Heap.lt_size hz
      · rw [r]; exact Heap.lt_size hI
      · rw [r]; exact Heap.lt_size hO
      · rw [r]; obtain ⟨_, e1, _⟩ := h1; exact Heap.lt_size e1
      · rw [r]; obtain ⟨_, e1, _⟩ := h2; exact Heap.lt_size e1
    refine pyNextEZ D he F.ez F.eo F.e1 F.e2 ho hz hI hO ⟨⟨h1, p1⟩, ⟨h2, p2⟩⟩ (x1 := v1) (x2 := v2) (by simpa using g1) (by simpa using g2) fun m a' g c1 c2 ho' hz' hO' st' hT hsz hk he1 h' heo hTT hk' => ?_
    refine ⟨_, rfl, wpAny_letOwnedTupleGo_enum (s := { s with heap := h', toks := s.toks + 1 }) heo fun h'' he' sb => ?_⟩
    replace sb : Heap.SameBut e h' h'' := sb
    have el := lts e (by simp)
    have kk2 : ∀ q o, q ≠ e → m.get? q = some o → h''.get? q = some o := fun q o ne hq => (sb.2 q ne).trans (hk' q o ne hq)
    have new : ObjOk X.prog X.w (upd H s.heap.objs.size (.tup [x, y])) m s.heap.objs.size (.tup [x, y]) :=
      ⟨by show 2 ≤ sizeLine; decide, [v1, v2], .cons rv1 (.cons rv2 .nil), ⟨_, hT, rfl, _, rfl⟩⟩
    have I1 : Inv X pins σ (upd H s.heap.objs.size (.tup [x, y])) { s with heap := m } :=
      I.turnedNew (t' := s.toks) (ch := [e, z, ti, to, i1, i2]) (fun q o hb e => hk q o (fun q' => hb (by simp [q'])) (fun q' => hb (by simp [q'])) (fun q' => hb (by simp [q'])) (fun q' => hb (by simp [q'])) e) hf (Nat.le_refl _) new
    have zl : m.objs.size = s.heap.objs.size + 1 := hsz
    have nT : upd H s.heap.objs.size (.tup [x, y]) m.objs.size = none := I1.hok.fresh (Nat.le_refl _)
    have hT2 : h''.get? m.objs.size = some { cls := .type "tuple", data := .seq #[.int i s.toks, .ref s.heap.objs.size] } := (sb.2 _ (by rw [zl]; exact Nat.ne_of_gt (Nat.lt_succ_of_lt el))).trans hTT
    have new2 : ObjOk X.prog X.w (upd (upd H s.heap.objs.size (.tup [x, y])) m.objs.size (.tup [.int (i : Nat), .ref s.heap.objs.size])) h'' m.objs.size (.tup [.int (i : Nat), .ref s.heap.objs.size]) :=
      ⟨by show 2 ≤ sizeLine; decide, [.int i s.toks, .ref s.heap.objs.size], .cons ⟨_, rfl⟩ (.cons rfl .nil), ⟨_, hT2, rfl, _, rfl⟩⟩
    have I2 : Inv X pins σ (upd (upd H s.heap.objs.size (.tup [x, y])) m.objs.size (.tup [.int (i : Nat), .ref s.heap.objs.size])) { s with heap := h'', toks := s.toks + 1 } :=
      I1.turnedNew (t' := s.toks + 1) (ch := [e]) (fun q o hb hq => kk2 q o (fun q' => hb (by simp [q'])) hq) (fun q hq => by
        have hq' := List.mem_singleton.mp hq
        subst hq'
        have h0 := hf q (by simp)
        exact ⟨by rw [upd_ne (Nat.ne_of_lt el)]; exact h0.1, h0.2⟩) (Nat.le_refl _) new2
    refine ⟨.ref m.objs.size, _, I2, rfl, ⟨m.objs.size, s.heap.objs.size, x, y, rfl, I.hok.fresh (Nat.le_refl _), nT, rfl, fun l hl => by rw [I.tuple_inj hl qx]; exact hx, fun l hl => by rw [I.tuple_inj hl qy]; exact hy⟩, ⟨⟨.ref s.heap.objs.size, ?_⟩, ⟨a', g, ho', kk2 _ _ F.ez.symm hz'⟩, ?_, ⟨c1, c2, kk2 _ _ F.eo.symm hO'⟩, st'.1.1.at fun o q => kk2 _ _ F.e1.symm q, st'.2.1.at fun o q => kk2 _ _ F.e2.symm q⟩, fun q hq => ?_⟩
    · rw [show ((i + 1 : Nat) : Int) = (i : Int) + 1 by omega]
      exact he'
    · exact kk2 _ _ F.et.symm (hk _ _ D.tiz D.tito D.ti1 D.ti2 hI)
    · have lt := lts q hq
      have lt' : q < s.heap.objs.size := lt
      rw [upd_ne (by rw [zl]; exact Nat.ne_of_lt (Nat.lt_succ_of_lt lt')), upd_ne (Nat.ne_of_lt lt')]
      exact (hf q hq).1
  done := by
    intro X hP hw hK hc i pins s σ H E I hf st hg
    subst hP hw hK
    obtain ⟨⟨old, he⟩, ⟨v, f, ho, hz⟩, hI, ⟨b1, b2, hO⟩, h1, h2⟩ := st
    obtain ⟨xs, qx, hlen⟩ := hg
    obtain ⟨t1, r1, p1, _⟩ := I.tuple qx
    have le := r1.length
    refine enumZ_end (I.ok.hd hc) F.D he ho hz hI ⟨h1, p1⟩ (by simp; omega) fun h' hk => ⟨rfl, I.turnedL (t' := s.toks) (ch := [e, z, ti, to, i1, i2]) (fun q o hb e => ?_) hf⟩
    exact hk q o (fun q' => hb (by simp [q'])) (fun q' => hb (by simp [q'])) (fun q' => hb (by simp [q'])) (fun q' => hb (by simp [q'])) e
  self := fun A i s Q E st h => by
    obtain ⟨⟨_, he⟩, _⟩ := st
    exact wpAny_pyIter_enum he h
theorem farE_at (n a b : Nat) (ha : a < n) (hb : b < n) : FarE (n + 5) (n + 4) (n + 2) (n + 3) n (n + 1) a b := by
  constructor
  · constructor <;> first | (show (_ : Nat) ≠ _; omega) | (refine ⟨?_, ?_, ?_, ?_⟩ <;> (show (_ : Nat) ≠ _; omega))
  all_goals (show (_ : Nat) ≠ _; omega)
def iEnumZ (K : PySem.W.Frag) (ta : TA) : TI := fun σ H R => ta σ H fun vs H1 => ∃ a b xs ys, vs = [.ref a, .ref b] ∧ SqT K H1 a xs ∧ SqT K H1 b ys ∧ R (ItEz K a b) H1
theorem pi_enumZ {X : Cx} {es : List Expr} {kk : Nat} {tpos p p2 pos pos2 : Pos} {e e2 : Expr} {ta : TA} (hg : Gl X "enumerate") (hm : X.mg "enumerate" = none) (hg2 : Gl X "zip") (hm2 : X.mg "zip" = none) (ha : PA X [e, e2] ta)
    (hs : starEach [e, e2] X.env = (false, eval e X.env) :: starEach [e2] X.env := by rfl) (hpl : (backTo pos2 (starEach [e2] X.env)).any (·.1) = false := by rfl)
    (hs1 : starEach [.Call (.Name "zip" p2) [e, e2] [] pos2] X.env = (false, eval (.Call (.Name "zip" p2) [e, e2] [] pos2) X.env) :: starEach [] X.env := by rfl) :
    PI X (.Tuple es kk tpos) (.Call (.Name "enumerate" p) [.Call (.Name "zip" p2) [e, e2] [] pos2] [] pos) (iEnumZ X.K ta) := by
  refine ⟨fun pins s σ H R I h => ?_⟩
  refine Call_ (ld_blt I hg hm boot_enumerate (PyProof.Rows.callWith_type1 (args_cons ?_ hs1) hs1))
  refine Call_ (ld_blt I hg2 hm2 PyProof.Rows.boot_zip (PyProof.Rows.callWith_type1 (thn (ha.run pos2 pins s σ H _ I h) fun us s1 h1 => ?_) hs hpl))
  obtain ⟨vs, H1, I1, r1, a, b, xs, ys, rfl, ha1, hb1, q⟩ := h1
  obtain ⟨u1, us, rfl, ru1, r2⟩ : ∃ u us', us = u :: us' ∧ RelV (.ref a) u ∧ Vals [V.ref b] us' := by
    cases r1 with
    | cons r rr => exact ⟨_, _, rfl, r, rr⟩
  obtain ⟨u2, rfl, ru2⟩ : ∃ u, us = [u] ∧ RelV (.ref b) u := by
    cases r2 with
    | cons r rr =>
      cases rr
      exact ⟨_, rfl, r⟩
  obtain rfl : u1 = Value.ref a := ru1
  obtain rfl : u2 = Value.ref b := ru2
  obtain ⟨t1, v1, p1, _⟩ := I1.tuple ha1
  obtain ⟨t2, v2, p2', _⟩ := I1.tuple hb1
  obtain ⟨o1, g1, _⟩ := id p1
  obtain ⟨o2, g2, _⟩ := id p2'
  refine zip_begins2 (begins_tuple a t1.toArray) (begins_tuple b t2.toArray) p1 p2' fun h' hz hI hO e1 e2 hsz hk => args_nil ?_
  refine enumZ (s := { s1 with heap := h' }) hz fun h'' he kp => wpAny_pyIter_enum he ?_
  replace he : IsEnum h'' h'.objs.size (s1.heap.objs.size + 4) 0 .none := he
  replace kp : ∀ b o, h'.get? b = some o → h''.get? b = some o := kp
  have I2 : Inv X pins σ H1 { s1 with heap := h'' } := I1.kept (t' := s1.toks) fun b o x => kp b o (hk b o x)
  show PIE _ _ _ _ _ (.ref h'.objs.size) { s1 with heap := h'' }
  rw [hsz] at he ⊢
  refine ⟨s1.heap.objs.size + 5, [s1.heap.objs.size + 5, s1.heap.objs.size + 4, s1.heap.objs.size + 2, s1.heap.objs.size + 3, s1.heap.objs.size, s1.heap.objs.size + 1], _, _, H1, rfl, I2, turnEz (farE_at s1.heap.objs.size a b (Heap.lt_size g1) (Heap.lt_size g2)),
    ⟨⟨.none, he⟩, ⟨.none, false, .inl rfl, kp _ _ hz⟩, kp _ _ hI, ⟨_, _, kp _ _ hO⟩, ⟨_, kp _ _ e1, rfl, rfl⟩, ⟨_, kp _ _ e2, rfl, rfl⟩⟩, fun q hq => ?_, q⟩
  have le : s1.heap.objs.size ≤ q := by
    simp only [List.mem_cons, List.not_mem_nil, or_false] at hq
    rcases hq with r | r | r | r | r | r <;> rw [r] <;> first | exact Nat.le_add_right _ _ | exact Nat.le_refl _
  exact I1.fpOk le (I1.hok.fresh le)
/-- a new pair of the number and of a new pair of the i-th ones -/
def YEz (xs ys : List V) : Nat → Hp → V → Hp → Prop := fun i H v H' => ∃ T U x y, v = .ref T ∧ H U = none ∧ upd H U (.tup [x, y]) T = none ∧ H' = upd (upd H U (.tup [x, y])) T (.tup [.int (i : Nat), .ref U]) ∧ xs[i]? = some x ∧ ys[i]? = some y
theorem walk_enumZ {K : PySem.W.Frag} {a b : Addr} {xs ys : List V} (h2 : ys.length = xs.length) :
    Walk (ItEz K a b) xs.length (fun H => SqT K H a xs ∧ SqT K H b ys) (YEz xs ys) := by
  refine ⟨fun i _ hi q => ?_, fun _ q => ⟨xs, q.1, Nat.le_refl _⟩, fun i H v H' _ q y => ?_⟩
  · exact ⟨xs, ys, xs[i], ys[i]'(by omega), q.1, q.2, by simp [hi], by simp [show i < ys.length by omega]⟩
  · obtain ⟨T, U, x, y, e1, e2, e3, e4, f1, f2⟩ := y
    exact ⟨T, U, x, y, e1, e2, e3, e4, f1 xs q.1, f2 ys q.2⟩
end NB

set_option Elab.async false
set_option linter.all false
set_option maxRecDepth 100000
namespace K19
open PySem PySem.Spec PyProof.Rows L2 NB

theorem wipe_two {σ : L2.St} {i j : Nat} {a b : Option V} {m n : Str} : wipe (((wipe σ ([(m, i), (n, j)].map (·.2))).set i a).set j b) ([(m, i), (n, j)].map (·.2)) = wipe σ ([(m, i), (n, j)].map (·.2)) := by
  refine wipe_any (by rw [List.length_set, List.length_set, wipe_length]) fun k hk => ?_
  have h1 : i ≠ k := fun e => hk (by simp [e])
  have h2 : j ≠ k := fun e => hk (by simp [e])
  rw [List.getElem?_set_ne h2, List.getElem?_set_ne h1, wipe_get, if_neg hk]
theorem wipe_three {σ : L2.St} {i j l : Nat} {a b c : Option V} {m n o : Str} : wipe ((((wipe σ ([(o, l), (m, i), (n, j)].map (·.2))).set i a).set j b).set l c) ([(o, l), (m, i), (n, j)].map (·.2)) = wipe σ ([(o, l), (m, i), (n, j)].map (·.2)) := by
  refine wipe_any (by rw [List.length_set, List.length_set, List.length_set, wipe_length]) fun k hk => ?_
  have h1 : i ≠ k := fun e => hk (by simp [e])
  have h2 : j ≠ k := fun e => hk (by simp [e])
  have h3 : l ≠ k := fun e => hk (by simp [e])
  rw [List.getElem?_set_ne h3, List.getElem?_set_ne h2, List.getElem?_set_ne h1, wipe_get, if_neg hk]
theorem wipe_seq3 {σ : L2.St} {i j l : Nat} {a b c : Option V} {m n o : Str} : wipe ((((wipe σ ([(m, i), (n, j), (o, l)].map (·.2))).set i a).set j b).set l c) ([(m, i), (n, j), (o, l)].map (·.2)) = wipe σ ([(m, i), (n, j), (o, l)].map (·.2)) := by
  refine wipe_any (by rw [List.length_set, List.length_set, List.length_set, wipe_length]) fun k hk => ?_
  have h1 : i ≠ k := fun e => hk (by simp [e])
  have h2 : j ≠ k := fun e => hk (by simp [e])
  have h3 : l ≠ k := fun e => hk (by simp [e])
  rw [List.getElem?_set_ne h3, List.getElem?_set_ne h2, List.getElem?_set_ne h1, wipe_get, if_neg hk]

/-! ### sides that bar others -/
section
variable {tops : List Int} {rs : List Rl}
theorem bars_to {i : Nat} {l : Int} {z : Sd} (oz : SideOk tops z) (l0 : 0 ≤ l) (b : barsB tops z (i, false, l) = true) : ∃ q, z = (i, true, q) ∧ l < q := by
  obtain ⟨b1, b2⟩ := bars_iff.mp b
  have bd := oz.bd
  obtain ⟨j, c, q⟩ := z
  have e : j = i := b1
  subst e
  have bd' : 0 ≤ q ∧ q ≤ plc tops j := bd
  cases c with
  | true =>
    have b2' : plc tops j < 0 ∨ l < q := b2
    exact ⟨q, rfl, by omega⟩
  | false =>
    have b2' : q < 0 ∨ l < 0 := b2
    omega
theorem bars_from {i : Nat} {l : Int} {z : Sd} (oz : SideOk tops z) (ol : 0 ≤ l ∧ l ≤ plc tops i) (b : barsB tops z (i, true, l) = true) : ∃ q, z = (i, false, q) ∧ q < l := by
  obtain ⟨b1, b2⟩ := bars_iff.mp b
  have bd := oz.bd
  obtain ⟨j, c, q⟩ := z
  have e : j = i := b1
  subst e
  have bd' : 0 ≤ q ∧ q ≤ plc tops j := bd
  cases c with
  | false =>
    have b2' : q < l ∨ plc tops j < 0 := b2
    exact ⟨q, rfl, by omega⟩
  | true =>
    have b2' : plc tops j < l ∨ plc tops j < q := b2
    omega
theorem bar_tf {i : Nat} {p q : Int} (h : p < q) : barsB tops (i, false, p) (i, true, q) = true := bars_iff.mpr ⟨rfl, .inl h⟩
theorem bar_ft {i : Nat} {p q : Int} (h : p < q) : barsB tops (i, true, q) (i, false, p) = true := bars_iff.mpr ⟨rfl, .inr h⟩
end
theorem fol_stand {tops : List Int} {rs : List Rl} {S : Sd → Prop} (rok : ∀ q ∈ rs, RuleOk tops q) {lows highs : List Int} (F : Fol tops rs S lows highs) (e : ∀ i, i < tops.length → plc lows i = plc highs i) : lows ∈ goods tops rs := by
  have ll := F.ll
  refine goods_mem.mpr ⟨⟨ll, fun j hj => ⟨F.lz j hj, by have := F.hz j hj; have := e j hj; omega⟩⟩, fun q hq => ?_⟩
  have key : ∀ {a b : Sd}, SideOk tops a → SideOk tops b → (∀ t, barsB tops t a = true → b ∈ ledL tops rs t) → inB lows a = true ∨ inB lows b = true := fun {a b} oa ob hl => by
    by_cases c : inB lows a = true
    · exact .inl c
    · right
      have lt := oa.lt
      have bd := oa.bd
      have ei := e a.1 lt
      have hb : Rea tops rs S b := by
        obtain ⟨i, w, p⟩ := a
        have lt' : i < tops.length := lt
        have bd' : 0 ≤ p ∧ p ≤ plc tops i := bd
        have ei' : plc lows i = plc highs i := ei
        cases w with
        | true =>
          have c' : ¬ p ≤ plc lows i := fun h => c ((inFr (by omega)).mpr h)
          rcases F.h0 i lt' with h | h
          · omega
          · exact Rea.step h (hl _ (bar_tf (by omega)))
        | false =>
          have c' : ¬ plc lows i ≤ p := fun h => c ((inTo (by omega)).mpr h)
          rcases F.l0 i lt' with h | h
          · omega
          · exact Rea.step h (hl _ (bar_ft (by omega)))
      have lb := ob.lt
      exact F.has (by omega) hb ⟨Int.le_refl _, by have := e b.1 lb; omega⟩
  have ok := rok q hq
  have := key ok.1 ok.2 fun t ht => led_iff.mpr ⟨q, hq, .inl ⟨ht, rfl⟩⟩
  unfold kept
  rcases this with h | h <;> rw [h] <;> simp

/-! ### steps that are bound: mathematics -/
section
variable {tops : List Int} {rs : List Rl}
theorem led_two (rok : ∀ q ∈ rs, RuleOk tops q) (pl : ∀ i, i < tops.length → 0 ≤ plc tops i) {a u : Sd} (oa : SideOk tops a) (ou : SideOk tops u) (ea : ∃ g ∈ goods tops rs, inB g a = true) (eu : ∃ g ∈ goods tops rs, inB g u = true) (no : ∀ g ∈ goods tops rs, inB g a = true → inB g u = false) : ∃ z, Rea tops rs (· = a) z ∧ barsB tops z u = true := by
  have eg := ea
  obtain ⟨ga, hga, ia⟩ := eg
  have okS : ∀ s, (s = a ∨ s = u) → SideOk tops s := fun s h => h.elim (fun e => e ▸ oa) (fun e => e ▸ ou)
  have self : ∀ {x z : Sd}, SideOk tops x → (∃ g ∈ goods tops rs, inB g x = true) → Rea tops rs (· = x) z → barsB tops z x = true → False := fun {x z} ox ⟨g, hg, ix⟩ r b => by
    have iz := r.in' rok (fun t ht => by rw [ht]; exact ox) hg (fun t ht => by rw [ht]; exact ix)
    rw [bars_out hg (r.ok rok (fun t ht => by rw [ht]; exact ox)) ox b iz] at ix
    cases ix
  rcases some_goodS rok pl hga (S := fun s => s = a ∨ s = u) okS with ⟨g, hg, h⟩ | ⟨w, z, hw, hz, b⟩
  · have := no g hg (h a (.inl rfl))
    rw [h u (.inr rfl)] at this
    cases this
  · obtain ⟨s, hs, rz⟩ := hz.one
    rcases hs with es | es <;> rcases hw with ew | ew
    · rw [es] at rz
      rw [ew] at b
      exact (self oa ea rz b).elim
    · rw [es] at rz
      rw [ew] at b
      exact ⟨z, rz, b⟩
    · rw [es] at rz
      rw [ew] at b
      exact rz.turn (bars_symm b)
    · rw [es] at rz
      rw [ew] at b
      exact (self ou eu rz b).elim
theorem fol_hi (rok : ∀ q ∈ rs, RuleOk tops q) (pl : ∀ i, i < tops.length → 0 ≤ plc tops i) {a : Sd} (oa : SideOk tops a) {lows highs : List Int} (F : Fol tops rs (· ∈ [a]) lows highs) (ea : ∃ g ∈ goods tops rs, inB g a = true) {j : Nat} (hj : j < tops.length) {k : Int} (k0 : 0 ≤ k)
    (ex : ∃ g ∈ goods tops rs, k < plc g j) (all : ∀ g ∈ goods tops rs, inB g a = true → plc g j ≤ k) : plc highs j ≤ k := by
  obtain ⟨g, hg, lt⟩ := ex
  have b := (goods_mem.mp hg).1.2 j hj
  obtain ⟨z, rz, bz⟩ := led_two rok pl oa (u := (j, true, k + 1)) (SideOk.mk' hj (by omega) (by omega)) ea ⟨g, hg, (inFr (by rw [goods_len hg]; exact hj)).mpr (by omega)⟩ (fun g' hg' i => by
    have := all g' hg' i
    cases e : inB g' (j, true, k + 1) with
    | false => rfl
    | true =>
      have := (inFr (by rw [goods_len hg']; exact hj)).mp e
      omega)
  obtain ⟨q, rfl, lq⟩ := bars_from (rz.ok rok (fun s h => by rw [h]; exact oa)) ⟨by omega, by omega⟩ bz
  have := F.h1 j q (rz.mono fun s h => by rw [h]; exact List.mem_singleton.mpr rfl)
  omega
theorem fol_lo (rok : ∀ q ∈ rs, RuleOk tops q) (pl : ∀ i, i < tops.length → 0 ≤ plc tops i) {a : Sd} (oa : SideOk tops a) {lows highs : List Int} (F : Fol tops rs (· ∈ [a]) lows highs) (ea : ∃ g ∈ goods tops rs, inB g a = true) {j : Nat} (hj : j < tops.length) {k : Int} (k0 : k ≤ plc tops j)
    (ex : ∃ g ∈ goods tops rs, plc g j < k) (all : ∀ g ∈ goods tops rs, inB g a = true → k ≤ plc g j) : k ≤ plc lows j := by
  obtain ⟨g, hg, lt⟩ := ex
  have b := (goods_mem.mp hg).1.2 j hj
  obtain ⟨z, rz, bz⟩ := led_two rok pl oa (u := (j, false, k - 1)) (SideOk.mk' hj (by omega) (by omega)) ea ⟨g, hg, (inTo (by rw [goods_len hg]; exact hj)).mpr (by omega)⟩ (fun g' hg' i => by
    have := all g' hg' i
    cases e : inB g' (j, false, k - 1) with
    | false => rfl
    | true =>
      have := (inTo (by rw [goods_len hg']; exact hj)).mp e
      omega)
  obtain ⟨q, rfl, lq⟩ := bars_to (rz.ok rok (fun s h => by rw [h]; exact oa)) (by omega) bz
  have := F.l1 j q (rz.mono fun s h => by rw [h]; exact List.mem_singleton.mpr rfl)
  omega
end
/-- what the deed of a step draws along, by what follows of its two parts -/
def strJ (l1 h1 l2 h2 : List Int) (j : Nat) : List (List Int) := if plc h1 j < plc l2 j then [[(j : Int), plc h1 j, plc l2 j]] else if plc h2 j < plc l1 j then [[(j : Int), plc l1 j, plc h2 j]] else []
def strF (n : Nat) (l1 h1 l2 h2 : List Int) : List (List Int) := (List.range n).flatMap (strJ l1 h1 l2 h2)
theorem strF_len (n : Nat) (l1 h1 l2 h2 : List Int) : (strF n l1 h1 l2 h2).length ≤ n := by
  unfold strF
  induction n with
  | zero => exact Nat.le_refl _
  | succ n ih =>
    rw [List.range_succ, List.flatMap_append, List.length_append]
    have : ([n].flatMap (strJ l1 h1 l2 h2)).length ≤ 1 := by
      rw [List.flatMap_cons, List.flatMap_nil, List.append_nil]
      unfold strJ
      split
      · exact Nat.le_refl _
      · split
        · exact Nat.le_refl _
        · exact Nat.zero_le _
    omega
/-- the steps of a thing that part all good ones as these truths do -/
def prt (G : List (List Int)) (j : Nat) (k : Int) : List Bool := G.map fun g => decide (k < plc g j)
def onL (G : List (List Int)) (m : List Bool) (j t : Nat) : List Nat := (List.range t).filter fun k => decide (prt G j (k : Int) = m)
/-- the law's own stretch of a thing -/
def lawJ (G : List (List Int)) (i : Nat) (p : Int) (j t : Nat) : List (List Int) :=
  (if onL G (prt G i p) j t = [] then [] else [[(j : Int), ((onL G (prt G i p) j t).headD 0 : Nat), ((onL G (prt G i p) j t).getLastD 0 : Nat) + 1]]) ++
  (if onL G ((prt G i p).map not) j t = [] then [] else [[(j : Int), ((onL G ((prt G i p).map not) j t).getLastD 0 : Nat) + 1, ((onL G ((prt G i p).map not) j t).headD 0 : Nat)]])
theorem rng_filter (a b : Nat) : ∀ t : Nat, (List.range t).filter (fun k => decide (a ≤ k ∧ k < b)) = List.range' a (min b t - a)
  | 0 => by simp
  | t + 1 => by
    rw [List.range_succ, List.filter_append, rng_filter a b t]
    by_cases c : a ≤ t ∧ t < b
    · have e1 : min b t = t := by omega
      have e2 : min b (t + 1) - a = (t - a) + 1 := by omega
      rw [e1, e2, List.range'_concat]
      simp only [List.filter_cons, List.filter_nil, decide_eq_true c, if_true]
      congr 2
      omega
    · have e2 : min b (t + 1) - a = min b t - a := by omega
      rw [e2]
      simp only [List.filter_cons, List.filter_nil, decide_eq_false c, Bool.false_eq_true, if_false, List.append_nil]
theorem prt_eq {G : List (List Int)} {i j : Nat} {k p : Int} : prt G j k = prt G i p ↔ ∀ g ∈ G, (k < plc g j ↔ p < plc g i) := by
  unfold prt
  rw [List.map_inj_left]
  exact ⟨fun h g hg => by simpa using h g hg, fun h g hg => by simpa using h g hg⟩
theorem prt_ne {G : List (List Int)} {i j : Nat} {k p : Int} : prt G j k = (prt G i p).map not ↔ ∀ g ∈ G, (k < plc g j ↔ ¬ p < plc g i) := by
  unfold prt
  rw [List.map_map, List.map_inj_left]
  constructor
  · intro h g hg
    have := h g hg
    simp only [Function.comp] at this
    by_cases c : p < plc g i
    · rw [decide_eq_true c] at this
      have := of_decide_eq_false this
      exact ⟨fun x => absurd x this, fun x => absurd c x⟩
    · rw [decide_eq_false c] at this
      exact ⟨fun _ => c, fun _ => of_decide_eq_true this⟩
  · intro h g hg
    have := h g hg
    simp only [Function.comp]
    by_cases c : p < plc g i
    · rw [decide_eq_true c]
      exact decide_eq_false fun x => (this.mp x) c
    · rw [decide_eq_false c]
      exact decide_eq_true (this.mpr c)
section
variable {tops : List Int} {rs : List Rl}
theorem str_law (rok : ∀ q ∈ rs, RuleOk tops q) (pl : ∀ i, i < tops.length → 0 ≤ plc tops i) {i : Nat} {p : Int} (hi : i < tops.length) (p0 : 0 ≤ p) (p1 : p < plc tops i) {l1 h1 l2 h2 : List Int} (F1 : Fol tops rs (· ∈ [(i, false, p)]) l1 h1) (F2 : Fol tops rs (· ∈ [(i, true, p + 1)]) l2 h2)
    (e1 : ∃ g ∈ goods tops rs, plc g i ≤ p) (e2 : ∃ g ∈ goods tops rs, p < plc g i) {j : Nat} (hj : j < tops.length) : lawJ (goods tops rs) i p j (plc tops j).toNat = strJ l1 h1 l2 h2 j := by
  have o1 : SideOk tops (i, false, p) := SideOk.mk' hi p0 (by omega)
  have o2 : SideOk tops (i, true, p + 1) := SideOk.mk' hi (by omega) (by omega)
  have in1 : ∀ g ∈ goods tops rs, (inB g (i, false, p) = true ↔ plc g i ≤ p) := fun g hg => inTo (by rw [goods_len hg]; exact hi)
  have in2 : ∀ g ∈ goods tops rs, (inB g (i, true, p + 1) = true ↔ p < plc g i) := fun g hg => (inFr (by rw [goods_len hg]; exact hi)).trans ⟨fun h => by omega, fun h => by omega⟩
  have s1 : ∀ g ∈ goods tops rs, plc g i ≤ p → plc l1 j ≤ plc g j ∧ plc g j ≤ plc h1 j := fun g hg h => F1.sound rok (fun s hs => by rw [List.mem_singleton.mp hs]; exact o1) hg (fun s hs => by rw [List.mem_singleton.mp hs]; exact (in1 g hg).mpr h) hj
  have s2 : ∀ g ∈ goods tops rs, p < plc g i → plc l2 j ≤ plc g j ∧ plc g j ≤ plc h2 j := fun g hg h => F2.sound rok (fun s hs => by rw [List.mem_singleton.mp hs]; exact o2) hg (fun s hs => by rw [List.mem_singleton.mp hs]; exact (in2 g hg).mpr h) hj
  have ea1 : ∃ g ∈ goods tops rs, inB g (i, false, p) = true := by
    obtain ⟨g, hg, h⟩ := e1
    exact ⟨g, hg, (in1 g hg).mpr h⟩
  have ea2 : ∃ g ∈ goods tops rs, inB g (i, true, p + 1) = true := by
    obtain ⟨g, hg, h⟩ := e2
    exact ⟨g, hg, (in2 g hg).mpr h⟩
  obtain ⟨ga, hga, pa⟩ := e1
  obtain ⟨gb, hgb, pb⟩ := e2
  have ba := (goods_mem.mp hga).1.2 j hj
  have bb := (goods_mem.mp hgb).1.2 j hj
  have sa := s1 ga hga pa
  have sb := s2 gb hgb pb
  have f0 := F1.lz j hj
  have f1 := F1.hz j hj
  have f2 := F2.lz j hj
  have f3 := F2.hz j hj
  -- the steps that part likewise
  have on : ∀ k : Int, 0 ≤ k → (prt (goods tops rs) j k = prt (goods tops rs) i p ↔ plc h1 j ≤ k ∧ k < plc l2 j) := fun k k0 => by
    rw [prt_eq]
    constructor
    · intro h
      refine ⟨fol_hi rok pl o1 F1 ea1 hj k0 ⟨gb, hgb, (h gb hgb).mpr pb⟩ fun g hg ig => ?_, ?_⟩
      · have := (h g hg)
        have := (in1 g hg).mp ig
        omega
      · have := fol_lo rok pl o2 F2 ea2 hj (k := k + 1) (by have := (h gb hgb).mpr pb; omega) ⟨ga, hga, by have := (h ga hga); omega⟩ fun g hg ig => by
          have := (h g hg).mpr ((in2 g hg).mp ig)
          omega
        omega
    · rintro ⟨x, y⟩ g hg
      by_cases c : p < plc g i
      · have := (s2 g hg c).1
        exact ⟨fun _ => c, fun _ => by omega⟩
      · have := (s1 g hg (by omega)).2
        exact ⟨fun _ => by omega, fun z => absurd z c⟩
  have bk : ∀ k : Int, 0 ≤ k → (prt (goods tops rs) j k = (prt (goods tops rs) i p).map not ↔ plc h2 j ≤ k ∧ k < plc l1 j) := fun k k0 => by
    rw [prt_ne]
    constructor
    · intro h
      refine ⟨fol_hi rok pl o2 F2 ea2 hj k0 ⟨ga, hga, (h ga hga).mpr (by omega)⟩ fun g hg ig => ?_, ?_⟩
      · have := (h g hg)
        have := (in2 g hg).mp ig
        omega
      · have := fol_lo rok pl o1 F1 ea1 hj (k := k + 1) (by have := (h ga hga).mpr (by omega); omega) ⟨gb, hgb, by have := (h gb hgb); omega⟩ fun g hg ig => by
          have := (h g hg).mpr (by have := (in1 g hg).mp ig; omega)
          omega
        omega
    · rintro ⟨x, y⟩ g hg
      by_cases c : p < plc g i
      · have := (s2 g hg c).2
        exact ⟨fun _ => by omega, fun z => absurd c z⟩
      · have := (s1 g hg (by omega)).1
        exact ⟨fun _ => c, fun _ => by omega⟩
  have conv : ∀ (m : List Bool) (a b : Int), 0 ≤ a → b ≤ plc tops j → (∀ k : Int, 0 ≤ k → (prt (goods tops rs) j k = m ↔ a ≤ k ∧ k < b)) → onL (goods tops rs) m j (plc tops j).toNat = List.range' a.toNat (b.toNat - a.toNat) := fun m a b a0 b1 h => by
    have e : (fun k : Nat => decide (prt (goods tops rs) j (k : Int) = m)) = fun k : Nat => decide (a.toNat ≤ k ∧ k < b.toNat) := by
      funext k
      have := h k (by omega)
      exact decide_eq_decide.mpr (this.trans ⟨fun z => by omega, fun z => by omega⟩)
    unfold onL
    rw [e, rng_filter, show min b.toNat (plc tops j).toNat = b.toNat by omega]
  have c1 := conv _ _ _ (by omega : 0 ≤ plc h1 j) (by omega) on
  have c2 := conv _ _ _ (by omega : 0 ≤ plc h2 j) (by omega) bk
  have hd : ∀ a n : Nat, (List.range' a (n + 1)).headD 0 = a := fun a n => rfl
  have lst : ∀ a n : Nat, (List.range' a (n + 1)).getLastD 0 = a + n := fun a n => by
    rw [List.range'_concat, List.getLastD_concat]
    omega
  have nn : ∀ a n : Nat, List.range' a (n + 1) ≠ [] := fun a n => by
    rw [List.range'_succ]
    exact List.cons_ne_nil _ _
  unfold lawJ strJ
  rw [c1, c2]
  by_cases d1 : plc h1 j < plc l2 j
  · have d2 : ¬ plc h2 j < plc l1 j := by omega
    rw [if_pos d1, show (plc l1 j).toNat - (plc h2 j).toNat = 0 by omega, show (plc l2 j).toNat - (plc h1 j).toNat = ((plc l2 j).toNat - (plc h1 j).toNat - 1) + 1 by omega, if_neg (nn _ _), if_pos (show List.range' (plc h2 j).toNat 0 = [] from rfl), List.append_nil, hd, lst]
    congr 3
    · omega
    · congr 1
      omega
  · rw [if_neg d1, show (plc l2 j).toNat - (plc h1 j).toNat = 0 by omega, if_pos (show List.range' (plc h1 j).toNat 0 = [] from rfl), List.nil_append]
    by_cases d2 : plc h2 j < plc l1 j
    · rw [if_pos d2, show (plc l1 j).toNat - (plc h2 j).toNat = ((plc l1 j).toNat - (plc h2 j).toNat - 1) + 1 by omega, if_neg (nn _ _), hd, lst]
      congr 3
      · omega
      · congr 1
        omega
    · rw [if_neg d2, show (plc l1 j).toNat - (plc h2 j).toNat = 0 by omega, if_pos (show List.range' (plc h2 j).toNat 0 = [] from rfl)]
end

/-! ### bundles -/
structure PlK (C : Addr) (H : Hp) (x : Addr) (tops : List Int) (rs : List Rl) : Prop where
  hp : PlanAt C H x tops rs
  rok : ∀ q ∈ rs, RuleOk tops q
  l40 : rs.length ≤ 40
  l12 : tops.length ≤ 12
  pl : ∀ i, i < tops.length → 0 ≤ plc tops i
theorem PlK.same {C : Addr} {H H' : Hp} {x : Addr} {tops : List Int} {rs : List Rl} (h : PlK C H x tops rs) (s : Same H H') : PlK C H' x tops rs := ⟨h.hp.keep (.same s), h.rok, h.l40, h.l12, h.pl⟩
theorem PlK.one {K : PySem.W.Frag} {C : Addr} {H : Hp} {x g u : Addr} {tops : List Int} {rs : List Rl} {s : Sd} (h : PlK C H x tops rs) (eg : SqT K H g [.ref u]) (hu : SideAt H u s) (ok : SideOk tops s) : Wnt K C H x g tops rs [(u, s)] :=
  ⟨h.hp, eg, fun z hz => by rw [List.mem_singleton.mp hz]; exact hu, fun z hz => by rw [List.mem_singleton.mp hz]; exact ok, h.rok, h.l40, by simp, h.l12, h.pl⟩
/-- a tuple of tuples of whole numbers -/
def ManyAt (H : Hp) (r : Addr) (xss : List (List Int)) : Prop := ∃ ps : List (Addr × List Int), H r = some (.tup (refs ps)) ∧ LsAt H ps ∧ ps.map (·.2) = xss
theorem ManyAt.same {H H' : Hp} {r : Addr} {xss : List (List Int)} (h : ManyAt H r xss) (s : Same H H') : ManyAt H' r xss := by
  obtain ⟨ps, e, l, m⟩ := h
  exact ⟨ps, s _ _ e, l.same s, m⟩
theorem LsAt.one {H : Hp} {T : Addr} {xs : List Int} {ps : List (Addr × List Int)} (h : LsAt H ps) (e : H T = some (.tup (xs.map V.int))) : LsAt H (ps ++ [(T, xs)]) := h.app fun z hz => by
  rw [List.mem_singleton.mp hz]
  exact e
/-- what a step draws along where both of its parts are had, else () -/
def bunF (tops : List Int) (rs : List Rl) (i : Nat) (p : Int) (xss : List (List Int)) : Prop :=
  if (∃ g ∈ goods tops rs, plc g i ≤ p) ∧ (∃ g ∈ goods tops rs, p < plc g i) then xss = (List.range tops.length).flatMap (fun j => lawJ (goods tops rs) i p j (plc tops j).toNat) else xss = []
section
variable {P : Program} {w : World} {K : PySem.W.Frag} {mg : Str → Option Value} {base : Heap}
def spStr (K : PySem.W.Frag) (C : Addr) : Sp := fun vs H Q _ => ∃ (x : Addr) (i : Nat) (p : Int) (tops : List Int) (rs : List Rl), vs = [.ref x, .int (i : Int), .int p] ∧ PlK C H x tops rs ∧ i < tops.length ∧ 0 ≤ p ∧ p < plc tops i ∧
  ∀ H' r l1 h1 l2 h2, Same H H' → ManyAt H' r (strF tops.length l1 h1 l2 h2) → Fol tops rs (· ∈ [((i, false, p) : Sd)]) l1 h1 → Fol tops rs (· ∈ [((i, true, p + 1) : Sd)]) l2 h2 → Q (.ref r) H'
abbrev a_stretches : Stmt := topS 36
abbrev n_stretches : List Str := ["plan", "thing", "place", "short", "beyond", "found", "number", "least", "most", "low", "high"]
theorem sc_stretches : FnScope n_stretches ["plan", "thing", "place"] (defScope a_stretches) := ⟨rfl, rfl, rfl, by decide +kernel, rfl, by decide +kernel, by decide +kernel⟩
set_option maxHeartbeats 8000000 in
theorem ok_stretches {f fFl : Addr} {fd fdFl : FuncData} {k : Nat} {C : Addr} (F : Fun K "stretches" "stretches" a_stretches f fd) (Fl : Kn P w K mg base 5 "follows" ["plan", "want"] (spFol K C) fFl fdFl) (m_zip : mg "zip" = none) (m_enumerate : mg "enumerate" = none) (m_tuple : mg "tuple" = none) : FnOk P w K mg base CX0 (k + 6) f fd ["plan", "thing", "place"] (spStr K C) := by
  refine F.ok sc_stretches (fun vs H Q E h => ?_) (fun cdv A outer s H vs Q E hr h => ?_)
  · obtain ⟨x, i, p, tops, rs, rfl, _⟩ := h
    rfl
  · obtain ⟨x, i, p, tops, rs, rfl, G, hi, p0, p1, q⟩ := h
    refine ⟨_, (pss_cons (ps_set (i := 3) sc_stretches.nd rfl (.inl rfl) (pe_kn Fl hr (by omega) (pa_cons (pv 0) (pa_cons (pe_tup (pa_cons (pe_tup (pa_cons (pv 1) (pa_cons pe_str (pa_cons (pv 2) pa_nil)))) pa_nil)) pa_nil))))
      (pss_cons (ps_set (i := 4) sc_stretches.nd rfl (.inl rfl) (pe_kn Fl hr (by omega) (pa_cons (pv 0) (pa_cons (pe_tup (pa_cons (pe_tup (pa_cons (pv 1) (pa_cons pe_str (pa_cons (pe_op op_add (pv 2) pe_int) pa_nil)))) pa_nil)) pa_nil))))
      (pss_cons (ps_set (i := 5) sc_stretches.nd rfl (.inl rfl) (pe_lst pa_nil))
      (pss_cons (ps_for PassesOwn.never rfl (pi_enumZ (by rfl) m_enumerate (by rfl) m_zip (pa_cons (pv 3) (pa_cons (pv 4) pa_nil))) (pg_tup rfl (pgs_cons (pg_name (i := 6) sc_stretches.nd rfl (.inl rfl)) (pgs_cons (pg_tup rfl (pgs_cons (pg_tup rfl (pgs_cons (pg_name (i := 7) sc_stretches.nd rfl (.inl rfl)) (pgs_cons (pg_name (i := 8) sc_stretches.nd rfl (.inl rfl)) pgs_nil))) (pgs_cons (pg_tup rfl (pgs_cons (pg_name (i := 9) sc_stretches.nd rfl (.inl rfl)) (pgs_cons (pg_name (i := 10) sc_stretches.nd rfl (.inl rfl)) pgs_nil))) pgs_nil))) pgs_nil)))
        (pss_one (ps_if (pt_cmpR op_lt (pv 8) (pv 9) (nomark _)) (pss_one (ps_expr (pe_bm PySem.F.plainAttrs_list PySem.F.slot_list_append PySem.F.type_list_append mt_append (pv 5) (pa_cons (pe_tup (pa_cons (pv 6) (pa_cons (pv 8) (pa_cons (pv 9) pa_nil)))) pa_nil)))) (pss_one (ps_if (pt_cmpR op_lt (pv 10) (pv 7) (nomark _)) (pss_one (ps_expr (pe_bm PySem.F.plainAttrs_list PySem.F.slot_list_append PySem.F.type_list_append mt_append (pv 5) (pa_cons (pe_tup (pa_cons (pv 6) (pa_cons (pv 7) (pa_cons (pv 10) pa_nil)))) pa_nil)))) pss_nil)))))
      (pss_one (ps_ret (pe_callTy call_tuple_of (by rfl) m_tuple (by decide +kernel) (pa_cons (pv 5) pa_nil)))))))), ?_⟩
    have l12 := G.l12
    have o1 : SideOk tops (i, false, p) := SideOk.mk' hi p0 (by omega)
    have o2 : SideOk tops (i, true, p + 1) := SideOk.mk' hi (by omega) (by omega)
    refine ⟨.ref x, rfl, _, rfl, _, rfl, (show 3 ≤ sizeLine by decide), fun u1 nu1 => ⟨(show 1 ≤ sizeLine by decide), fun g1 ng1 => ?_⟩⟩
    have su1 := same_new (o := HO.tup [V.int (i : Int), V.str "to", V.int p]) nu1
    have sg1 := same_new (o := HO.tup [V.ref u1]) ng1
    have s1 := su1.trans sg1
    refine ⟨x, g1, tops, rs, [(u1, (i, false, p))], rfl, (G.same s1).one (.inl (.inl upd_same)) (sg1 _ _ upd_same) o1, fun H1 f1 l1 h1 s2 _ hb1 F1 => ?_⟩
    have s02 := s1.trans s2
    refine ⟨.ref x, rfl, _, rfl, _, rfl, p, 1, rfl, rfl, (show 3 ≤ sizeLine by decide), fun u2 nu2 => ⟨(show 1 ≤ sizeLine by decide), fun g2 ng2 => ?_⟩⟩
    have su2 := same_new (o := HO.tup [V.int (i : Int), V.str "from", V.int (p + 1)]) nu2
    have sg2 := same_new (o := HO.tup [V.ref u2]) ng2
    have s3 := su2.trans sg2
    refine ⟨x, g2, tops, rs, [(u2, (i, true, p + 1))], rfl, (G.same (s02.trans s3)).one (.inl (.inl upd_same)) (sg2 _ _ upd_same) o2, fun H2 f2 l2 h2 s4 _ hb2 F2 => ?_⟩
    have s04 := (s02.trans s3).trans s4
    have hb1' := hb1.keep (.same (s3.trans s4))
    refine ⟨Nat.zero_le _, fun l nl => ?_⟩
    have sl := same_new (o := HO.lst []) nl
    have s05 := s04.trans sl
    have nlH : H l = none := s04.free nl
    obtain ⟨U1, e1, lU1, aU1⟩ := hb1'.keep (.same sl)
    obtain ⟨U2, e2, lU2, aU2⟩ := hb2.keep (.same sl)
    have n1 : U1.length = tops.length := by rw [lU1, F1.ll]
    have n2 : U2.length = tops.length := by rw [lU2, F2.ll]
    have el : (upd H2 l (.lst [])) l = some (.lst (refs [])) := upd_same
    generalize upd H2 l (.lst []) = H3 at s05 e1 e2 aU1 aU2 el ⊢
    refine ⟨.ref f1, rfl, .ref f2, rfl, f1, f2, _, _, rfl, .inl (.inl e1), .inl (.inl e2), for_it (walk_enumZ (xs := U1.map V.ref) (ys := U2.map V.ref) (by rw [List.length_map, List.length_map, n1, n2])) (fun j σ H' => (∃ u6 u7 u8 u9 u10, σ = [some (.ref x), some (.int (i : Int)), some (.int p), some (.ref f1), some (.ref f2), some (.ref l), u6, u7, u8, u9, u10]) ∧ Same H H' ∧ KT H3 H' ∧ ∃ ps, H' l = some (.lst (refs ps)) ∧ LsAt H' ps ∧ ps.map (·.2) = strF j l1 h1 l2 h2)
      ⟨⟨_, _, _, _, _, rfl⟩, s05, KT.refl _, [], el, (fun z hz => absurd hz List.not_mem_nil), rfl⟩ (fun j σ H' _ y => ⟨.inl (.inl (y.2.2.1 _ _ e1)), .inl (.inl (y.2.2.1 _ _ e2))⟩) (fun j v σ H4 H5 hj y z => ?_) (fun σ H4 y => ?_)⟩
    · obtain ⟨⟨u6, u7, u8, u9, u10, rfl⟩, s6, k6, ps, el6, sp, ep⟩ := y
      obtain ⟨T, U, va, vb, rfl, nU, nT, rfl, ga, gb⟩ := z
      obtain ⟨T1, ea, rfl⟩ := mapGet ga
      obtain ⟨T2, eb, rfl⟩ := mapGet gb
      have hj' : j < tops.length := by
        rw [List.length_map] at hj
        omega
      have sU := same_new (o := HO.tup [V.ref T1, V.ref T2]) nU
      have sT := same_new (o := HO.tup [V.int (j : Int), V.ref U]) nT
      have sUT := sU.trans sT
      have eT1 := sUT _ _ (k6 _ _ (aU1 j T1 ea))
      have eT2 := sUT _ _ (k6 _ _ (aU2 j T2 eb))
      have el7 := sUT _ _ el6
      have s7 := s6.trans sUT
      have sp7 := sp.same sUT
      have k7 : KT H3 (upd (upd H4 U (.tup [V.ref T1, V.ref T2])) T (.tup [V.int (j : Int), V.ref U])) := k6.trans (.same sUT)
      have eU : (upd (upd H4 U (.tup [V.ref T1, V.ref T2])) T (.tup [V.int (j : Int), V.ref U])) U = some (.tup [V.ref T1, V.ref T2]) := sT _ _ upd_same
      have eT : (upd (upd H4 U (.tup [V.ref T1, V.ref T2])) T (.tup [V.int (j : Int), V.ref U])) T = some (.tup [V.int (j : Int), V.ref U]) := upd_same
      generalize upd (upd H4 U (.tup [V.ref T1, V.ref T2])) T (.tup [V.int (j : Int), V.ref U]) = H6 at eT1 eT2 el7 s7 sp7 k7 eU eT ⊢
      have lps : ps.length ≤ 12 := by
        have := congrArg List.length ep
        rw [List.length_map] at this
        have h := strF_len j l1 h1 l2 h2
        omega
      have nx : ∀ (more : List (List Int)), strJ l1 h1 l2 h2 j = more → strF (j + 1) l1 h1 l2 h2 = strF j l1 h1 l2 h2 ++ more := fun more h => by
        unfold strF
        rw [List.range_succ, List.flatMap_append, List.flatMap_cons, List.flatMap_nil, List.append_nil, h]
      have add : ∀ (a b : Int) (T' : Addr) (o : HO), H6 T' = none → o = .tup [V.int (j : Int), .int a, .int b] → strJ l1 h1 l2 h2 j = [[(j : Int), a, b]] →
          ∃ ps', (upd (upd H6 T' o) l (.lst (refs ps ++ [V.ref T']))) l = some (.lst (refs ps')) ∧ LsAt (upd (upd H6 T' o) l (.lst (refs ps ++ [V.ref T']))) ps' ∧ ps'.map (·.2) = strF (j + 1) l1 h1 l2 h2 := fun a b T' o nT' eo h => by
        subst eo
        have sT' := same_new (o := HO.tup [V.int (j : Int), .int a, .int b]) nT'
        refine ⟨ps ++ [(T', [(j : Int), a, b])], by rw [upd_same]; simp only [refs, List.map_append]; rfl, ((sp7.same sT').one (T := T') (xs := [(j : Int), a, b]) upd_same).keep (.upd (sT' _ _ el7)), by rw [List.map_append, ep, nx _ h]; rfl⟩
      refine ⟨T, _, rfl, .inl (.inl eT), rfl, _, _, rfl, _, _, rfl, U, _, rfl, .inl (.inl eU), rfl, _, _, rfl, T1, _, rfl, .inl (.inl eT1), rfl, _, _, rfl, _, _, rfl, rfl, _, _, rfl, T2, _, rfl, .inl (.inl eT2), rfl, _, _, rfl, _, _, rfl, rfl, rfl, rfl, ?_⟩
      refine ⟨_, rfl, _, rfl, _, _, rfl, rfl, _, rfl, ite2 (fun c => ?_) (fun c => ?_)⟩
      · have c' := of_decide_eq_true c
        refine ⟨.ref l, rfl, .inl ⟨rfl, _, .inl (.inl el7)⟩, _, rfl, _, rfl, _, rfl, (show 3 ≤ sizeLine by decide), fun T' nT' => ?_⟩
        have sT' := same_new (o := HO.tup [V.int (j : Int), V.int (plc h1 j), V.int (plc l2 j)]) nT'
        refine ⟨l, _, _, rfl, rfl, sT' _ _ el7, by rw [List.length_map]; exact small1000 (by omega), ⟨_, _, _, _, _, rfl⟩, same_over (s7.trans sT') nlH, (k7.trans (.same sT')).trans (.upd (sT' _ _ el7) (fun xs z => by cases z)), add _ _ T' _ nT' rfl ?_⟩
        unfold strJ
        rw [if_pos c']
      · have c' := of_decide_eq_false (Bool.not_eq_true _ ▸ c)
        refine ⟨_, rfl, _, rfl, _, _, rfl, rfl, _, rfl, ite2 (fun d => ?_) (fun d => ?_)⟩
        · have d' := of_decide_eq_true d
          refine ⟨.ref l, rfl, .inl ⟨rfl, _, .inl (.inl el7)⟩, _, rfl, _, rfl, _, rfl, (show 3 ≤ sizeLine by decide), fun T' nT' => ?_⟩
          have sT' := same_new (o := HO.tup [V.int (j : Int), V.int (plc l1 j), V.int (plc h2 j)]) nT'
          refine ⟨l, _, _, rfl, rfl, sT' _ _ el7, by rw [List.length_map]; exact small1000 (by omega), ⟨_, _, _, _, _, rfl⟩, same_over (s7.trans sT') nlH, (k7.trans (.same sT')).trans (.upd (sT' _ _ el7) (fun xs z => by cases z)), add _ _ T' _ nT' rfl ?_⟩
          unfold strJ
          rw [if_neg c', if_pos d']
        · have d' := of_decide_eq_false (Bool.not_eq_true _ ▸ d)
          refine ⟨⟨_, _, _, _, _, rfl⟩, s7, k7, ps, el7, sp7, ?_⟩
          rw [nx [] (by unfold strJ; rw [if_neg c', if_neg d']), List.append_nil, ep]
    · obtain ⟨⟨u6, u7, u8, u9, u10, rfl⟩, s6, k6, ps, el6, sp, ep⟩ := y
      have lt : (U1.map V.ref).length = tops.length := by rw [List.length_map, n1]
      rw [lt] at ep
      refine ⟨.ref l, rfl, l, _, rfl, .inl ⟨.inl (.inl el6), fun t nt => ?_⟩⟩
      have st := same_new (o := HO.tup (refs ps)) nt
      exact q _ t l1 h1 l2 h2 (s6.trans st) ⟨ps, upd_same, sp.same st, ep⟩ F1 F2
def spBun (K : PySem.W.Frag) (C : Addr) : Sp := fun vs H Q _ => ∃ (x : Addr) (i : Nat) (p : Int) (tops : List Int) (rs : List Rl), vs = [.ref x, .int (i : Int), .int p] ∧ PlK C H x tops rs ∧ (∃ st, st ∈ goods tops rs) ∧ i < tops.length ∧ 0 ≤ p ∧ p < plc tops i ∧
  ∀ H' r xss, Same H H' → ManyAt H' r xss → bunF tops rs i p xss → Q (.ref r) H'
theorem had_to {tops : List Int} {rs : List Rl} {u : Addr} {i : Nat} {p : Int} (hi : i < tops.length) : Had tops rs [(u, ((i, false, p) : Sd))] ↔ ∃ g ∈ goods tops rs, plc g i ≤ p :=
  ⟨fun ⟨g, hg, h⟩ => ⟨g, hg, (inTo (by rw [goods_len hg]; exact hi)).mp (h _ List.mem_cons_self)⟩, fun ⟨g, hg, h⟩ => ⟨g, hg, fun s hs => by rw [List.mem_singleton.mp hs]; exact (inTo (by rw [goods_len hg]; exact hi)).mpr h⟩⟩
theorem had_from {tops : List Int} {rs : List Rl} {u : Addr} {i : Nat} {p : Int} (hi : i < tops.length) : Had tops rs [(u, ((i, true, p + 1) : Sd))] ↔ ∃ g ∈ goods tops rs, p < plc g i :=
  ⟨fun ⟨g, hg, h⟩ => ⟨g, hg, by have := (inFr (by rw [goods_len hg]; exact hi)).mp (h _ List.mem_cons_self); omega⟩, fun ⟨g, hg, h⟩ => ⟨g, hg, fun s hs => by rw [List.mem_singleton.mp hs]; exact (inFr (by rw [goods_len hg]; exact hi)).mpr (by omega)⟩⟩
theorem many_nil {H : Hp} {r : Addr} (h : H r = some (.tup [])) : ManyAt H r [] := ⟨[], h, fun z hz => absurd hz List.not_mem_nil, rfl⟩
abbrev a_bundle : Stmt := topS 37
abbrev n_bundle : List Str := ["plan", "thing", "place", "side"]
theorem sc_bundle : FnScope n_bundle ["plan", "thing", "place"] (defScope a_bundle) := ⟨rfl, rfl, rfl, by decide +kernel, rfl, by decide +kernel, by decide +kernel⟩
set_option maxHeartbeats 8000000 in
theorem ok_bundle {f fNp fSt : Addr} {fd fdNp fdSt : FuncData} {k : Nat} {C : Addr} (F : Fun K "bundle" "bundle" a_bundle f fd) (Np : Kn P w K mg base 8 "none_paper" ["plan", "want"] (spNoneG K C) fNp fdNp) (St : Kn P w K mg base 6 "stretches" ["plan", "thing", "place"] (spStr K C) fSt fdSt)   : FnOk P w K mg base CX0 (k + 9) f fd ["plan", "thing", "place"] (spBun K C) := by
  refine F.ok sc_bundle (fun vs H Q E h => ?_) (fun cdv A outer s H vs Q E hr h => ?_)
  · obtain ⟨x, i, p, tops, rs, rfl, _⟩ := h
    rfl
  · obtain ⟨x, i, p, tops, rs, rfl, G, hs, hi, p0, p1, q⟩ := h
    refine ⟨_, (pss_cons (ps_for PassesOwn.never rfl (pi_tup (pe_tup (pa_cons (pe_tup (pa_cons (pv 1) (pa_cons pe_str (pa_cons (pv 2) pa_nil)))) (pa_cons (pe_tup (pa_cons (pv 1) (pa_cons pe_str (pa_cons (pe_op op_add (pv 2) pe_int) pa_nil)))) pa_nil)))) (pg_name (i := 3) sc_bundle.nd rfl (.inl rfl))
        (pss_one (ps_if (pt_cmpR op_notN (pe_kn Np hr (by omega) (pa_cons (pv 0) (pa_cons (pe_tup (pa_cons (pv 3) pa_nil)) pa_nil))) pe_non (nomark _)) (pss_one (ps_ret (pe_tup pa_nil))) pss_nil)))
      (pss_one (ps_ret (pe_kn St hr (by omega) (pa_cons (pv 0) (pa_cons (pv 1) (pa_cons (pv 2) pa_nil))))))), ?_⟩
    have o1 : SideOk tops (i, false, p) := SideOk.mk' hi p0 (by omega)
    have o2 : SideOk tops (i, true, p + 1) := SideOk.mk' hi (by omega) (by omega)
    refine ⟨_, rfl, _, rfl, (show 3 ≤ sizeLine by decide), fun u1 nu1 => ⟨_, rfl, _, rfl, p, 1, rfl, rfl, (show 3 ≤ sizeLine by decide), fun u2 nu2 => ⟨(show 2 ≤ sizeLine by decide), fun g ng => ?_⟩⟩⟩
    have su1 := same_new (o := HO.tup [V.int (i : Int), V.str "to", V.int p]) nu1
    have su2 := same_new (o := HO.tup [V.int (i : Int), V.str "from", V.int (p + 1)]) nu2
    have sg := same_new (o := HO.tup [V.ref u1, V.ref u2]) ng
    have s0 := (su1.trans su2).trans sg
    have h1 : SideAt (upd (upd (upd H u1 (.tup [V.int (i : Int), V.str "to", V.int p])) u2 (.tup [V.int (i : Int), V.str "from", V.int (p + 1)])) g (.tup [V.ref u1, V.ref u2])) u1 (i, false, p) := (su2.trans sg) _ _ upd_same
    have h2 : SideAt (upd (upd (upd H u1 (.tup [V.int (i : Int), V.str "to", V.int p])) u2 (.tup [V.int (i : Int), V.str "from", V.int (p + 1)])) g (.tup [V.ref u1, V.ref u2])) u2 (i, true, p + 1) := sg _ _ upd_same
    have eg : (upd (upd (upd H u1 (.tup [V.int (i : Int), V.str "to", V.int p])) u2 (.tup [V.int (i : Int), V.str "from", V.int (p + 1)])) g (.tup [V.ref u1, V.ref u2])) g = some (.tup [V.ref u1, V.ref u2]) := upd_same
    generalize upd (upd (upd H u1 (.tup [V.int (i : Int), V.str "to", V.int p])) u2 (.tup [V.int (i : Int), V.str "from", V.int (p + 1)])) g (.tup [V.ref u1, V.ref u2]) = H1 at s0 h1 h2 eg ⊢
    refine ⟨g, rfl, ⟨_, .inl (.inl eg)⟩, for_it (walk_tup (xs := [V.ref u1, V.ref u2])) (fun j σ H' => (∃ u3, σ = [some (.ref x), some (.int (i : Int)), some (.int p), u3]) ∧ Same H1 H' ∧ (1 ≤ j → ∃ g ∈ goods tops rs, plc g i ≤ p) ∧ (2 ≤ j → ∃ g ∈ goods tops rs, p < plc g i)) ⟨⟨_, rfl⟩, Same.refl _, (fun h => by omega), fun h => by omega⟩ (fun j σ H' _ y => .inl (.inl (y.2.1 _ _ eg))) (fun j v σ H2 H2' hj y z => ?_) (fun σ H2 y => ?_)⟩
    · obtain ⟨⟨u3, rfl⟩, s2, a1, a2⟩ := y
      obtain ⟨rfl, gv⟩ := z
      have hj2 : j < 2 := hj
      obtain ⟨u, s, ev, hu, ok, hd, nh⟩ : ∃ (u : Addr) (s : Sd), v = .ref u ∧ SideAt H2' u s ∧ SideOk tops s ∧ (Had tops rs [(u, s)] → (1 ≤ j + 1 → ∃ g ∈ goods tops rs, plc g i ≤ p) ∧ (2 ≤ j + 1 → ∃ g ∈ goods tops rs, p < plc g i)) ∧ (¬ Had tops rs [(u, s)] → bunF tops rs i p []) := by
        have : j = 0 ∨ j = 1 := by omega
        rcases this with rfl | rfl
        · refine ⟨u1, (i, false, p), (Option.some.inj gv).symm, s2 _ _ h1, o1, fun h => ⟨fun _ => (had_to hi).mp h, fun h => by omega⟩, fun h => ?_⟩
          unfold bunF
          rw [if_neg fun z => h ((had_to hi).mpr z.1)]
        · refine ⟨u2, (i, true, p + 1), (Option.some.inj gv).symm, s2 _ _ h2, o2, fun h => ⟨fun _ => a1 (Nat.le_refl _), fun _ => (had_from hi).mp h⟩, fun h => ?_⟩
          unfold bunF
          rw [if_neg fun z => h ((had_from hi).mpr z.2)]
      subst ev
      refine ⟨.ref x, rfl, .ref u, rfl, (show 1 ≤ sizeLine by decide), fun gg ngg => ?_⟩
      have sgg := same_new (o := HO.tup [V.ref u]) ngg
      have s02 := (s0.trans s2).trans sgg
      refine ⟨x, gg, tops, rs, [(u, s)], rfl, (G.same s02).one (.inl (.inl upd_same)) (sgg _ _ hu) ok, hs, fun H3 s3 had => ?_, fun H3 h s3 _ no => ?_⟩
      · exact ⟨rfl, _, rfl, iteFa rfl ⟨⟨_, rfl⟩, (s2.trans sgg).trans s3, (hd had).1, (hd had).2⟩⟩
      · refine ⟨rfl, _, rfl, iteTr rfl ⟨Nat.zero_le _, fun t nt => ?_⟩⟩
        have st := same_new (o := HO.tup []) nt
        exact q _ t [] ((s02.trans s3).trans st) (many_nil upd_same) (nh no)
    · obtain ⟨⟨u3, rfl⟩, s2, a1, a2⟩ := y
      have b1 := a1 (show 1 ≤ 2 by omega)
      have b2 := a2 (show 2 ≤ 2 by omega)
      refine ⟨.ref x, rfl, _, rfl, _, rfl, x, i, p, tops, rs, rfl, G.same (s0.trans s2), hi, p0, p1, fun H3 r l1 h1 l2 h2 s3 m F1 F2 => q H3 r _ ((s0.trans s2).trans s3) m ?_⟩
      unfold bunF
      rw [if_pos ⟨b1, b2⟩]
      unfold strF
      rw [List.flatMap_def, List.flatMap_def, List.map_congr_left fun j hj => str_law G.rok G.pl hi p0 p1 F1 F2 b1 b2 (List.mem_range.mp hj)]
end
end K19

set_option Elab.async false
set_option linter.all false
set_option maxRecDepth 100000
set_option maxHeartbeats 1000000
/-! sorted of a list of tuples, with its order. -/
namespace NB
open PySem PySem.Spec PyProof.Rows L2
def rSortTO (K : PySem.W.Frag) (d : Nat) (B : Int) : List V → Hp → VK → Prop := fun vs H Q => ∃ (a : Addr) (L : List (Addr × List Int)), vs = [V.ref a] ∧ SqL K H a (L.map fun z => V.ref z.1) ∧ (∀ z ∈ L, H z.1 = some (.tup (z.2.map V.int)) ∧ z.2.length = d ∧ TS.Bd B z.2) ∧
  ∀ (ys : List V) (p : Addr), ys.Perm (L.map fun z => V.ref z.1) → (ys.Pairwise fun u v => ∀ z ∈ L, ∀ z' ∈ L, u = V.ref z.1 → v = V.ref z'.1 → TS.code B z.2 ≤ TS.code B z'.2) → H p = none → Q (.ref p) (upd H p (.lst ys))
section
variable {X : Cx}
theorem cr_sortTO {d : Nat} {B : Int} (hd1 : 1 ≤ d) : CallR X (.builtin "sorted") (rSortTO X.K d B) := by
  intro pins s σ H vs us Q I r h
  obtain ⟨a, L, rfl, hs, hx, q⟩ := h
  obtain ⟨its, rv, hl, hz⟩ := I.list hs
  obtain ⟨u, rfl, ru⟩ := vals1 r
  obtain rfl : u = Value.ref a := ru
  obtain ⟨e1, e2⟩ := refs_back rv fun x m => by
    obtain ⟨z, _, e⟩ := List.mem_map.mp m
    exact ⟨z.1, e.symm⟩
  have ok : TS.TupsOk s.heap d B its := fun v hv => by
    obtain ⟨t, rfl⟩ := e2 v hv
    have hm : V.ref t ∈ L.map fun z => V.ref z.1 := by rw [e1]; exact List.mem_map.mpr ⟨_, hv, rfl⟩
    obtain ⟨z, hz, e⟩ := List.mem_map.mp hm
    obtain ⟨ht, hn, hb⟩ := hx z hz
    have e' : z.1 = t := V.ref.inj e
    subst e'
    obtain ⟨its2, r2, p2, _⟩ := I.tuple (.inl (.inl ht))
    exact ⟨z.2, ⟨z.1, _, rfl, p2, by simpa using r2.ints⟩, hn, hb⟩
  refine SrtO.sorted_ord (SrtO.swo_rk fun v => TS.code B (TS.intsOf s.heap v)) hl.isList (by rw [← rv.length]; exact hz) (fun h2 h₁ a' ha' kk => ?_) fun out h1 h2 => ?_
  · have kp : ∀ b o, s.heap.get? b = some o → o.cls = .type "tuple" → h₁.get? b = some o := fun b o e _ => (kk b o e).2
    refine SrtO.tups_sortableO (s := { s with heap := h₁ }) hd1 h2 (ok.keeps kp) (fun v hv ns t => ?_) fun o e => ?_
    · obtain ⟨ns0, t0, _⟩ := ok v hv
      have e : ns = ns0 := t.ints.symm.trans (t0.keeps kp).ints
      rw [e, t0.ints]
    · have e' : some o = some (seqObj "list" its.toArray 0) := e.symm.trans ha'
      cases e'
      intro c
      exact absurd (Value.type.inj c) (by decide)
  · have h3 : ∀ u ∈ out, ∃ a, u = Value.ref a := fun u hu => e2 u (h2.perm.mem_iff.mp hu)
    obtain ⟨ep, he'⟩ := PyProof.Rows.sortedAll_at s.heap its out.toArray
    have hp : (out.map backV).Perm (L.map fun z => V.ref z.1) := by
      rw [e1]
      exact h2.perm.map backV
    have ho : (out.map backV).Pairwise fun u v => ∀ z ∈ L, ∀ z' ∈ L, u = V.ref z.1 → v = V.ref z'.1 → TS.code B z.2 ≤ TS.code B z'.2 := by
      rw [List.pairwise_map]
      refine h1.imp_of_mem fun {u v} hu hv lt z hz z' hz' eu ev => ?_
      have code : ∀ {u : Value} {z : Addr × List Int}, u ∈ out → z ∈ L → backV u = V.ref z.1 → TS.intsOf s.heap u = z.2 := fun {u z} hu hz e => by
        obtain ⟨b, rfl⟩ := h3 u hu
        have eb : b = z.1 := V.ref.inj e
        subst eb
        obtain ⟨its2, r2, p2, _⟩ := I.tuple (.inl (.inl (hx z hz).1))
        have t : TS.TupInts s.heap (.ref z.1) z.2 := ⟨z.1, _, rfl, p2, by simpa using r2.ints⟩
        exact t.ints
      have l := of_decide_eq_false lt
      rw [code hu hz eu, code hv hz' ev] at l
      omega
    refine ⟨.ref _, upd H (s.heap.objs.size + 1) (.lst (out.map backV)), I.laid (t' := s.toks) (fun _ _ => PyProof.Rows.sortedAll_old) (Nat.le_succ _) ⟨?_, out, ep, vals_back h3, he'⟩, rfl, q _ _ hp ho (I.hok.fresh (Nat.le_succ _))⟩
    rw [hp.length_eq]
    exact hz
end
end NB

set_option Elab.async false
set_option linter.all false
set_option maxRecDepth 100000
set_option maxHeartbeats 1000000
/-! sorted of a tuple of tuples, with its order. -/
namespace NB
open PySem PySem.Spec PyProof.Rows L2
section
variable {prog : Program} {w : World} {A : Around} {E : Value → Shared → Prop} {s : Shared}
theorem sortedTupO {t : Addr} {vs : List Value} {ltv : Value → Value → Bool} {Q : Value → Shared → Prop} (O : SrtO.Swo ltv) (hl : s.heap.IsTuple t vs.toArray) (hz : vs.length ≤ sizeLine)
    (hS : 2 ≤ vs.length → ∀ (h₁ : Heap) (a : Addr), h₁.get? a = some (seqObj "list" vs.toArray 0) → (∀ b o, s.heap.get? b = some o → h₁.get? b = some o) → SrtO.SortableO prog w A.in1.in1 { s with heap := h₁ } a vs ltv)
    (h : ∀ (h1 h' : Heap) (p : Addr) (out : List Value) (ep : Nat), SrtO.Srtd ltv out → SrtO.Stb ltv out vs → (∀ b o, s.heap.get? b = some o → h1.get? b = some o) → (∀ b o, h1.get? b = some o → h'.get? b = some o) → h1.objs.size ≤ p →
      h'.get? p = some (seqObj "list" out.toArray ep) → Q (.ref p) { s with heap := h' }) :
    wpAny (model prog w) A (call (.builtin "sorted") [.ref t]) Q E s := by
  obtain ⟨o, ho, hc, n, hd⟩ := hl
  refine Calls.call_function_entry kind_sorted plain_sorted entry_sorted (args_sorted1 _) ?_
  unfold Builtin.«sorted»
  refine wpAny_bind (m := checkCount "sorted" 1 1 _) (wpAny_pure ?_)
  refine wpAny_bind (wpAny_collect_seq t (.inr rfl) ho hc hd (fun h1 hk => ?_) (by rw [List.size_toArray]; exact hz))
  refine wpAny_bind (wpAny_newList ?_ hz)
  have e0 : (vs.toArray.toList) = vs := rfl
  have hoL : (h1.push (seqObj "list" vs.toArray 0)).get? h1.objs.size = some (seqObj "list" vs.toArray 0) := Heap.get?_push_size _ rfl
  have kp : ∀ b o, s.heap.get? b = some o → (h1.push (seqObj "list" vs.toArray 0)).get? b = some o := fun b o q => Heap.get?_push_of_some _ (hk b o q)
  show wpAny _ _ _ _ _ { s with heap := h1.push (seqObj "list" vs.toArray 0) }
  refine wpAny_bind (wpAny_holding (wpAny_call_entry slot_list_sort ⟨_, hoL, rfl⟩ entry_list_sort (SrtO.list_sort_ord O hoL hz (fun h2 => hS h2 _ _ hoL kp) fun out q1 q2 => ⟨_, rfl, ?_⟩) (args_list_sort _)))
  refine wpAny_pure ⟨_, rfl, ?_⟩
  obtain ⟨ep, hat⟩ := sortedHeap_at (vs := vs) (out := out.toArray) hoL
  refine h h1 _ h1.objs.size out ep q1 q2 hk (fun b o q => ?_) (Nat.le_refl _) hat
  have lt := Heap.lt_size q
  rw [sortedHeap_old (Nat.ne_of_lt lt) (by rw [size_push']; exact Nat.lt_succ_of_lt lt)]
  exact Heap.get?_push_of_some _ q
end
def rSortTTO (K : PySem.W.Frag) (d : Nat) (B : Int) : List V → Hp → VK → Prop := fun vs H Q => ∃ (a : Addr) (L : List (Addr × List Int)), vs = [V.ref a] ∧ SqT K H a (L.map fun z => V.ref z.1) ∧ (∀ z ∈ L, H z.1 = some (.tup (z.2.map V.int)) ∧ z.2.length = d ∧ TS.Bd B z.2) ∧
  ∀ (ys : List V) (p : Addr), ys.Perm (L.map fun z => V.ref z.1) → (ys.Pairwise fun u v => ∀ z ∈ L, ∀ z' ∈ L, u = V.ref z.1 → v = V.ref z'.1 → TS.code B z.2 ≤ TS.code B z'.2) → H p = none → Q (.ref p) (upd H p (.lst ys))
section
variable {X : Cx}
theorem cr_sortTTO {d : Nat} {B : Int} (hd1 : 1 ≤ d) : CallR X (.builtin "sorted") (rSortTTO X.K d B) := by
  intro pins s σ H vs us Q I r h
  obtain ⟨a, L, rfl, hs, hx, q⟩ := h
  obtain ⟨its, rv, hl, hz⟩ := I.tuple hs
  obtain ⟨u, rfl, ru⟩ := vals1 r
  obtain rfl : u = Value.ref a := ru
  obtain ⟨e1, e2⟩ := refs_back rv fun x m => by
    obtain ⟨z, _, e⟩ := List.mem_map.mp m
    exact ⟨z.1, e.symm⟩
  have ok : TS.TupsOk s.heap d B its := fun v hv => by
    obtain ⟨t, rfl⟩ := e2 v hv
    have hm : V.ref t ∈ L.map fun z => V.ref z.1 := by rw [e1]; exact List.mem_map.mpr ⟨_, hv, rfl⟩
    obtain ⟨z, hz, e⟩ := List.mem_map.mp hm
    obtain ⟨ht, hn, hb⟩ := hx z hz
    have e' : z.1 = t := V.ref.inj e
    subst e'
    obtain ⟨its2, r2, p2, _⟩ := I.tuple (.inl (.inl ht))
    exact ⟨z.2, ⟨z.1, _, rfl, p2, by simpa using r2.ints⟩, hn, hb⟩
  refine sortedTupO (SrtO.swo_rk fun v => TS.code B (TS.intsOf s.heap v)) hl (by rw [← rv.length]; exact hz) (fun h2 h₁ a' ha' kk => ?_) fun h1 h' p out ep o1 o2 k1 k2 hp hat => ?_
  · have kp : ∀ b o, s.heap.get? b = some o → o.cls = .type "tuple" → h₁.get? b = some o := fun b o e _ => kk b o e
    refine SrtO.tups_sortableO (s := { s with heap := h₁ }) hd1 h2 (ok.keeps kp) (fun v hv ns t => ?_) fun o e => ?_
    · obtain ⟨ns0, t0, _⟩ := ok v hv
      have e : ns = ns0 := t.ints.symm.trans (t0.keeps kp).ints
      rw [e, t0.ints]
    · have e' : some o = some (seqObj "list" its.toArray 0) := e.symm.trans ha'
      cases e'
      intro c
      exact absurd (Value.type.inj c) (by decide)
  · have h3 : ∀ u ∈ out, ∃ a, u = Value.ref a := fun u hu => e2 u (o2.perm.mem_iff.mp hu)
    have hp' : (out.map backV).Perm (L.map fun z => V.ref z.1) := by
      rw [e1]
      exact o2.perm.map backV
    have ho : (out.map backV).Pairwise fun u v => ∀ z ∈ L, ∀ z' ∈ L, u = V.ref z.1 → v = V.ref z'.1 → TS.code B z.2 ≤ TS.code B z'.2 := by
      rw [List.pairwise_map]
      refine o1.imp_of_mem fun {u v} hu hv lt z hz z' hz' eu ev => ?_
      have code : ∀ {u : Value} {z : Addr × List Int}, u ∈ out → z ∈ L → backV u = V.ref z.1 → TS.intsOf s.heap u = z.2 := fun {u z} hu hz e => by
        obtain ⟨b, rfl⟩ := h3 u hu
        have eb : b = z.1 := V.ref.inj e
        subst eb
        obtain ⟨its2, r2, p2, _⟩ := I.tuple (.inl (.inl (hx z hz).1))
        have t : TS.TupInts s.heap (.ref z.1) z.2 := ⟨z.1, _, rfl, p2, by simpa using r2.ints⟩
        exact t.ints
      have l := of_decide_eq_false lt
      rw [code hu hz eu, code hv hz' ev] at l
      omega
    have I1 : Inv X pins σ H { s with heap := h1 } := I.kept (t' := s.toks) k1
    have hlen : (out.map backV).length ≤ sizeLine := by
      rw [hp'.length_eq]
      exact hz
    exact ⟨.ref p, upd H p (.lst (out.map backV)), I1.laid (t' := s.toks) k2 hp ⟨hlen, out, ep, vals_back h3, hat⟩, rfl, q _ _ hp' ho (I1.hok.fresh hp)⟩
end
end NB

set_option Elab.async false
set_option linter.all false
set_option maxRecDepth 100000
namespace K19
open PySem PySem.Spec PyProof.Rows L2 NB

/-! ### bundles of the steps of a bundle: mathematics -/
theorem perm_srt {α : Type} {f : α → Int} : ∀ (l m : List α), l.Perm m → (l.Pairwise fun x y => f x ≤ f y) → (m.Pairwise fun x y => f x < f y) → l = m
  | [], m, h, _, _ => (List.nil_perm.mp h).symm
  | x :: l, [], h, _, _ => by
    have := h.length_eq
    simp at this
  | x :: l, y :: m, h, hl, hm => by
    obtain ⟨l1, l2⟩ := List.pairwise_cons.mp hl
    obtain ⟨m1, m2⟩ := List.pairwise_cons.mp hm
    have e : x = y := by
      rcases List.mem_cons.mp (h.mem_iff.mp List.mem_cons_self) with e | hx
      · exact e
      · rcases List.mem_cons.mp (h.mem_iff.mpr List.mem_cons_self) with e | hy
        · exact e.symm
        · have := m1 x hx
          have := l1 y hy
          omega
    subst e
    rw [perm_srt l m (List.Perm.cons_inv h) l2 m2]
def swp : List Int → List Int
  | [a, b, c] => [a, c, b]
  | s => s
section
variable {tops : List Int} {rs : List Rl}
structure Tol (tops : List Int) (rs : List Rl) (i : Nat) (p : Int) (l1 h1 l2 h2 : List Int) : Prop where
  rok : ∀ q ∈ rs, RuleOk tops q
  pl : ∀ i, i < tops.length → 0 ≤ plc tops i
  hi : i < tops.length
  p0 : 0 ≤ p
  p1 : p < plc tops i
  F1 : Fol tops rs (· ∈ [((i, false, p) : Sd)]) l1 h1
  F2 : Fol tops rs (· ∈ [((i, true, p + 1) : Sd)]) l2 h2
  b1 : ∃ g ∈ goods tops rs, plc g i ≤ p
  b2 : ∃ g ∈ goods tops rs, p < plc g i
theorem Tol.s1 {i : Nat} {p : Int} {l1 h1 l2 h2 : List Int} (T : Tol tops rs i p l1 h1 l2 h2) {g : List Int} (hg : g ∈ goods tops rs) (h : plc g i ≤ p) {j : Nat} (hj : j < tops.length) : plc l1 j ≤ plc g j ∧ plc g j ≤ plc h1 j := by
  have hp := T.p1
  have hp0 := T.p0
  exact T.F1.sound T.rok (fun s hs => by rw [List.mem_singleton.mp hs]; exact SideOk.mk' T.hi hp0 (by omega)) hg (fun s hs => by rw [List.mem_singleton.mp hs]; exact (inTo (by rw [goods_len hg]; exact T.hi)).mpr h) hj
theorem Tol.s2 {i : Nat} {p : Int} {l1 h1 l2 h2 : List Int} (T : Tol tops rs i p l1 h1 l2 h2) {g : List Int} (hg : g ∈ goods tops rs) (h : p < plc g i) {j : Nat} (hj : j < tops.length) : plc l2 j ≤ plc g j ∧ plc g j ≤ plc h2 j := by
  have hp := T.p1
  have hp0 := T.p0
  exact T.F2.sound T.rok (fun s hs => by rw [List.mem_singleton.mp hs]; exact SideOk.mk' T.hi (by omega) (by omega)) hg (fun s hs => by rw [List.mem_singleton.mp hs]; exact (inFr (by rw [goods_len hg]; exact T.hi)).mpr (by omega)) hj
theorem Tol.on {i : Nat} {p : Int} {l1 h1 l2 h2 : List Int} (T : Tol tops rs i p l1 h1 l2 h2) {j : Nat} (hj : j < tops.length) {k : Int} (a : plc h1 j ≤ k) (b : k < plc l2 j) : prt (goods tops rs) j k = prt (goods tops rs) i p := prt_eq.mpr fun g hg => by
  by_cases c : p < plc g i
  · have := (T.s2 hg c hj).1
    exact ⟨fun _ => c, fun _ => by omega⟩
  · have := (T.s1 hg (by omega) hj).2
    exact ⟨fun _ => by omega, fun z => absurd z c⟩
theorem Tol.bk {i : Nat} {p : Int} {l1 h1 l2 h2 : List Int} (T : Tol tops rs i p l1 h1 l2 h2) {j : Nat} (hj : j < tops.length) {k : Int} (a : plc h2 j ≤ k) (b : k < plc l1 j) : prt (goods tops rs) j k = (prt (goods tops rs) i p).map not := prt_ne.mpr fun g hg => by
  by_cases c : p < plc g i
  · have := (T.s2 hg c hj).2
    exact ⟨fun _ => by omega, fun z => absurd c z⟩
  · have := (T.s1 hg (by omega) hj).1
    exact ⟨fun _ => c, fun _ => by omega⟩
theorem Tol.law {i : Nat} {p : Int} {l1 h1 l2 h2 : List Int} (T : Tol tops rs i p l1 h1 l2 h2) {j : Nat} (hj : j < tops.length) : lawJ (goods tops rs) i p j (plc tops j).toNat = strJ l1 h1 l2 h2 j := str_law T.rok T.pl T.hi T.p0 T.p1 T.F1 T.F2 T.b1 T.b2 hj
theorem Tol.own {i : Nat} {p : Int} {l1 h1 l2 h2 : List Int} (T : Tol tops rs i p l1 h1 l2 h2) : plc h1 i ≤ p ∧ p < plc l2 i := by
  have a := T.F1.h1 i p (.base (List.mem_singleton.mpr rfl))
  have b := T.F2.l1 i (p + 1) (.base (List.mem_singleton.mpr rfl))
  omega
theorem bun_tol (rok : ∀ q ∈ rs, RuleOk tops q) (pl : ∀ i, i < tops.length → 0 ≤ plc tops i) {i : Nat} {p : Int} (hi : i < tops.length) (p0 : 0 ≤ p) (p1 : p < plc tops i) {xss : List (List Int)} (h : bunF tops rs i p xss) :
    (¬ ((∃ g ∈ goods tops rs, plc g i ≤ p) ∧ (∃ g ∈ goods tops rs, p < plc g i)) ∧ xss = []) ∨ ∃ l1 h1 l2 h2, Tol tops rs i p l1 h1 l2 h2 ∧ xss = strF tops.length l1 h1 l2 h2 ∧ xss ≠ [] := by
  unfold bunF at h
  by_cases c : (∃ g ∈ goods tops rs, plc g i ≤ p) ∧ (∃ g ∈ goods tops rs, p < plc g i)
  · rw [if_pos c] at h
    obtain ⟨l1, h1, F1⟩ := fol_ex rok pl (S := (· ∈ [((i, false, p) : Sd)])) (fun s hs => by rw [List.mem_singleton.mp hs]; exact SideOk.mk' hi p0 (by omega))
    obtain ⟨l2, h2, F2⟩ := fol_ex rok pl (S := (· ∈ [((i, true, p + 1) : Sd)])) (fun s hs => by rw [List.mem_singleton.mp hs]; exact SideOk.mk' hi (by omega) (by omega))
    have T : Tol tops rs i p l1 h1 l2 h2 := ⟨rok, pl, hi, p0, p1, F1, F2, c.1, c.2⟩
    have e : xss = strF tops.length l1 h1 l2 h2 := by
      rw [h]
      unfold strF
      rw [List.flatMap_def, List.flatMap_def, List.map_congr_left fun j hj => T.law (List.mem_range.mp hj)]
    refine .inr ⟨l1, h1, l2, h2, T, e, fun z => ?_⟩
    have m : [(i : Int), plc h1 i, plc l2 i] ∈ xss := by
      rw [e]
      refine List.mem_flatMap.mpr ⟨i, List.mem_range.mpr hi, ?_⟩
      unfold strJ
      rw [if_pos (by have := T.own; omega)]
      exact List.mem_singleton.mpr rfl
    rw [z] at m
    exact absurd m List.not_mem_nil
  · rw [if_neg c] at h
    exact .inl ⟨c, h⟩
theorem str_mem {n : Nat} {l1 h1 l2 h2 : List Int} {s : List Int} (h : s ∈ strF n l1 h1 l2 h2) : ∃ j : Nat, j < n ∧ ((s = [(j : Int), plc h1 j, plc l2 j] ∧ plc h1 j < plc l2 j) ∨ (s = [(j : Int), plc l1 j, plc h2 j] ∧ plc h2 j < plc l1 j)) := by
  obtain ⟨j, hj, hs⟩ := List.mem_flatMap.mp h
  refine ⟨j, List.mem_range.mp hj, ?_⟩
  unfold strJ at hs
  split at hs
  · exact .inl ⟨List.mem_singleton.mp hs, by assumption⟩
  · split at hs
    · exact .inr ⟨List.mem_singleton.mp hs, by assumption⟩
    · cases hs
theorem Tol.bun {i : Nat} {p : Int} {l1 h1 l2 h2 : List Int} (T : Tol tops rs i p l1 h1 l2 h2) : bunF tops rs i p (strF tops.length l1 h1 l2 h2) := by
  unfold bunF
  rw [if_pos ⟨T.b1, T.b2⟩]
  unfold strF
  rw [List.flatMap_def, List.flatMap_def, List.map_congr_left fun j hj => T.law (List.mem_range.mp hj)]
theorem bun_same {i j : Nat} {p k : Int} {xss : List (List Int)} (e : prt (goods tops rs) j k = prt (goods tops rs) i p) (h : bunF tops rs i p xss) (b : (∃ g ∈ goods tops rs, plc g i ≤ p) ∧ (∃ g ∈ goods tops rs, p < plc g i)) : bunF tops rs j k xss := by
  have e' := prt_eq.mp e
  unfold bunF at h ⊢
  rw [if_pos b] at h
  rw [if_pos, h]
  · rw [List.flatMap_def, List.flatMap_def]
    congr 1
    refine List.map_congr_left fun j' _ => ?_
    unfold lawJ
    rw [e]
  · obtain ⟨⟨g, hg, h1⟩, ⟨g', hg', h2⟩⟩ := b
    exact ⟨⟨g, hg, by have := e' g hg; omega⟩, ⟨g', hg', (e' g' hg').mpr h2⟩⟩
theorem Tol.swap {i j : Nat} {p k : Int} {l1 h1 l2 h2 : List Int} (T : Tol tops rs i p l1 h1 l2 h2) (e : prt (goods tops rs) j k = (prt (goods tops rs) i p).map not) : bunF tops rs j k ((strF tops.length l1 h1 l2 h2).map swp) := by
  have e' := prt_ne.mp e
  unfold bunF
  rw [if_pos]
  · unfold strF
    rw [List.map_flatMap, List.flatMap_def, List.flatMap_def]
    congr 1
    refine List.map_congr_left fun j' hj' => ?_
    have L := T.law (List.mem_range.mp hj')
    rw [← L]
    have len : (strJ l1 h1 l2 h2 j').length ≤ 1 := by
      unfold strJ
      split
      · exact Nat.le_refl _
      · split
        · exact Nat.le_refl _
        · exact Nat.zero_le _
    rw [← L] at len
    have nn : ((prt (goods tops rs) i p).map not).map not = prt (goods tops rs) i p := by
      rw [List.map_map]
      exact (List.map_congr_left fun b _ => by simp).trans (List.map_id _)
    unfold lawJ at len ⊢
    rw [e, nn]
    by_cases c1 : onL (goods tops rs) (prt (goods tops rs) i p) j' (plc tops j').toNat = []
    · rw [if_pos c1, if_pos c1, List.append_nil, List.nil_append]
      split
      · rfl
      · rfl
    · by_cases c2 : onL (goods tops rs) ((prt (goods tops rs) i p).map not) j' (plc tops j').toNat = []
      · rw [if_neg c1, if_neg c1, if_pos c2, if_pos c2, List.append_nil, List.nil_append]
        rfl
      · rw [if_neg c1, if_neg c2] at len
        simp at len
  · obtain ⟨g, hg, h1⟩ := T.b1
    obtain ⟨g', hg', h2⟩ := T.b2
    exact ⟨⟨g', hg', by have := e' g' hg'; omega⟩, ⟨g, hg, (e' g hg).mpr (by omega)⟩⟩
theorem str_filter (i : Nat) (l1 h1 l2 h2 : List Int) : ∀ n : Nat, (strF n l1 h1 l2 h2).filter (fun s => decide (s.headD 0 = (i : Int))) = if i < n then strJ l1 h1 l2 h2 i else []
  | 0 => rfl
  | n + 1 => by
    have nx : strF (n + 1) l1 h1 l2 h2 = strF n l1 h1 l2 h2 ++ strJ l1 h1 l2 h2 n := by
      unfold strF
      rw [List.range_succ, List.flatMap_append, List.flatMap_cons, List.flatMap_nil, List.append_nil]
    have hd : ∀ s ∈ strJ l1 h1 l2 h2 n, s.headD 0 = (n : Int) := fun s hs => by
      unfold strJ at hs
      split at hs
      · rw [List.mem_singleton.mp hs]
        rfl
      · split at hs
        · rw [List.mem_singleton.mp hs]
          rfl
        · cases hs
    rw [nx, List.filter_append, str_filter i l1 h1 l2 h2 n]
    by_cases c : i = n
    · subst c
      rw [if_neg (Nat.lt_irrefl _), if_pos (Nat.lt_succ_self _), List.nil_append]
      exact List.filter_eq_self.mpr fun s hs => decide_eq_true (hd s hs)
    · have : (strJ l1 h1 l2 h2 n).filter (fun s => decide (s.headD 0 = (i : Int))) = [] := List.filter_eq_nil_iff.mpr fun s hs => by
        rw [hd s hs]
        simp
        omega
      rw [this, List.append_nil]
      by_cases d : i < n
      · rw [if_pos d, if_pos (by omega)]
      · rw [if_neg d, if_neg (by omega)]
end
end K19

set_option Elab.async false
set_option linter.all false
set_option maxRecDepth 100000
namespace NB
open PySem PySem.Spec PyProof.Rows L2
section
variable {X : Cx}
/-- what stands at the keys of a dict of tuples of whole numbers -/
def KeyInts (ks : List (List Key)) (ns : List (List Int)) : Prop := ks = ns.map fun n => n.map Sum.inl
theorem kv_ints (n : List Int) : (n.map (Sum.inl : Int → Key)).map kV = n.map V.int := by
  rw [List.map_map]
  rfl
/-- sorted(d), d a dict of fewer than 64 tuples of whole numbers -/
def rSortD (d : Nat) (B : Int) : List V → Hp → VK → Prop := fun vs H Q => ∃ (a : Addr) (kvs : List (List Key × V)) (ns : List (List Int)), vs = [V.ref a] ∧ H a = some (.dT kvs) ∧
  kvs.map (·.1) = (ns.map fun n => n.map Sum.inl) ∧ ns.length < 64 ∧ (∀ n ∈ ns, n.length = d ∧ TS.Bd B n) ∧
  ∀ (L : List (Addr × List Int)) (p : Addr), (L.map (·.2)).Perm ns → (∀ z ∈ L, H z.1 = some (.tup (z.2.map V.int))) → L.Pairwise (fun y z => TS.code B y.2 ≤ TS.code B z.2) → H p = none → Q (.ref p) (upd H p (.lst (L.map fun z => V.ref z.1)))
theorem paired_at {α β : Type} {F : α → β → Prop} : ∀ {l₁ : List α} {l₂ : List β}, Paired F l₁ l₂ → ∀ (j : Nat) (x : α) (y : β), l₁[j]? = some x → l₂[j]? = some y → F x y
  | _, _, .nil, j, x, y, h, _ => by simp at h
  | _, _, .cons h t, 0, x, y, h1, h2 => by
    cases h1
    cases h2
    exact h
  | _, _, .cons h t, j + 1, x, y, h1, h2 => paired_at t j x y (by simpa using h1) (by simpa using h2)
/-- values that are addresses of tuples, put in another order -/
theorem back_refs {H : Hp} : ∀ {vs : List Value} {L : List (Addr × List Int)}, vs.Perm (L.map fun z => Value.ref z.1) → ∃ L' : List (Addr × List Int), L'.Perm L ∧ vs = L'.map fun z => Value.ref z.1 := fun {vs L} h => by
  have main : ∀ {us vs : List Value}, us.Perm vs → ∀ L : List (Addr × List Int), us = (L.map fun z => Value.ref z.1) → ∃ L' : List (Addr × List Int), L'.Perm L ∧ vs = L'.map fun z => Value.ref z.1 := by
    intro us vs h
    induction h with
    | nil => exact fun L e => ⟨L, .refl _, e⟩
    | cons x p ih =>
      intro L e
      cases L with
      | nil => cases e
      | cons z L =>
        simp only [List.map_cons, List.cons.injEq] at e
        obtain ⟨L', p', e'⟩ := ih L e.2
        exact ⟨z :: L', .cons _ p', by rw [e', e.1, List.map_cons]⟩
    | swap x y l =>
      intro L e
      match L, e with
      | z1 :: z2 :: L, e =>
        simp only [List.map_cons, List.cons.injEq] at e
        exact ⟨z2 :: z1 :: L, .swap _ _ _, by rw [e.1, e.2.1, e.2.2]; rfl⟩
    | trans p q ih1 ih2 =>
      intro L e
      obtain ⟨L1, p1, e1⟩ := ih1 L e
      obtain ⟨L2', p2, e2⟩ := ih2 L1 e1
      exact ⟨L2', p2.trans p1, e2⟩
  exact main h.symm L rfl
theorem sortD (hc : X.calm = true) {d : Nat} {B : Int} (hd1 : 1 ≤ d) : CallR X (.builtin "sorted") (rSortD d B) := by
  intro pins s σ H vs us Q I r h
  obtain ⟨a, kvs, ns, rfl, ha, hkeys, h64, hbd, q⟩ := h
  obtain ⟨u, rfl, rx⟩ := r.one
  cases rx
  obtain ⟨z, lo, ks, pr, o, es, ep, ho, hx, hdt, hen, hnd⟩ := (show ObjOk X.prog X.w H s.heap a (.dT kvs) from I.hok a _ ha)
  have l1 : es.size = ks.length := size_of_entries hen
  have l2 : kvs.length = ks.length := Paired.length pr
  have l3 : kvs.length = ns.length := by
    have e := congrArg List.length hkeys
    rwa [List.length_map, List.length_map] at e
  have few : es.size ≤ sizeLine := by rw [l1, ← l2, l3, sizeLine_eq]; omega
  refine Calls.call_function_entry PyProof.Rows.kind_sorted PyProof.Rows.plain_sorted PyProof.Rows.entry_sorted (PyProof.Rows.args_sorted1 _) ?_
  unfold Builtin.«sorted»
  refine wpAny_bind (m := checkCount "sorted" 1 1 _) (wpAny_pure ?_)
  refine wpAny_bind (PySem.W.kdu_collect (A := X.A.in1) (kdl_raw lo hx hdt) (I.ok.hd hc) ho few fun h1 tk acc kp it => ?_)
  -- the collected keys are the addresses of the key tuples
  have hal : acc.toList.length = ks.length := by rw [Array.length_toList, it.1]; exact l1
  let L0 : List (Addr × List Int) := (ks.map fun x => x.2.1).zip ns
  have lz : L0.length = ks.length := by
    show ((ks.map fun x => x.2.1).zip ns).length = _
    rw [List.length_zip, List.length_map]
    omega
  have eacc : acc.toList = L0.map fun y => Value.ref y.1 := by
    apply List.ext_getElem?
    intro j
    rw [List.getElem?_map]
    cases hj : acc.toList[j]? with
    | none =>
      have h0 := List.getElem?_eq_none_iff.mp hj
      rw [List.getElem?_eq_none (by omega)]
      rfl
    | some v =>
      obtain ⟨en, hen', hv⟩ := it.2 j v (by rw [← Array.getElem?_toList]; exact hj)
      have qe := entry_at hen j
      rw [hen'] at qe
      have hjl : j < ks.length := by
        have := (List.getElem?_eq_some_iff.mp hj).1
        omega
      have hjn : j < ns.length := by omega
      rw [List.getElem?_eq_getElem hjl] at qe
      have e2 : en = entryOfKey (tupleKind (mixKind X.prog X.w)) ks[j] := Option.some.inj qe
      have ez : L0[j]? = some (ks[j].2.1, ns[j]) := by
        show ((ks.map fun x => x.2.1).zip ns)[j]? = _
        exact List.getElem?_zip_eq_some.mpr ⟨by rw [List.getElem?_map, List.getElem?_eq_getElem hjl]; rfl, List.getElem?_eq_getElem hjn⟩
      rw [hv, e2, ez]
      rfl
  have hL2 : L0.map (·.2) = ns := List.map_snd_zip (by rw [List.length_map]; omega)
  have hT : ∀ y ∈ L0, H y.1 = some (.tup (y.2.map V.int)) ∧ y.2.length = d ∧ TS.Bd B y.2 := fun y hy => by
    obtain ⟨j, hj, ej⟩ := List.getElem_of_mem hy
    have hjk : j < ks.length := by omega
    have hjn : j < ns.length := by omega
    have hjv : j < kvs.length := by omega
    have hy' : L0[j]? = some (ks[j].2.1, ns[j]) := by
      show ((ks.map fun x => x.2.1).zip ns)[j]? = _
      exact List.getElem?_zip_eq_some.mpr ⟨by rw [List.getElem?_map, List.getElem?_eq_getElem hjk]; rfl, List.getElem?_eq_getElem hjn⟩
    rw [List.getElem?_eq_getElem hj, ej] at hy'
    have ey : y = (ks[j].2.1, ns[j]) := Option.some.inj hy'
    have kk := paired_at (isKeys_of pr) j kvs[j] ks[j].2.1 (List.getElem?_eq_getElem hjv) (by rw [List.getElem?_map, List.getElem?_eq_getElem hjk]; rfl)
    have ek : kvs[j].1 = ns[j].map Sum.inl := by
      have e := congrArg (fun l => l[j]?) hkeys
      simp only [List.getElem?_map, List.getElem?_eq_getElem hjv, List.getElem?_eq_getElem hjn, Option.map_some, Option.some.injEq] at e
      exact e
    rw [ek, kv_ints] at kk
    rw [ey]
    exact ⟨kk, hbd _ (List.getElem_mem hjn)⟩
  have I1 : Inv X pins σ H { s with heap := h1, toks := tk } := I.kept kp
  have raw : ∀ y ∈ L0, TS.TupInts h1 (.ref y.1) y.2 := fun y hy => tupI_raw I1 (.inl (.inl (hT y hy).1))
  refine wpAny_bind (wpAny_newList ?_ (by rw [hal, ← l2, l3, sizeLine_eq]; omega))
  have hoL : (h1.push (seqObj "list" acc.toList.toArray 0)).get? h1.objs.size = some (seqObj "list" acc.toList.toArray 0) := Heap.get?_push_size _ rfl
  have keep : ∀ b o', h1.get? b = some o' → o'.cls = .type "tuple" → (h1.push (seqObj "list" acc.toList.toArray 0)).get? b = some o' := fun b o' e _ => Heap.get?_push_of_some _ e
  have oks : TS.TupsOk h1 d B acc.toList := fun v hv => by
    rw [eacc] at hv
    obtain ⟨y, hy, rfl⟩ := List.mem_map.mp hv
    exact ⟨y.2, raw y hy, (hT y hy).2.1, (hT y hy).2.2⟩
  show wpAny _ _ _ _ _ { s with heap := h1.push (seqObj "list" acc.toList.toArray 0), toks := tk }
  refine wpAny_bind (wpAny_holding (wpAny_call_entry PyProof.Rows.slot_list_sort ⟨_, hoL, rfl⟩ PyProof.Rows.entry_list_sort
    (TS.sort_tups (s := { s with heap := h1.push (seqObj "list" acc.toList.toArray 0), toks := tk }) hoL (by rw [hal]; omega) hd1 (oks.keeps keep) (fun v => TS.code B (TS.intsOf h1 v)) (fun v hv n t => ?_) fun out g1 g2 => ⟨_, rfl, ?_⟩) (PyProof.Rows.args_list_sort _)))
  · obtain ⟨n0, t0, _⟩ := oks v hv
    have e : n = n0 := t.ints.symm.trans (t0.keeps keep).ints
    rw [e]
    show TS.code B (TS.intsOf h1 v) = TS.code B n0
    rw [t0.ints]
  rw [eacc] at g1
  obtain ⟨L', pL, eo⟩ := back_refs (H := H) g1
  have hm : ∀ y ∈ L', y ∈ L0 := fun y hy => pL.mem_iff.mp hy
  obtain ⟨e', he'⟩ := PyProof.Rows.sortedHeap_at (vs := acc.toList) (out := out) hoL
  have hlen : (L'.map fun y => V.ref y.1).length ≤ sizeLine := by
    rw [List.length_map, pL.length_eq, lz, ← l2, l3, sizeLine_eq]
    omega
  have hv' : Vals (L'.map fun y => V.ref y.1) out.toList := by rw [eo]; exact vals_of_refs L'
  refine wpAny_pure ⟨_, rfl, .ref h1.objs.size, upd H h1.objs.size (.lst (L'.map fun y => V.ref y.1)), I1.laid (t' := tk) (fun b u e => ?_) (Nat.le_refl _)
    (show ObjOk X.prog X.w _ _ _ (.lst (L'.map fun y => V.ref y.1)) from ⟨hlen, out.toList, e', hv', by rw [Array.toArray_toList]; exact he'⟩), rfl, q L' _ ?_ (fun y hy => (hT y (hm y hy)).1) ?_ (I1.hok.fresh (Nat.le_refl _))⟩
  · have hb : b < h1.objs.size := Heap.lt_size e
    rw [PyProof.Rows.sortedHeap_old (Nat.ne_of_lt hb) (by rw [size_push']; exact Nat.lt_succ_of_lt hb)]
    exact Heap.get?_push_of_some _ e
  · have p2 := pL.map (·.2)
    rw [hL2] at p2
    exact p2
  · rw [eo, List.pairwise_map] at g2
    refine List.Pairwise.imp_of_mem (fun {y z} hy hz h => ?_) g2
    have h' : TS.code B (TS.intsOf h1 (.ref y.1)) ≤ TS.code B (TS.intsOf h1 (.ref z.1)) := h
    rw [(raw y (hm y hy)).ints, (raw z (hm z hz)).ints] at h'
    exact h'
end
end NB

set_option Elab.async false
set_option linter.all false
set_option maxRecDepth 100000
namespace NB
open PySem PySem.Spec PyProof.Rows L2
section
variable {X : Cx}
/-- the whole numbers a, a - 1, .. down to above b -/
def dnV (a b : Int) : List V := (List.range (a - b).toNat).map fun i => V.int (a - (i : Nat))
/-- list(range(a, b, c)), c being -1 -/
def tLstDn (ta : TA) : TE := fun σ H Q => ta σ H fun vs H1 => ∃ a b : Int, vs = [.int a, .int b, .int (-1)] ∧ (-(2 ^ 62) ≤ a ∧ a < 2 ^ 62 ∧ -(2 ^ 62) ≤ b ∧ b < 2 ^ 62 ∧ (a - b).toNat ≤ 2 ^ 24) ∧ ∀ q, H1 q = none → Q (.ref q) (upd H1 q (.lst (dnV a b)))
theorem pe_listDn {x y z : Expr} {ta : TA} {p p' pos pos' : Pos} (hc : X.calm = true) (hl : Gl X "list") (ml : X.mg "list" = none) (hg : Gl X "range") (hm : X.mg "range" = none) (ha : PA X [x, y, z] ta)
    (hs : starEach [x, y, z] X.env = (false, eval x X.env) :: starEach [y, z] X.env := by rfl) (hpl : (backTo pos (starEach [y, z] X.env)).any (·.1) = false := by rfl)
    (na : starEach [Expr.Call (.Name "range" p) [x, y, z] [] pos] X.env = (false, eval (.Call (.Name "range" p) [x, y, z] [] pos) X.env) :: starEach [] X.env := by rfl) :
    PE X (.Call (.Name "list" p') [.Call (.Name "range" p) [x, y, z] [] pos] [] pos') (tLstDn ta) := by
  refine ⟨fun pins s σ H Q I h => ?_⟩
  refine Call_ (ld_blt I hl ml boot_list (PyProof.Rows.callWith_type1 (args_cons ?_ na) na))
  refine Call_ (ld_blt I hg hm boot_range (PyProof.Rows.callWith_type1 (thn (ha.run pos pins s σ H _ I h) fun us s1 ⟨vs, H1, I1, r1, q1⟩ => ?_) hs hpl))
  obtain ⟨i, j, rfl, ⟨b1, b2, b3, b4, b5⟩, q⟩ := q1
  cases r1 with
  | cons r rr =>
    cases rr with
    | cons r' rr =>
      cases rr with
      | cons r'' rr =>
        cases rr
        obtain ⟨t, rfl⟩ := r
        obtain ⟨t', rfl⟩ := r'
        obtain ⟨t'', rfl⟩ := r''
        have C := RgC.neg b1 b2 b3 b4
        refine call_range_3 C.1 ?_ (.inl (PyProof.noPylong_small C.2.1))
        have I2 : Inv X pins σ H1 { s1 with heap := s1.heap.push { cls := .type "range", data := .fields #[.int i t, .int j t', .int (-1) t''] } } := I1.kept (t' := s1.toks) fun b o e => Heap.get?_push_of_some _ e
        refine args_nil ?_
        refine call_list_range (n := (i - j).toNat) (I2.ok.hd hc) (IsRange.new ..) C.2.2.1 C.2.2.2 b5 fun h2 tk acc c' hk e' hi => ?_
        have el : acc.toList.length = (i - j).toNat := by rw [Array.length_toList]; exact hi.1
        have hv : Vals (dnV i j) acc.toList := by
          unfold dnV
          rw [← el]
          refine vals_of_get acc.toList _ fun k u hk => ?_
          obtain ⟨tt, rfl⟩ := hi.2 k u (by rw [← hk, Array.getElem?_toList])
          exact ⟨tt, by congr 1; omega⟩
        refine ⟨.ref _, upd H1 _ (.lst (dnV i j)), I2.laid hk (Nat.le_refl _) (show ObjOk X.prog X.w _ _ _ (.lst (dnV i j)) from ⟨?_, acc.toList, c', hv, ?_⟩), rfl, q _ (I2.hok.fresh (Nat.le_refl _))⟩
        · unfold dnV
          rw [List.length_map, List.length_range, sizeLine_eq]
          omega
        · rw [Array.toArray_toList]
          exact e'
end
end NB

set_option Elab.async false
set_option linter.all false
set_option maxRecDepth 100000
namespace K19
open PySem PySem.Spec PyProof.Rows L2 NB

/-! ### one thing at another place: t[:i] + (x,) + t[i + 1:] -/
theorem cut_to {K : PySem.W.Frag} {H : Hp} {p : Addr} {vs : List V} {c : Nat} {Q : VK} (h : H p = some (.tup vs)) (hc : c ≤ vs.length) (q : ∀ g H', Same H H' → H' g = some (.tup (vs.take c)) → Q (.ref g) H') : rSlA K (.ref p) none (some (c : Int)) H Q := by
  have e1 : HT.sIx vs.length vs.length (some (c : Int)) = c := by
    rw [HT.sIx_nat]
    omega
  refine ⟨p, _, rfl, .inl (.inl h), fun w => ?_, fun w g ng => ?_⟩
  · rw [e1] at w
    refine q p H (Same.refl H) ?_
    rw [List.take_of_length_le (by omega)]
    exact h
  · refine q g _ (same_new ng) ?_
    rw [upd_same]
    unfold cutV
    rw [e1, HT.sIx_none, List.drop_zero]
    rfl
theorem cut_from {K : PySem.W.Frag} {H : Hp} {p : Addr} {vs : List V} {c : Nat} {Q : VK} (h : H p = some (.tup vs)) (hc : c ≤ vs.length) (q : ∀ g H', Same H H' → H' g = some (.tup (vs.drop c)) → Q (.ref g) H') : rSlA K (.ref p) (some (c : Int)) none H Q := by
  have e1 : HT.sIx vs.length 0 (some (c : Int)) = c := by
    rw [HT.sIx_nat]
    omega
  refine ⟨p, _, rfl, .inl (.inl h), fun w => ?_, fun w g ng => ?_⟩
  · rw [e1] at w
    refine q p H (Same.refl H) ?_
    rw [w.1, List.drop_zero]
    exact h
  · refine q g _ (same_new ng) ?_
    rw [upd_same]
    unfold cutV
    rw [e1, HT.sIx_none, List.take_of_length_le (by rw [List.length_drop]; exact Nat.le_refl _)]
theorem cat_tups {K : PySem.W.Frag} {H : Hp} {a b : Addr} {xs ys : List V} {Q : VK} (ha : H a = some (.tup xs)) (hb : H b = some (.tup ys)) (hz : xs.length + ys.length ≤ sizeLine) (q : ∀ g H', Same H H' → H' g = some (.tup (xs ++ ys)) → Q (.ref g) H') : rCatA K (.ref a) (.ref b) H Q := by
  refine ⟨a, b, xs, ys, rfl, rfl, .inl (.inl ha), .inl (.inl hb), hz, fun e => ?_, fun _ e => ?_, fun _ _ g ng => q g _ (same_new ng) upd_same⟩
  · subst e
    exact q b H (Same.refl H) hb
  · subst e
    exact q a H (Same.refl H) (by rw [List.append_nil]; exact ha)
abbrev tMoved (K : PySem.W.Frag) (a i x : Nat) : TE := tOp (rCatA K) (tOp (rCatA K) (tSl (rSlA K) (tVar a) tNoPart (tPart (tVar i))) (tTup (tCons (tVar x) tNil))) (tSl (rSlA K) (tVar a) (tPart (tOp (rI0 fun i j => .int (i + j)) (tVar i) (tC (.int 1)))) tNoPart)
theorem set_cut {α : Type} {xs : List α} {n : Nat} {v : α} (h : n < xs.length) : (xs.take n ++ [v]) ++ xs.drop (n + 1) = xs.set n v := by
  rw [List.set_eq_take_append_cons_drop, if_pos h, List.append_assoc]
  rfl
theorem moved_val {K : PySem.W.Frag} {σ : L2.St} {H : Hp} {Q : VK} {a i x n : Nat} {p : Addr} {v : Int} {xs : List Int} (ha : σ[a]? = some (some (.ref p))) (hi : σ[i]? = some (some (.int (n : Int)))) (hx : σ[x]? = some (some (.int v))) (e : H p = some (.tup (xs.map V.int))) (hn : n < xs.length) (l12 : xs.length ≤ 12)
    (q : ∀ g H', Same H H' → H' g = some (.tup ((xs.set n v).map V.int)) → Q (.ref g) H') : tMoved K a i x σ H Q := by
  have lm : (xs.map V.int).length = xs.length := List.length_map _
  refine ⟨.ref p, ha, ?_⟩
  show tNoPart _ _ _
  unfold tNoPart
  refine ⟨.int n, hi, n, rfl, cut_to e (by omega) fun g1 H1 s1 e1 => ?_⟩
  refine ⟨.int v, hx, (show 1 ≤ sizeLine by decide), fun g2 n2 => ?_⟩
  have s2 := same_new (o := HO.tup [V.int v]) n2
  refine cat_tups (s2 _ _ e1) upd_same (Nat.le_of_lt (small1000 (by rw [List.length_take]; simp only [List.length_cons, List.length_nil]; omega))) fun g3 H3 s3 e3 => ?_
  have s03 := (s1.trans s2).trans s3
  refine ⟨.ref p, ha, .int n, hi, n, 1, rfl, rfl, n + 1, by rfl, ?_⟩
  show rSlA _ _ (some ((n : Int) + 1)) none _ _
  have ec : ((n : Int) + 1) = ((n + 1 : Nat) : Int) := by omega
  rw [ec]
  refine cut_from (s03 _ _ e) (by omega) fun g4 H4 s4 e4 => ?_
  refine cat_tups (s4 _ _ e3) e4 (Nat.le_of_lt (small1000 (by rw [List.length_append, List.length_take, List.length_drop]; simp only [List.length_cons, List.length_nil]; omega))) fun g5 H5 s5 e5 => ?_
  refine q g5 H5 ((s03.trans s4).trans s5) ?_
  rw [e5, set_cut (by omega), List.map_set]

/-! ### bundles: bounds and data -/
theorem onL_lt {G : List (List Int)} {m : List Bool} {j t k : Nat} (h : k ∈ onL G m j t) : k < t := List.mem_range.mp (List.mem_filter.mp h).1
theorem hd_le (G : List (List Int)) (m : List Bool) (j t : Nat) : (onL G m j t).headD 0 ≤ t := by
  have h := @onL_lt G m j t
  cases e : onL G m j t with
  | nil => exact Nat.zero_le _
  | cons x xs => exact Nat.le_of_lt (h (by rw [e]; exact List.mem_cons_self))
theorem la_le (G : List (List Int)) (m : List Bool) (j t : Nat) : (onL G m j t).getLastD 0 ≤ t := by
  by_cases c : onL G m j t = []
  · rw [c]
    exact Nat.zero_le _
  · rw [List.getLastD_eq_getLast?, List.getLast?_eq_some_getLast c]
    exact Nat.le_of_lt (onL_lt (List.getLast_mem c))
theorem lawJ_mem {G : List (List Int)} {i : Nat} {p : Int} {j t : Nat} {s : List Int} (h : s ∈ lawJ G i p j t) : ∃ a b : Nat, s = [(j : Int), (a : Int), (b : Int)] ∧ a ≤ t + 1 ∧ b ≤ t + 1 := by
  unfold lawJ at h
  rcases List.mem_append.mp h with h | h
  · split at h
    · cases h
    · refine ⟨(onL G (prt G i p) j t).headD 0, (onL G (prt G i p) j t).getLastD 0 + 1, List.mem_singleton.mp h, ?_, ?_⟩
      · have := hd_le G (prt G i p) j t
        omega
      · have := la_le G (prt G i p) j t
        omega
  · split at h
    · cases h
    · refine ⟨(onL G ((prt G i p).map not) j t).getLastD 0 + 1, (onL G ((prt G i p).map not) j t).headD 0, List.mem_singleton.mp h, ?_, ?_⟩
      · have := la_le G ((prt G i p).map not) j t
        omega
      · have := hd_le G ((prt G i p).map not) j t
        omega
theorem lawJ_len {G : List (List Int)} {i : Nat} {p : Int} {j t : Nat} : (lawJ G i p j t).length ≤ 2 := by
  unfold lawJ
  rw [List.length_append]
  split <;> split <;> simp
theorem bunF_sm {tops : List Int} {rs : List Rl} {i : Nat} {p : Int} {xss : List (List Int)} (h : bunF tops rs i p xss) (l12 : tops.length ≤ 12) (pl : Pl tops) : xss.length ≤ 24 ∧ ∀ s ∈ xss, s.length ≤ 3 ∧ ∀ x ∈ s, x.natAbs < 10 ^ 90 := by
  unfold bunF at h
  split at h
  · rw [h]
    refine ⟨?_, fun s hs => ?_⟩
    · have key : ∀ k : Nat, ((List.range k).flatMap fun j => lawJ (goods tops rs) i p j (plc tops j).toNat).length ≤ 2 * k := fun k => by
        induction k with
        | zero => exact Nat.le_refl _
        | succ k ih =>
          rw [List.range_succ, List.flatMap_append, List.length_append, List.flatMap_cons, List.flatMap_nil, List.append_nil]
          have := lawJ_len (G := goods tops rs) (i := i) (p := p) (j := k) (t := (plc tops k).toNat)
          omega
      have := key tops.length
      omega
    · obtain ⟨j, hj, hs⟩ := List.mem_flatMap.mp hs
      have hj' := List.mem_range.mp hj
      obtain ⟨a, b, rfl, ha, hb⟩ := lawJ_mem hs
      have ht := pl _ (List.getElem_mem hj')
      rw [← plc_get hj'] at ht
      refine ⟨by simp, fun x hx => ?_⟩
      have : (10 : Nat) ^ 31 < 10 ^ 90 := by decide
      simp only [List.mem_cons, List.not_mem_nil, or_false] at hx
      rcases hx with rfl | rfl | rfl <;> omega
  · rw [h]
    exact ⟨Nat.zero_le _, fun s hs => absurd hs List.not_mem_nil⟩
def dM (xss : List (List Int)) : PyData := .tuple (xss.map fun s => .tuple (s.map PyData.int))
theorem small_many : ∀ {xss : List (List Int)}, (∀ s ∈ xss, s.length ≤ 3 ∧ ∀ x ∈ s, x.natAbs < 10 ^ 90) → SmallAll (xss.map fun s => .tuple (s.map PyData.int)) (934 * xss.length) 1
  | [], _ => ⟨rfl, rfl, Nat.zero_le _, rfl, Nat.le_refl _⟩
  | s :: xss, h => by
    have hs := h s List.mem_cons_self
    have c := SmallAll.cons (Small.tuple (SmallAll.ints hs.2)) (small_many fun y hy => h y (List.mem_cons_of_mem _ hy))
    refine ⟨c.sh, c.nd, Nat.le_trans c.dp (by decide), c.lv, Nat.le_trans c.wt ?_⟩
    rw [List.length_cons]
    omega
theorem show_many {xss : List (List Int)} (l : xss.length ≤ 100) (h : ∀ s ∈ xss, s.length ≤ 3 ∧ ∀ x ∈ s, x.natAbs < 10 ^ 90) : Showable (dM xss) := (Small.tuple (small_many h)).ok (by omega) (by decide)
theorem dp_many {K : PySem.W.Frag} {H : Hp} {r : Addr} {xss : List (List Int)} (h : ManyAt H r xss) : Dp K H (.ref r) (dM xss) := by
  obtain ⟨ps, e, l, rfl⟩ := h
  unfold dM
  rw [List.map_map]
  exact .tup (.inl (.inl e)) (lsD_dp l)
theorem bunF_eq {tops : List Int} {rs : List Rl} {i : Nat} {p : Int} {a b : List (List Int)} (h : bunF tops rs i p a) (h' : bunF tops rs i p b) : a = b := by
  unfold bunF at h h'
  split at h
  · rename_i c
    rw [if_pos c] at h'
    rw [h, h']
  · rename_i c
    rw [if_neg c] at h'
    rw [h, h']

/-! ### the law itself -/
theorem std_goods {tops st : List Int} {rs : List Rl} {H : Hp} {o : Addr} (S : Std tops H o st) (k : ∀ q ∈ rs, kept st q = true) : st ∈ goods tops rs := by
  refine goods_mem.mpr ⟨⟨S.len, fun j hj => ?_⟩, k⟩
  have l := S.len
  have hj' : j < st.length := by omega
  refine ⟨?_, S.le j _ _ (by rw [plc_get hj']; exact List.getElem?_eq_getElem hj') (by rw [plc_get hj]; exact List.getElem?_eq_getElem hj)⟩
  rw [plc_get hj']
  exact (S.pl _ (List.getElem_mem hj')).1

/-! ### how things are called: the mathematics -/
theorem ndl {α : Type} [DecidableEq α] : ∀ {l m : List α}, l.Nodup → (∀ x ∈ l, x ∈ m) → l.length ≤ m.length
  | [], _, _, _ => Nat.zero_le _
  | a :: l, m, nd, h => by
    obtain ⟨na, nd'⟩ := List.nodup_cons.mp nd
    have ha := h a List.mem_cons_self
    have := ndl (l := l) (m := m.erase a) nd' fun x hx => (List.mem_erase_of_ne (fun e : x = a => na (by rw [← e]; exact hx))).mpr (h x (List.mem_cons_of_mem _ hx))
    rw [List.length_erase_of_mem ha] at this
    have pos : 0 < m.length := List.length_pos_of_mem ha
    rw [List.length_cons]
    omega
/-- how things are called: new numbers, and which lines are turned about -/
structure Cal (n : Nat) (ls : List (Int × Int)) : Prop where
  len : ls.length = n
  rng : ∀ x ∈ ls, 0 ≤ x.1 ∧ x.1 < n
  nd : (ls.map (·.1)).Nodup
def sg (ls : List (Int × Int)) (i : Nat) : Nat := ((ls.getD i (0, 0)).1).toNat
def fl (ls : List (Int × Int)) (i : Nat) : Bool := decide ((ls.getD i (0, 0)).2 = 1)
def plx (ls : List (Int × Int)) (tops : List Int) (i : Nat) (p : Int) : Int := if fl ls i then tops.getD i 0 - p else p
def sdx (ls : List (Int × Int)) (tops : List Int) (s : Sd) : Sd := (sg ls s.1, if fl ls s.1 then !s.2.1 else s.2.1, plx ls tops s.1 s.2.2)
section
variable {n : Nat} {ls : List (Int × Int)}
theorem Cal.sg_lt (c : Cal n ls) {i : Nat} (h : i < n) : sg ls i < n := by
  have hi : i < ls.length := by rw [c.len]; exact h
  have := c.rng _ (List.getElem_mem hi)
  unfold sg
  rw [List.getD_eq_getElem?_getD, List.getElem?_eq_getElem hi]
  show (ls[i].1).toNat < n
  omega
theorem Cal.sg_inj (c : Cal n ls) {i j : Nat} (hi : i < n) (hj : j < n) (e : sg ls i = sg ls j) : i = j := by
  have li : i < ls.length := by rw [c.len]; exact hi
  have lj : j < ls.length := by rw [c.len]; exact hj
  have ri := c.rng _ (List.getElem_mem li)
  have rj := c.rng _ (List.getElem_mem lj)
  unfold sg at e
  rw [List.getD_eq_getElem?_getD, List.getD_eq_getElem?_getD, List.getElem?_eq_getElem li, List.getElem?_eq_getElem lj] at e
  have e' : ls[i].1 = ls[j].1 := by
    have : (ls[i].1).toNat = (ls[j].1).toNat := e
    omega
  have pw := List.pairwise_iff_getElem.mp c.nd
  rcases Nat.lt_trichotomy i j with h | h | h
  · exact absurd (by rw [List.getElem_map, List.getElem_map]; exact e') (pw i j (by simpa using li) (by simpa using lj) h)
  · exact h
  · exact absurd (by rw [List.getElem_map, List.getElem_map]; exact e'.symm) (pw j i (by simpa using lj) (by simpa using li) h)
theorem Cal.perm (c : Cal n ls) : ((List.range n).map (sg ls)).Perm (List.range n) := by
  have nd : ((List.range n).map (sg ls)).Nodup := by
    rw [List.nodup_iff_pairwise_ne, List.pairwise_map]
    exact List.nodup_range.imp_of_mem fun {a b} ha hb h e => h (c.sg_inj (List.mem_range.mp ha) (List.mem_range.mp hb) e)
  have sub : ∀ x ∈ (List.range n).map (sg ls), x ∈ List.range n := fun x hx => by
    obtain ⟨i, hi, rfl⟩ := List.mem_map.mp hx
    exact List.mem_range.mpr (c.sg_lt (List.mem_range.mp hi))
  refine (List.perm_ext_iff_of_nodup nd List.nodup_range).mpr fun x => ⟨sub x, fun hx => ?_⟩
  rcases Classical.em (x ∈ (List.range n).map (sg ls)) with h | h
  · exact h
  · have := ndl (l := x :: (List.range n).map (sg ls)) (m := List.range n) (List.nodup_cons.mpr ⟨h, nd⟩) fun y hy => by
      rcases List.mem_cons.mp hy with rfl | hy
      · exact hx
      · exact sub y hy
    rw [List.length_cons, List.length_map, List.length_range] at this
    omega
theorem Cal.ex (c : Cal n ls) {j : Nat} (h : j < n) : ∃ i, i < n ∧ sg ls i = j := by
  have := c.perm.mem_iff.mpr (List.mem_range.mpr h)
  obtain ⟨i, hi, e⟩ := List.mem_map.mp this
  exact ⟨i, List.mem_range.mp hi, e⟩
/-- what is called otherwise: tops and standings -/
structure Led (ls : List (Int × Int)) (tops st : List Int) (st' : List Int) : Prop where
  len : st'.length = tops.length
  at' : ∀ i, i < tops.length → st'.getD (sg ls i) 0 = plx ls tops i (st.getD i 0)
end
section
variable {ls : List (Int × Int)} {one other one' other' tops : List Int}
theorem inB_led (A : Led ls tops one one') (lo : one.length = tops.length) (c : Cal tops.length ls) {s : Sd} (h : s.1 < tops.length) : inB one' (sdx ls tops s) = inB one s := by
  rw [tst_in (show (sdx ls tops s).1 < one'.length by rw [A.len]; exact c.sg_lt h), tst_in (show s.1 < one.length by omega)]
  have e : plc one' (sdx ls tops s).1 = plx ls tops s.1 (plc one s.1) := A.at' s.1 h
  rw [e]
  obtain ⟨i, b, p⟩ := s
  show (if (if fl ls i then !b else b) = true then decide (plx ls tops i p ≤ plx ls tops i (plc one i)) else decide (plx ls tops i (plc one i) ≤ plx ls tops i p)) = _
  unfold plx
  cases fl ls i <;> cases b <;> simp <;> omega
end
def qx (ls : List (Int × Int)) (tops : List Int) (q : Rl) : Rl := (sdx ls tops q.1, sdx ls tops q.2)
/-- rules called otherwise, in any order, their sides exchanged, some twice -/
structure RlLed (ls : List (Int × Int)) (tops : List Int) (rs rs' : List Rl) : Prop where
  to : ∀ q ∈ rs, ∃ q' ∈ rs', q' = qx ls tops q ∨ q' = ((qx ls tops q).2, (qx ls tops q).1)
  of : ∀ q' ∈ rs', ∃ q ∈ rs, q' = qx ls tops q ∨ q' = ((qx ls tops q).2, (qx ls tops q).1)

/-! ### a plan called otherwise: what follows, the good ones, the nearest -/
section
variable {ls : List (Int × Int)} {tops tops' : List Int} {rs rs' : List Rl}
theorem plx_plx (i : Nat) (p : Int) : plx ls tops i (plx ls tops i p) = p := by
  unfold plx
  split <;> omega
theorem plx_inj {i : Nat} {p q : Int} (h : plx ls tops i p = plx ls tops i q) : p = q := by
  rw [← plx_plx (ls := ls) (tops := tops) i p, h, plx_plx]
/-- the same plan, called otherwise -/
structure Cld (ls : List (Int × Int)) (tops tops' : List Int) (rs rs' : List Rl) : Prop where
  c : Cal tops.length ls
  tl : tops'.length = tops.length
  tp : ∀ i, i < tops.length → plc tops' (sg ls i) = plc tops i
  X : RlLed ls tops rs rs'
  rok : ∀ q ∈ rs, RuleOk tops q
theorem sdx_inj (C : Cal tops.length ls) {a b : Sd} (ha : a.1 < tops.length) (hb : b.1 < tops.length) (h : sdx ls tops a = sdx ls tops b) : a = b := by
  obtain ⟨i, b1, p⟩ := a
  obtain ⟨j, b2, q⟩ := b
  have e1 : sg ls i = sg ls j := congrArg (fun s : Sd => s.1) h
  have ij := C.sg_inj ha hb e1
  subst ij
  have e2 : (if fl ls i then !b1 else b1) = (if fl ls i then !b2 else b2) := congrArg (fun s : Sd => s.2.1) h
  have e3 : plx ls tops i p = plx ls tops i q := congrArg (fun s : Sd => s.2.2) h
  have e4 := plx_inj e3
  subst e4
  have e5 : b1 = b2 := by
    revert e2
    cases fl ls i <;> cases b1 <;> cases b2 <;> simp
  rw [e5]
theorem Cld.lo (K : Cld ls tops tops' rs rs') {s : Sd} (h : s.1 < tops.length) : loS (sdx ls tops s) = (if fl ls s.1 then plc tops s.1 - hiS tops s else loS s) := by
  obtain ⟨i, b, p⟩ := s
  unfold loS hiS sdx plx plc
  cases fl ls i <;> cases b <;> simp
theorem Cld.hi (K : Cld ls tops tops' rs rs') {s : Sd} (h : s.1 < tops.length) : hiS tops' (sdx ls tops s) = (if fl ls s.1 then plc tops s.1 - loS s else hiS tops s) := by
  have tp := K.tp s.1 h
  obtain ⟨i, b, p⟩ := s
  have tp' : plc tops' (sg ls i) = plc tops i := tp
  unfold loS hiS sdx
  show (if (if fl ls i then !b else b) = true then plc tops' (sg ls i) else plx ls tops i p) = _
  rw [tp']
  unfold plx plc
  cases fl ls i <;> cases b <;> simp
theorem Cld.bars (K : Cld ls tops tops' rs rs') {a b : Sd} (ha : a.1 < tops.length) (hb : b.1 < tops.length) : barsB tops' (sdx ls tops a) (sdx ls tops b) = barsB tops a b := by
  rw [Bool.eq_iff_iff, bars_iff, bars_iff, K.lo ha, K.hi ha, K.lo hb, K.hi hb]
  have e : (sdx ls tops a).1 = (sdx ls tops b).1 ↔ a.1 = b.1 := ⟨fun h => K.c.sg_inj ha hb h, fun h => by show sg ls a.1 = sg ls b.1; rw [h]⟩
  rw [e]
  refine and_congr_right fun h => ?_
  rw [h]
  cases fl ls b.1 <;> simp only [if_true, Bool.false_eq_true, if_false] <;> omega
theorem Cld.within (K : Cld ls tops tops' rs rs') {a b : Sd} (ha : a.1 < tops.length) (hb : b.1 < tops.length) : withinB tops' (sdx ls tops a) (sdx ls tops b) = withinB tops a b := by
  rw [Bool.eq_iff_iff, within_iff, within_iff, K.lo ha, K.hi ha, K.lo hb, K.hi hb]
  have e : (sdx ls tops a).1 = (sdx ls tops b).1 ↔ a.1 = b.1 := ⟨fun h => K.c.sg_inj ha hb h, fun h => by show sg ls a.1 = sg ls b.1; rw [h]⟩
  rw [e]
  refine and_congr_right fun h => ?_
  rw [h]
  cases fl ls b.1 <;> simp only [if_true, Bool.false_eq_true, if_false] <;> omega
theorem oth_t (tops : List Int) (i : Nat) (p : Int) : othS tops (i, true, p) = if 0 < p then some (i, false, p - 1) else none := by
  unfold othS loS hiS
  simp
theorem oth_f (tops : List Int) (i : Nat) (p : Int) : othS tops (i, false, p) = if p < plc tops i then some (i, true, p + 1) else none := by
  unfold othS loS hiS
  simp
theorem Cld.oth (K : Cld ls tops tops' rs rs') {s : Sd} (ok : SideOk tops s) : othS tops' (sdx ls tops s) = (othS tops s).map (sdx ls tops) := by
  have h := ok.lt
  have bd := ok.bd
  have tp := K.tp s.1 h
  obtain ⟨i, b, p⟩ := s
  have bd' : 0 ≤ p ∧ p ≤ plc tops i := bd
  have tp' : plc tops' (sg ls i) = plc tops i := tp
  have es : ∀ (b' : Bool) (q : Int), sdx ls tops (i, b', q) = (sg ls i, (if fl ls i then !b' else b'), if fl ls i then plc tops i - q else q) := fun _ _ => rfl
  rw [es]
  cases hf : fl ls i
  · rw [hf] at es
    simp only [Bool.false_eq_true, if_false] at es ⊢
    cases b
    · rw [oth_f, oth_f, tp']
      by_cases c : p < plc tops i
      · rw [if_pos c, if_pos c, Option.map_some, es]
      · rw [if_neg c, if_neg c, Option.map_none]
    · rw [oth_t, oth_t]
      by_cases c : 0 < p
      · rw [if_pos c, if_pos c, Option.map_some, es]
      · rw [if_neg c, if_neg c, Option.map_none]
  · rw [hf] at es
    simp only [if_true] at es ⊢
    cases b
    · rw [Bool.not_false, oth_f, oth_t]
      by_cases c : p < plc tops i
      · rw [if_pos c, if_pos (by omega), Option.map_some, es, Bool.not_true, show plc tops i - (p + 1) = plc tops i - p - 1 by omega]
      · rw [if_neg c, if_neg (by omega), Option.map_none]
    · rw [Bool.not_true, oth_f, oth_t, tp']
      by_cases c : 0 < p
      · rw [if_pos c, if_pos (by omega), Option.map_some, es, Bool.not_false, show plc tops i - (p - 1) = plc tops i - p + 1 by omega]
      · rw [if_neg c, if_neg (by omega), Option.map_none]
theorem Cld.ledTo (K : Cld ls tops tops' rs rs') {a b : Sd} (ha : a.1 < tops.length) (h : b ∈ ledL tops rs a) : sdx ls tops b ∈ ledL tops' rs' (sdx ls tops a) := by
  obtain ⟨q, hq, hs⟩ := led_iff.mp h
  obtain ⟨q', hq', e⟩ := K.X.to q hq
  have k := K.rok q hq
  have b1 : barsB tops' (sdx ls tops a) (sdx ls tops q.1) = barsB tops a q.1 := K.bars ha k.1.lt
  have b2 : barsB tops' (sdx ls tops a) (sdx ls tops q.2) = barsB tops a q.2 := K.bars ha k.2.lt
  refine led_iff.mpr ⟨q', hq', ?_⟩
  rcases e with rfl | rfl <;> rcases hs with ⟨x, rfl⟩ | ⟨x, rfl⟩
  · exact .inl ⟨by show barsB tops' _ (sdx ls tops q.1) = true; rw [b1]; exact x, rfl⟩
  · exact .inr ⟨by show barsB tops' _ (sdx ls tops q.2) = true; rw [b2]; exact x, rfl⟩
  · exact .inr ⟨by show barsB tops' _ (sdx ls tops q.1) = true; rw [b1]; exact x, rfl⟩
  · exact .inl ⟨by show barsB tops' _ (sdx ls tops q.2) = true; rw [b2]; exact x, rfl⟩
theorem Cld.ledOf (K : Cld ls tops tops' rs rs') {a b' : Sd} (ha : a.1 < tops.length) (h : b' ∈ ledL tops' rs' (sdx ls tops a)) : ∃ b, b ∈ ledL tops rs a ∧ b' = sdx ls tops b := by
  obtain ⟨q', hq', hs⟩ := led_iff.mp h
  obtain ⟨q, hq, e⟩ := K.X.of q' hq'
  have k := K.rok q hq
  have b1 : barsB tops' (sdx ls tops a) (sdx ls tops q.1) = barsB tops a q.1 := K.bars ha k.1.lt
  have b2 : barsB tops' (sdx ls tops a) (sdx ls tops q.2) = barsB tops a q.2 := K.bars ha k.2.lt
  rcases e with rfl | rfl <;> rcases hs with ⟨x, rfl⟩ | ⟨x, rfl⟩
  · exact ⟨q.2, led_iff.mpr ⟨q, hq, .inl ⟨by rw [← b1]; exact x, rfl⟩⟩, rfl⟩
  · exact ⟨q.1, led_iff.mpr ⟨q, hq, .inr ⟨by rw [← b2]; exact x, rfl⟩⟩, rfl⟩
  · exact ⟨q.1, led_iff.mpr ⟨q, hq, .inr ⟨by rw [← b2]; exact x, rfl⟩⟩, rfl⟩
  · exact ⟨q.2, led_iff.mpr ⟨q, hq, .inl ⟨by rw [← b1]; exact x, rfl⟩⟩, rfl⟩
theorem Cld.reaTo (K : Cld ls tops tops' rs rs') {S S' : Sd → Prop} (hS : ∀ s, S s → SideOk tops s) (h1 : ∀ s, S s → S' (sdx ls tops s)) {b : Sd} (h : Rea tops rs S b) : Rea tops' rs' S' (sdx ls tops b) := by
  induction h with
  | base h => exact .base (h1 _ h)
  | step h hb ih => exact .step ih (K.ledTo (h.ok K.rok hS).lt hb)
theorem Cld.reaOf (K : Cld ls tops tops' rs rs') {S S' : Sd → Prop} (hS : ∀ s, S s → SideOk tops s) (h2 : ∀ z, S' z → ∃ s, S s ∧ z = sdx ls tops s) {b' : Sd} (h : Rea tops' rs' S' b') : ∃ b, Rea tops rs S b ∧ b' = sdx ls tops b := by
  induction h with
  | base h =>
    obtain ⟨s, hs, rfl⟩ := h2 _ h
    exact ⟨s, .base hs, rfl⟩
  | step h hb ih =>
    obtain ⟨a, ha, rfl⟩ := ih
    obtain ⟨b, hb', rfl⟩ := K.ledOf (ha.ok K.rok hS).lt hb
    exact ⟨b, .step ha hb', rfl⟩
/-- rows called otherwise -/
structure RwLed (ls : List (Int × Int)) (tops lows highs lows' highs' : List Int) : Prop where
  ll : lows'.length = tops.length
  lh : highs'.length = tops.length
  lo : ∀ i, i < tops.length → plc lows' (sg ls i) = if fl ls i then plc tops i - plc highs i else plc lows i
  hi : ∀ i, i < tops.length → plc highs' (sg ls i) = if fl ls i then plc tops i - plc lows i else plc highs i
theorem RwLed.one (C : Cal tops.length ls) {lo hi a b a' b' : List Int} (x : RwLed ls tops lo hi a b) (y : RwLed ls tops lo hi a' b') : a = a' ∧ b = b' := by
  constructor
  · refine plc_ext (by rw [x.ll, y.ll]) fun j hj => ?_
    obtain ⟨i, hi', rfl⟩ := C.ex (by rw [← x.ll]; exact hj)
    rw [x.lo i hi', y.lo i hi']
  · refine plc_ext (by rw [x.lh, y.lh]) fun j hj => ?_
    obtain ⟨i, hi', rfl⟩ := C.ex (by rw [← x.lh]; exact hj)
    rw [x.hi i hi', y.hi i hi']
theorem Fol.uniq {S : Sd → Prop} {a b a' b' : List Int} (F : Fol tops rs S a b) (G : Fol tops rs S a' b') : a = a' ∧ b = b' := by
  constructor
  · refine plc_ext (by rw [F.ll, G.ll]) fun i hi => ?_
    rw [F.ll] at hi
    refine Int.le_antisymm ?_ ?_
    · rcases F.l0 i hi with e | e
      · rw [e]
        exact G.lz i hi
      · exact G.l1 _ _ e
    · rcases G.l0 i hi with e | e
      · rw [e]
        exact F.lz i hi
      · exact F.l1 _ _ e
  · refine plc_ext (by rw [F.lh, G.lh]) fun i hi => ?_
    rw [F.lh] at hi
    refine Int.le_antisymm ?_ ?_
    · rcases G.h0 i hi with e | e
      · rw [e]
        exact F.hz i hi
      · exact F.h1 _ _ e
    · rcases F.h0 i hi with e | e
      · rw [e]
        exact G.hz i hi
      · exact G.h1 _ _ e
theorem Cld.fol (K : Cld ls tops tops' rs rs') {S S' : Sd → Prop} (hS : ∀ s, S s → SideOk tops s) (h1 : ∀ s, S s → S' (sdx ls tops s)) (h2 : ∀ z, S' z → ∃ s, S s ∧ z = sdx ls tops s) {lo hi lo' hi' : List Int} (F : Fol tops rs S lo hi) (R : RwLed ls tops lo hi lo' hi') : Fol tops' rs' S' lo' hi' where
  ll := by rw [R.ll, K.tl]
  lh := by rw [R.lh, K.tl]
  l0 j hj := by
    obtain ⟨i, hi', rfl⟩ := K.c.ex (by rw [← K.tl]; exact hj)
    rw [R.lo i hi']
    cases hf : fl ls i
    · simp only [Bool.false_eq_true, if_false]
      refine (F.l0 i hi').imp id fun r => ?_
      have := K.reaTo hS h1 r
      unfold sdx plx at this
      simpa only [hf, Bool.false_eq_true, if_false] using this
    · simp only [if_true]
      rcases F.h0 i hi' with e | r
      · exact .inl (by omega)
      · right
        have := K.reaTo hS h1 r
        unfold sdx plx at this
        simpa only [hf, if_true, Bool.not_false] using this
  h0 j hj := by
    obtain ⟨i, hi', rfl⟩ := K.c.ex (by rw [← K.tl]; exact hj)
    rw [R.hi i hi', K.tp i hi']
    cases hf : fl ls i
    · simp only [Bool.false_eq_true, if_false]
      refine (F.h0 i hi').imp id fun r => ?_
      have := K.reaTo hS h1 r
      unfold sdx plx at this
      simpa only [hf, Bool.false_eq_true, if_false] using this
    · simp only [if_true]
      rcases F.l0 i hi' with e | r
      · exact .inl (by omega)
      · right
        have := K.reaTo hS h1 r
        unfold sdx plx at this
        simpa only [hf, if_true, Bool.not_true] using this
  l1 j p h := by
    obtain ⟨b, r, e⟩ := K.reaOf hS h2 h
    have hb := (r.ok K.rok hS).lt
    obtain ⟨i, w, q⟩ := b
    have e1 : j = sg ls i := congrArg (fun s : Sd => s.1) e
    have e2 : true = (if fl ls i then !w else w) := congrArg (fun s : Sd => s.2.1) e
    have e3 : p = plx ls tops i q := congrArg (fun s : Sd => s.2.2) e
    subst e1
    rw [R.lo i hb, e3]
    unfold plx
    cases hf : fl ls i <;> rw [hf] at e2 <;> simp only [if_true, Bool.false_eq_true, if_false] at e2 ⊢
    · subst e2
      exact F.l1 i q r
    · have ew : w = false := by
        cases w
        · rfl
        · cases e2
      subst ew
      have := F.h1 i q r
      unfold plc at this ⊢
      omega
  h1 j p h := by
    obtain ⟨b, r, e⟩ := K.reaOf hS h2 h
    have hb := (r.ok K.rok hS).lt
    obtain ⟨i, w, q⟩ := b
    have e1 : j = sg ls i := congrArg (fun s : Sd => s.1) e
    have e2 : false = (if fl ls i then !w else w) := congrArg (fun s : Sd => s.2.1) e
    have e3 : p = plx ls tops i q := congrArg (fun s : Sd => s.2.2) e
    subst e1
    rw [R.hi i hb, e3]
    unfold plx
    cases hf : fl ls i <;> rw [hf] at e2 <;> simp only [if_true, Bool.false_eq_true, if_false] at e2 ⊢
    · subst e2
      exact F.h1 i q r
    · have ew : w = true := by
        cases w
        · cases e2
        · rfl
      subst ew
      have := F.l1 i q r
      unfold plc at this ⊢
      omega
  lz j hj := by
    obtain ⟨i, hi', rfl⟩ := K.c.ex (by rw [← K.tl]; exact hj)
    rw [R.lo i hi']
    have a := F.lz i hi'
    have b := F.hz i hi'
    split <;> omega
  hz j hj := by
    obtain ⟨i, hi', rfl⟩ := K.c.ex (by rw [← K.tl]; exact hj)
    rw [R.hi i hi', K.tp i hi']
    have a := F.lz i hi'
    have b := F.hz i hi'
    split <;> omega
theorem Cld.tn (K : Cld ls tops tops' rs rs') {s : Sd} (ok : SideOk tops s) : Tn tops' rs' (sdx ls tops s) ↔ Tn tops rs s := by
  unfold Tn
  rw [K.oth ok]
  constructor
  · rintro ⟨o', eo, z', hz, hw⟩
    obtain ⟨o, ho, rfl⟩ := Option.map_eq_some_iff.mp eo
    have oo := oth_ok ok ho
    obtain ⟨z, rz, rfl⟩ := K.reaOf (S := (· = o)) (fun s hs => by rw [hs]; exact oo) (fun z hz => ⟨o, rfl, hz⟩) hz
    have oz := rz.ok K.rok (fun s hs => by rw [hs]; exact oo)
    rw [K.within oz.lt ok.lt] at hw
    exact ⟨o, ho, z, rz, hw⟩
  · rintro ⟨o, ho, z, hz, hw⟩
    have oo := oth_ok ok ho
    have oz := hz.ok K.rok (fun s hs => by rw [hs]; exact oo)
    refine ⟨sdx ls tops o, by rw [ho]; rfl, sdx ls tops z, K.reaTo (S := (· = o)) (fun s hs => by rw [hs]; exact oo) (fun s hs => by rw [hs]) hz, ?_⟩
    rw [K.within oz.lt ok.lt]
    exact hw
theorem Cld.frcTo (K : Cld ls tops tops' rs rs') {s : Sd} (h : Frc tops rs s) : Frc tops' rs' (sdx ls tops s) := by
  have ok := frc_ok K.rok h
  obtain ⟨⟨q, hq, e⟩, t⟩ := h
  obtain ⟨q', hq', e'⟩ := K.X.to q hq
  refine ⟨⟨q', hq', ?_⟩, (K.tn ok).mpr t⟩
  rcases e' with rfl | rfl <;> rcases e with rfl | rfl
  · exact .inl rfl
  · exact .inr rfl
  · exact .inr rfl
  · exact .inl rfl
theorem Cld.frcOf (K : Cld ls tops tops' rs rs') {z : Sd} (h : Frc tops' rs' z) : ∃ s, Frc tops rs s ∧ z = sdx ls tops s := by
  obtain ⟨⟨q', hq', e⟩, t⟩ := h
  obtain ⟨q, hq, e'⟩ := K.X.of q' hq'
  have k := K.rok q hq
  have main : ∀ s, SideOk tops s → (s = q.1 ∨ s = q.2) → z = sdx ls tops s → ∃ s, Frc tops rs s ∧ z = sdx ls tops s := fun s ok hs ez => by
    rw [ez] at t
    exact ⟨s, ⟨⟨q, hq, hs⟩, (K.tn ok).mp t⟩, ez⟩
  rcases e' with rfl | rfl <;> rcases e with rfl | rfl
  · exact main _ k.1 (.inl rfl) rfl
  · exact main _ k.2 (.inr rfl) rfl
  · exact main _ k.2 (.inr rfl) rfl
  · exact main _ k.1 (.inl rfl) rfl
theorem Cld.rok' (K : Cld ls tops tops' rs rs') {s : Sd} (ok : SideOk tops s) : SideOk tops' (sdx ls tops s) := by
  have h := ok.lt
  have bd := ok.bd
  have tp := K.tp s.1 h
  obtain ⟨i, b, p⟩ := s
  have bd' : 0 ≤ p ∧ p ≤ plc tops i := bd
  have tp' : plc tops' (sg ls i) = plc tops i := tp
  have e : sdx ls tops (i, b, p) = (sg ls i, (if fl ls i then !b else b), plx ls tops i p) := rfl
  rw [e]
  refine SideOk.mk' (by rw [K.tl]; exact K.c.sg_lt h) ?_ ?_ <;> unfold plx plc at * <;> split <;> omega
theorem Cld.rules (K : Cld ls tops tops' rs rs') : ∀ q ∈ rs', RuleOk tops' q := fun q' hq' => by
  obtain ⟨q, hq, e⟩ := K.X.of q' hq'
  have k := K.rok q hq
  rcases e with rfl | rfl
  · exact ⟨K.rok' k.1, K.rok' k.2⟩
  · exact ⟨K.rok' k.2, K.rok' k.1⟩
/-! standings -/
theorem Cld.good (K : Cld ls tops tops' rs rs') {st st' : List Int} (lo : st.length = tops.length) (A : Led ls tops st st') : st ∈ goods tops rs ↔ st' ∈ goods tops' rs' := by
  rw [goods_mem, goods_mem]
  have kq : ∀ q ∈ rs, kept st' (qx ls tops q) = kept st q := fun q hq => by
    have k := K.rok q hq
    show (inB st' (sdx ls tops q.1) || inB st' (sdx ls tops q.2)) = (inB st q.1 || inB st q.2)
    rw [inB_led A lo K.c k.1.lt, inB_led A lo K.c k.2.lt]
  have sw : ∀ q : Rl, kept st' (q.2, q.1) = kept st' q := fun q => Bool.or_comm _ _
  constructor
  · rintro ⟨⟨_, b⟩, g⟩
    refine ⟨⟨by rw [A.len, K.tl], fun j hj => ?_⟩, fun q' hq' => ?_⟩
    · obtain ⟨i, hi, rfl⟩ := K.c.ex (by rw [← K.tl]; exact hj)
      have e : plc st' (sg ls i) = plx ls tops i (plc st i) := A.at' i hi
      have bi := b i hi
      rw [e, K.tp i hi]
      unfold plx plc at *
      split <;> omega
    · obtain ⟨q, hq, e⟩ := K.X.of q' hq'
      rcases e with rfl | rfl
      · rw [kq q hq]
        exact g q hq
      · rw [sw (qx ls tops q), kq q hq]
        exact g q hq
  · rintro ⟨⟨_, b⟩, g⟩
    refine ⟨⟨lo, fun i hi => ?_⟩, fun q hq => ?_⟩
    · have e : plc st' (sg ls i) = plx ls tops i (plc st i) := A.at' i hi
      have bi := b (sg ls i) (by rw [K.tl]; exact K.c.sg_lt hi)
      rw [e, K.tp i hi] at bi
      unfold plx plc at *
      split at bi <;> omega
    · obtain ⟨q', hq', e⟩ := K.X.to q hq
      have := g q' hq'
      rcases e with rfl | rfl
      · rw [kq q hq] at this
        exact this
      · rw [sw (qx ls tops q), kq q hq] at this
        exact this
theorem led_to (C : Cal tops.length ls) (st : List Int) : ∃ st', Led ls tops st st' := by
  have ch : ∀ j : Nat, ∃ i : Nat, j < tops.length → i < tops.length ∧ sg ls i = j := fun j => by
    by_cases h : j < tops.length
    · obtain ⟨i, hi, e⟩ := C.ex h
      exact ⟨i, fun _ => ⟨hi, e⟩⟩
    · exact ⟨0, fun z => absurd z h⟩
  obtain ⟨inv, hv⟩ := Classical.skolem.mp ch
  refine ⟨(List.range tops.length).map fun j => plx ls tops (inv j) (plc st (inv j)), by rw [List.length_map, List.length_range], fun i hi => ?_⟩
  have sl := C.sg_lt hi
  rw [List.getD_eq_getElem?_getD, List.getElem?_map, List.getElem?_range sl]
  have e := hv (sg ls i) sl
  have ei := C.sg_inj e.1 hi e.2
  show plx ls tops (inv (sg ls i)) (plc st (inv (sg ls i))) = _
  rw [ei]
theorem led_of (C : Cal tops.length ls) {st' : List Int} (l : st'.length = tops.length) : ∃ st, st.length = tops.length ∧ Led ls tops st st' := by
  refine ⟨(List.range tops.length).map fun i => plx ls tops i (plc st' (sg ls i)), by rw [List.length_map, List.length_range], l, fun i hi => ?_⟩
  have e : ((List.range tops.length).map fun i => plx ls tops i (plc st' (sg ls i))).getD i 0 = plx ls tops i (plc st' (sg ls i)) := by
    rw [List.getD_eq_getElem?_getD, List.getElem?_map, List.getElem?_range hi]
    rfl
  rw [e, plx_plx]
theorem Cld.had (K : Cld ls tops tops' rs rs') {W W' : Sd → Prop} (okW : ∀ s, W s → s.1 < tops.length) (h1 : ∀ s, W s → W' (sdx ls tops s)) (h2 : ∀ z, W' z → ∃ s, W s ∧ z = sdx ls tops s) : (∃ g ∈ goods tops rs, ∀ s, W s → inB g s = true) ↔ ∃ g ∈ goods tops' rs', ∀ s, W' s → inB g s = true := by
  constructor
  · rintro ⟨g, hg, hw⟩
    obtain ⟨g', A⟩ := led_to K.c g
    refine ⟨g', (K.good (goods_len hg) A).mp hg, fun z hz => ?_⟩
    obtain ⟨s, hs, rfl⟩ := h2 z hz
    rw [inB_led A (goods_len hg) K.c (okW s hs)]
    exact hw s hs
  · rintro ⟨g', hg', hw⟩
    obtain ⟨g, lg, A⟩ := led_of K.c (by rw [goods_len hg', K.tl])
    refine ⟨g, (K.good lg A).mpr hg', fun s hs => ?_⟩
    have := hw _ (h1 s hs)
    rw [inB_led A lg K.c (okW s hs)] at this
    exact this
theorem Cld.nrst (K : Cld ls tops tops' rs rs') {W W' : List Sd} (okW : ∀ s ∈ W, s.1 < tops.length) (e : W' = W.map (sdx ls tops)) {st st' n n' : List Int} (lst : st.length = tops.length) (A : Led ls tops st st') (B : Led ls tops n n') (N : Nrst tops rs W st n) : Nrst tops' rs' W' st' n' := by
  have ln := goods_len N.good
  refine ⟨(K.good ln B).mp N.good, fun z hz => ?_, fun g' hg' hw j hj => ?_⟩
  · rw [e] at hz
    obtain ⟨s, hs, rfl⟩ := List.mem_map.mp hz
    rw [inB_led B ln K.c (okW s hs)]
    exact N.has s hs
  · obtain ⟨g, lg, D⟩ := led_of K.c (by rw [goods_len hg', K.tl])
    obtain ⟨i, hi, rfl⟩ := K.c.ex (by rw [← K.tl]; exact hj)
    have b := N.btw g ((K.good lg D).mpr hg') (fun s hs => by
      have := hw _ (by rw [e]; exact List.mem_map.mpr ⟨s, hs, rfl⟩)
      rw [inB_led D lg K.c (okW s hs)] at this
      exact this) i hi
    have e1 : plc st' (sg ls i) = plx ls tops i (plc st i) := A.at' i hi
    have e2 : plc n' (sg ls i) = plx ls tops i (plc n i) := B.at' i hi
    have e3 : plc g' (sg ls i) = plx ls tops i (plc g i) := D.at' i hi
    rw [e1, e2, e3]
    unfold Btw plx at *
    split <;> omega
end
end K19

set_option Elab.async false
set_option linter.all false
set_option maxRecDepth 100000
namespace K19
open PySem PySem.Spec PyProof.Rows L2 NB

/-! ### bundles called otherwise -/
section
variable {ls : List (Int × Int)} {tops tops' : List Int} {rs rs' : List Rl}
theorem flatMap_cg {α β : Type} {f g : α → List β} : ∀ {l : List α}, (∀ x ∈ l, f x = g x) → l.flatMap f = l.flatMap g
  | [], _ => rfl
  | a :: l, h => by
    rw [List.flatMap_cons, List.flatMap_cons, h a List.mem_cons_self, flatMap_cg fun x hx => h x (List.mem_cons_of_mem _ hx)]
def bRow (ls : List (Int × Int)) (tops : List Int) (f : Bool) (r : List Int) : List Int :=
  [(sg ls (r.getD 0 0).toNat : Int), if f then plx ls tops (r.getD 0 0).toNat (r.getD 2 0) else plx ls tops (r.getD 0 0).toNat (r.getD 1 0), if f then plx ls tops (r.getD 0 0).toNat (r.getD 1 0) else plx ls tops (r.getD 0 0).toNat (r.getD 2 0)]
def pbn (ls : List (Int × Int)) (tops : List Int) (i : Nat) (p : Int) : Int := if fl ls i then plc tops i - p - 1 else p
theorem Cld.pl (K : Cld ls tops tops' rs rs') (pl : ∀ i, i < tops.length → 0 ≤ plc tops i) : ∀ i, i < tops'.length → 0 ≤ plc tops' i := fun j hj => by
  obtain ⟨i, hi, rfl⟩ := K.c.ex (by rw [← K.tl]; exact hj)
  rw [K.tp i hi]
  exact pl i hi
theorem strJ_led {l1 h1 l2 h2 a1 b1 a2 b2 : List Int} {j : Nat} {f : Bool} (hj : j < tops.length) (c1 : plc l1 j ≤ plc h1 j) (c2 : plc l2 j ≤ plc h2 j)
    (R1 : if f then RwLed ls tops l2 h2 a1 b1 else RwLed ls tops l1 h1 a1 b1) (R2 : if f then RwLed ls tops l1 h1 a2 b2 else RwLed ls tops l2 h2 a2 b2) : strJ a1 b1 a2 b2 (sg ls j) = (strJ l1 h1 l2 h2 j).map (bRow ls tops f) := by
  have bm : ∀ x y : Int, [[(j : Int), x, y]].map (bRow ls tops f) = [[(sg ls j : Int), if f then plx ls tops j y else plx ls tops j x, if f then plx ls tops j x else plx ls tops j y]] := fun x y => by
    simp [bRow]
  have px : ∀ x : Int, plx ls tops j x = if fl ls j then plc tops j - x else x := fun _ => rfl
  unfold strJ
  cases f
  · simp only [Bool.false_eq_true, if_false] at R1 R2
    rw [R1.lo j hj, R1.hi j hj, R2.lo j hj, R2.hi j hj]
    cases hf : fl ls j
    · simp only [Bool.false_eq_true, if_false]
      by_cases x : plc h1 j < plc l2 j
      · rw [if_pos x, if_pos x, bm]
        simp [px, hf]
      · rw [if_neg x, if_neg x]
        by_cases y : plc h2 j < plc l1 j
        · rw [if_pos y, if_pos y, bm]
          simp [px, hf]
        · rw [if_neg y, if_neg y]
          rfl
    · simp only [if_true]
      by_cases x : plc h1 j < plc l2 j
      · rw [if_neg (by omega), if_pos (by omega), if_pos x, bm]
        simp [px, hf]
      · rw [if_neg x]
        by_cases y : plc h2 j < plc l1 j
        · rw [if_pos (by omega), if_pos y, bm]
          simp [px, hf]
        · rw [if_neg (by omega), if_neg (by omega), if_neg y]
          rfl
  · simp only [if_true] at R1 R2
    rw [R1.lo j hj, R1.hi j hj, R2.lo j hj, R2.hi j hj]
    cases hf : fl ls j
    · simp only [Bool.false_eq_true, if_false]
      by_cases x : plc h1 j < plc l2 j
      · rw [if_neg (by omega), if_pos (by omega), if_pos x, bm]
        simp [px, hf]
      · by_cases y : plc h2 j < plc l1 j
        · rw [if_pos y, if_neg x, if_pos y, bm]
          simp [px, hf]
        · rw [if_neg y, if_neg x, if_neg x, if_neg y]
          rfl
    · simp only [if_true]
      by_cases x : plc h1 j < plc l2 j
      · rw [if_pos (by omega), if_pos x, bm]
        simp [px, hf]
      · rw [if_neg x]
        by_cases y : plc h2 j < plc l1 j
        · rw [if_neg (by omega), if_pos (by omega), if_pos y, bm]
          simp [px, hf]
        · rw [if_neg (by omega), if_neg (by omega), if_neg y]
          rfl
theorem Cld.side1 (K : Cld ls tops tops' rs rs') (i : Nat) (p : Int) : ((sg ls i, false, pbn ls tops i p) : Sd) = sdx ls tops (if fl ls i then (i, true, p + 1) else (i, false, p)) := by
  unfold pbn
  cases hf : fl ls i
  · show _ = (sg ls i, (if fl ls i then !false else false), plx ls tops i p)
    unfold plx
    rw [hf]
    rfl
  · show _ = (sg ls i, (if fl ls i then !true else true), plx ls tops i (p + 1))
    unfold plx plc
    rw [hf]
    simp only [if_true, Bool.not_true]
    rw [show tops.getD i 0 - (p + 1) = tops.getD i 0 - p - 1 by omega]
theorem Cld.side2 (K : Cld ls tops tops' rs rs') (i : Nat) (p : Int) : ((sg ls i, true, pbn ls tops i p + 1) : Sd) = sdx ls tops (if fl ls i then (i, false, p) else (i, true, p + 1)) := by
  unfold pbn
  cases hf : fl ls i
  · show _ = (sg ls i, (if fl ls i then !true else true), plx ls tops i (p + 1))
    unfold plx
    rw [hf]
    rfl
  · show _ = (sg ls i, (if fl ls i then !false else false), plx ls tops i p)
    unfold plx plc
    rw [hf]
    simp only [if_true, Bool.not_false]
    rw [show tops.getD i 0 - p - 1 + 1 = tops.getD i 0 - p by omega]
theorem rw_ex (C : Cal tops.length ls) (lo hi : List Int) : ∃ lo' hi', RwLed ls tops lo hi lo' hi' := by
  have one : ∀ f : Nat → Int, ∃ xs : List Int, xs.length = tops.length ∧ ∀ i, i < tops.length → plc xs (sg ls i) = f i := fun f => by
    obtain ⟨st', A⟩ := led_to C ((List.range tops.length).map fun i => plx ls tops i (f i))
    refine ⟨st', A.len, fun i hi => ?_⟩
    have e : ((List.range tops.length).map fun i => plx ls tops i (f i)).getD i 0 = plx ls tops i (f i) := by
      rw [List.getD_eq_getElem?_getD, List.getElem?_map, List.getElem?_range hi]
      rfl
    have := A.at' i hi
    rw [e, plx_plx] at this
    exact this
  obtain ⟨a, la, ha⟩ := one fun i => if fl ls i then plc tops i - plc hi i else plc lo i
  obtain ⟨b, lb, hb⟩ := one fun i => if fl ls i then plc tops i - plc lo i else plc hi i
  exact ⟨a, b, la, lb, ha, hb⟩
theorem Cld.fol1 (K : Cld ls tops tops' rs rs') {s z : Sd} (ok : SideOk tops s) (e : z = sdx ls tops s) {lo hi lo' hi' : List Int} (F : Fol tops rs (· ∈ [s]) lo hi) (G : Fol tops' rs' (· ∈ [z]) lo' hi') : RwLed ls tops lo hi lo' hi' := by
  obtain ⟨a, b, R⟩ := rw_ex K.c lo hi
  have F' := K.fol (S' := (· ∈ [z])) (fun x hx => by rw [List.mem_singleton.mp hx]; exact ok) (fun x hx => by rw [List.mem_singleton.mp hx, e]; exact List.mem_singleton.mpr rfl) (fun x hx => ⟨s, List.mem_singleton.mpr rfl, by rw [List.mem_singleton.mp hx, e]⟩) F R
  obtain ⟨e1, e2⟩ := F'.uniq G
  rw [← e1, ← e2]
  exact R
theorem Cld.part (K : Cld ls tops tops' rs rs') {i : Nat} (hi : i < tops.length) (p : Int) : ((∃ g ∈ goods tops rs, plc g i ≤ p) ∧ (∃ g ∈ goods tops rs, p < plc g i)) ↔ ((∃ g ∈ goods tops' rs', plc g (sg ls i) ≤ pbn ls tops i p) ∧ (∃ g ∈ goods tops' rs', pbn ls tops i p < plc g (sg ls i))) := by
  have to : ∀ g ∈ goods tops rs, ∃ g' ∈ goods tops' rs', plc g' (sg ls i) = plx ls tops i (plc g i) := fun g hg => by
    obtain ⟨g', A⟩ := led_to K.c g
    exact ⟨g', (K.good (goods_len hg) A).mp hg, A.at' i hi⟩
  have of : ∀ g' ∈ goods tops' rs', ∃ g ∈ goods tops rs, plc g' (sg ls i) = plx ls tops i (plc g i) := fun g' hg' => by
    obtain ⟨g, lg, A⟩ := led_of K.c (by rw [goods_len hg', K.tl])
    exact ⟨g, (K.good lg A).mpr hg', A.at' i hi⟩
  have px : ∀ x : Int, plx ls tops i x = if fl ls i then plc tops i - x else x := fun _ => rfl
  cases hf : fl ls i
  · rw [show pbn ls tops i p = p by unfold pbn; rw [hf]; rfl]
    constructor
    · rintro ⟨⟨g, hg, a⟩, g2, hg2, b⟩
      obtain ⟨g', hg', e⟩ := to g hg
      obtain ⟨g2', hg2', e2⟩ := to g2 hg2
      rw [px, hf] at e e2
      simp only [Bool.false_eq_true, if_false] at e e2
      exact ⟨⟨g', hg', by omega⟩, g2', hg2', by omega⟩
    · rintro ⟨⟨g, hg, a⟩, g2, hg2, b⟩
      obtain ⟨g', hg', e⟩ := of g hg
      obtain ⟨g2', hg2', e2⟩ := of g2 hg2
      rw [px, hf] at e e2
      simp only [Bool.false_eq_true, if_false] at e e2
      exact ⟨⟨g', hg', by omega⟩, g2', hg2', by omega⟩
  · rw [show pbn ls tops i p = plc tops i - p - 1 by unfold pbn; rw [hf]; rfl]
    constructor
    · rintro ⟨⟨g, hg, a⟩, g2, hg2, b⟩
      obtain ⟨g', hg', e⟩ := to g hg
      obtain ⟨g2', hg2', e2⟩ := to g2 hg2
      rw [px, hf] at e e2
      simp only [if_true] at e e2
      exact ⟨⟨g2', hg2', by omega⟩, g', hg', by omega⟩
    · rintro ⟨⟨g, hg, a⟩, g2, hg2, b⟩
      obtain ⟨g', hg', e⟩ := of g hg
      obtain ⟨g2', hg2', e2⟩ := of g2 hg2
      rw [px, hf] at e e2
      simp only [if_true] at e e2
      exact ⟨⟨g2', hg2', by omega⟩, g', hg', by omega⟩
/-- one bundle is the other, its rows called otherwise -/
theorem Cld.bun (K : Cld ls tops tops' rs rs') (pl : ∀ i, i < tops.length → 0 ≤ plc tops i) {i : Nat} {p : Int} (hi : i < tops.length) (p0 : 0 ≤ p) (p1 : p < plc tops i) {xss xss' : List (List Int)} (h : bunF tops rs i p xss) (h' : bunF tops' rs' (sg ls i) (pbn ls tops i p) xss') : xss'.Perm (xss.map (bRow ls tops (fl ls i))) := by
  have hi' : sg ls i < tops'.length := by rw [K.tl]; exact K.c.sg_lt hi
  have q0 : 0 ≤ pbn ls tops i p := by
    unfold pbn
    split <;> omega
  have q1 : pbn ls tops i p < plc tops' (sg ls i) := by
    rw [K.tp i hi]
    unfold pbn
    split <;> omega
  have pt := K.part hi p
  rcases bun_tol K.rok pl hi p0 p1 h with ⟨no, rfl⟩ | ⟨l1, h1, l2, h2, T, rfl, _⟩
  · rcases bun_tol K.rules (K.pl pl) hi' q0 q1 h' with ⟨_, rfl⟩ | ⟨_, _, _, _, T', _, _⟩
    · exact .nil
    · exact absurd (pt.mpr ⟨T'.b1, T'.b2⟩) no
  · rcases bun_tol K.rules (K.pl pl) hi' q0 q1 h' with ⟨no, rfl⟩ | ⟨a1, b1, a2, b2, T', rfl, _⟩
    · exact absurd (pt.mp ⟨T.b1, T.b2⟩) no
    · have o1 : SideOk tops (i, false, p) := SideOk.mk' hi p0 (by omega)
      have o2 : SideOk tops (i, true, p + 1) := SideOk.mk' hi (by omega) (by omega)
      have R1 : if fl ls i then RwLed ls tops l2 h2 a1 b1 else RwLed ls tops l1 h1 a1 b1 := by
        have e := K.side1 i p
        cases hf : fl ls i <;> rw [hf] at e <;> simp only [Bool.false_eq_true, if_false, if_true] at e ⊢
        · exact K.fol1 o1 e T.F1 T'.F1
        · exact K.fol1 o2 e T.F2 T'.F1
      have R2 : if fl ls i then RwLed ls tops l1 h1 a2 b2 else RwLed ls tops l2 h2 a2 b2 := by
        have e := K.side2 i p
        cases hf : fl ls i <;> rw [hf] at e <;> simp only [Bool.false_eq_true, if_false, if_true] at e ⊢
        · exact K.fol1 o2 e T.F2 T'.F2
        · exact K.fol1 o1 e T.F1 T'.F2
      have cr : ∀ j, j < tops.length → plc l1 j ≤ plc h1 j ∧ plc l2 j ≤ plc h2 j := fun j hj => by
        obtain ⟨g, hg, a⟩ := T.b1
        obtain ⟨g2, hg2, a2⟩ := T.b2
        have x := T.s1 hg a hj
        have y := T.s2 hg2 a2 hj
        omega
      unfold strF
      rw [K.tl]
      refine List.Perm.trans (l₂ := ((List.range tops.length).map (sg ls)).flatMap (strJ a1 b1 a2 b2)) ?_ ?_
      · exact (K.c.perm.flatMap_right _).symm
      · refine List.Perm.of_eq ?_
        rw [List.flatMap_map, List.map_flatMap]
        exact flatMap_cg fun j hj => strJ_led (List.mem_range.mp hj) (cr j (List.mem_range.mp hj)).1 (cr j (List.mem_range.mp hj)).2 R1 R2
/-- rows that rise -/
theorem strF_up (l1 h1 l2 h2 : List Int) : ∀ n : Nat, (strF n l1 h1 l2 h2).Pairwise fun x y => x.getD 0 0 < y.getD 0 0
  | 0 => List.Pairwise.nil
  | n + 1 => by
    have ih := strF_up l1 h1 l2 h2 n
    have e : strF (n + 1) l1 h1 l2 h2 = strF n l1 h1 l2 h2 ++ strJ l1 h1 l2 h2 n := by
      unfold strF
      rw [List.range_succ, List.flatMap_append]
      simp
    rw [e]
    refine List.pairwise_append.mpr ⟨ih, ?_, fun x hx y hy => ?_⟩
    · unfold strJ
      split
      · exact List.pairwise_singleton _ _
      · split
        · exact List.pairwise_singleton _ _
        · exact List.Pairwise.nil
    · obtain ⟨j, hj, ex⟩ := str_mem hx
      have e1 : x.getD 0 0 = (j : Int) := by rcases ex with ⟨rfl, _⟩ | ⟨rfl, _⟩ <;> rfl
      have e2 : y.getD 0 0 = (n : Int) := by
        unfold strJ at hy
        split at hy
        · rw [List.mem_singleton.mp hy]
          rfl
        · split at hy
          · rw [List.mem_singleton.mp hy]
            rfl
          · cases hy
      rw [e1, e2]
      omega
theorem code3_up {B : Int} {x y : List Int} (lx : x.length = 3) (ly : y.length = 3) (bx : TS.Bd B x) (by' : TS.Bd B y) (h : x.getD 0 0 < y.getD 0 0) : TS.code B x < TS.code B y := by
  match x, lx, y, ly with
  | [a, b, c], _, [a', b', c'], _ =>
    have h' : a < a' := h
    have hb := bx b (by simp)
    have hc := bx c (by simp)
    have hb' := by' b' (by simp)
    have hc' := by' c' (by simp)
    have e : ∀ u v w : Int, TS.code B [u, v, w] = u * B ^ 2 + (v * B + w) := fun u v w => by
      simp only [TS.code, List.length_cons, List.length_nil, Nat.zero_add, Nat.reduceAdd, Int.pow_zero, Int.mul_one, Int.add_zero]
      rw [Int.pow_one]
    rw [e, e]
    have B0 : 0 ≤ B := by omega
    have m1 : (a + 1) * B ^ 2 ≤ a' * B ^ 2 := Int.mul_le_mul_of_nonneg_right (by omega) (by rw [Int.pow_succ, Int.pow_one]; exact Int.mul_nonneg B0 B0)
    have m2 : b * B ≤ (B - 1) * B := Int.mul_le_mul_of_nonneg_right (by omega) B0
    have m3 : 0 ≤ b' * B := Int.mul_nonneg (by omega) B0
    have e2 : (B - 1) * B = B ^ 2 - B := by rw [Int.sub_mul, Int.one_mul, Int.pow_succ, Int.pow_one]
    have e3 : (a + 1) * B ^ 2 = a * B ^ 2 + B ^ 2 := by rw [Int.add_mul, Int.one_mul]
    omega
end
end K19

set_option Elab.async false
set_option linter.all false
set_option maxRecDepth 100000
/-! list + list stands apart from what the machine keeps by itself. -/
namespace NB
open PySem PySem.Spec PySem.Calls PyProof.Rows L2
def rCatN : R2 := fun x y H Q => ∃ l b xs zs, x = .ref l ∧ y = .ref b ∧ H l = some (.lst xs) ∧ H b = some (.lst zs) ∧ xs.length + zs.length ≤ sizeLine ∧ ∀ p, H p = none → p ≠ sysModules → Q (.ref p) (upd H p (.lst (xs ++ zs)))
theorem op_catN {X : Cx} : OpR X (binaryOp .Add) rCatN := by
  intro pins s σ H x y v u Q I rx ry h
  obtain ⟨l, b, xs, zs, rfl, rfl, hH, hB, hz, q⟩ := h
  cases rx
  cases ry
  obtain ⟨z, its, n, r, hl, e⟩ := I.lstM hH
  obtain ⟨z2, its2, n2, r2, hl2, e2⟩ := I.lstM hB
  refine PySem.P.add_list e e2 ?_ (by rw [List.size_toArray, List.size_toArray]; omega)
  have ea : its.toArray ++ its2.toArray = (its ++ its2).toArray := by simp
  rw [ea]
  exact ⟨.ref _, _, I.lnew (t' := s.toks) (r.append r2) (by rw [List.length_append]; omega), rfl, q _ I.fresh (Nat.ne_of_gt I.big)⟩
end NB

set_option Elab.async false
set_option linter.all false
set_option maxRecDepth 100000
namespace K19
open PySem PySem.Spec PyProof.Rows L2 NB

/-! ### the law: how things are called -/
theorem pi_or {X : Cx} {tg iter : Expr} {w1 w2 : TI} (h1 : PI X tg iter w1) (h2 : PI X tg iter w2) : PI X tg iter (fun σ H R => w1 σ H R ∨ w2 σ H R) := ⟨fun pins s σ H R I h => h.elim (h1.run pins s σ H R I) (h2.run pins s σ H R I)⟩
theorem DGet.some' {H : Hp} {a : Addr} {kvs : List (Key × V)} {k : Key} {v : V} (e : H a = some (.dK kvs)) (h : valV kvs k = some v) : DGet H a (kV k) (some v) := h ▸ DGet.k (k := k) e
theorem ls_get {ls : List (Int × Int)} {i : Nat} (h : i < ls.length) : ls.getD i (0, 0) = ls[i] := by
  rw [List.getD_eq_getElem?_getD, List.getElem?_eq_getElem h]
  rfl
theorem Cal.sg_int {n : Nat} {ls : List (Int × Int)} (c : Cal n ls) {i : Nat} (hi : i < ls.length) : ls[i].1 = (sg ls i : Int) := by
  have := c.rng _ (List.getElem_mem hi)
  unfold sg
  rw [ls_get hi]
  omega
theorem flip_word (b : Bool) : valV (mergeK [] [((Sum.inr "from" : Key), V.str "to"), ((Sum.inr "to" : Key), V.str "from")]) (Sum.inr (word b)) = some (.str (word (!b))) := by
  have n : ("from" : Str) ≠ "to" := by decide +kernel
  have w1 : word true = ("from" : Str) := rfl
  have w2 : word false = ("to" : Str) := rfl
  cases b with
  | true => simp [mergeK, putK, valV, n, w1, w2]
  | false => simp [mergeK, putK, valV, n, w1, w2, List.find?_cons]
theorem erase_perm {α : Type} {xs : List α} {i : Nat} {y : α} (h : xs[i]? = some y) : (y :: xs.eraseIdx i).Perm xs := by
  obtain ⟨hi, e⟩ := List.getElem?_eq_some_iff.mp h
  rw [List.eraseIdx_eq_take_drop_succ]
  have e2 : xs = xs.take i ++ y :: xs.drop (i + 1) := by
    rw [← e, ← List.drop_eq_getElem_cons hi, List.take_append_drop]
  exact List.perm_middle.symm.trans (List.Perm.of_eq e2.symm)
theorem seq_ix {i : Int} {n : Nat} (h0 : 0 ≤ i) (h1 : i < n) : seqIndex? i n = some i.toNat := by
  unfold seqIndex?
  simp only [if_neg (show ¬ i < 0 by omega)]
  rw [if_pos (by simp; omega)]
/-- the order, and which lines are turned about, in memory -/
structure CalAt (H : Hp) (O W : Addr) (ls : List (Int × Int)) : Prop where
  eO : H O = some (.lst ((ls.map (·.1)).map V.int))
  eW : H W = some (.lst (ls.map fun x => V.bl (decide (x.2 = 1))))
theorem CalAt.same {H H' : Hp} {O W : Addr} {ls : List (Int × Int)} (h : CalAt H O W ls) (s : Same H H') : CalAt H' O W ls := ⟨s _ _ h.eO, s _ _ h.eW⟩
theorem CalAt.o {H : Hp} {O W : Addr} {ls : List (Int × Int)} {n : Nat} (h : CalAt H O W ls) (c : Cal n ls) {i : Nat} (hi : i < n) : atI ((ls.map (·.1)).map V.int) (i : Int) = some (.int (sg ls i : Int)) := by
  have hi' : i < ls.length := by rw [c.len]; exact hi
  refine atI_nat ?_
  rw [List.getElem?_map, List.getElem?_map, List.getElem?_eq_getElem hi']
  show some (V.int ls[i].1) = _
  rw [c.sg_int hi']
theorem CalAt.w {H : Hp} {O W : Addr} {ls : List (Int × Int)} {n : Nat} (h : CalAt H O W ls) (c : Cal n ls) {i : Nat} (hi : i < n) : atI (ls.map fun x => V.bl (decide (x.2 = 1))) (i : Int) = some (.bl (fl ls i)) := by
  have hi' : i < ls.length := by rw [c.len]; exact hi
  refine atI_nat ?_
  rw [List.getElem?_map, List.getElem?_eq_getElem hi']
  unfold fl
  rw [ls_get hi']
  rfl
section
variable {P : Program} {w : World} {K : PySem.W.Frag} {mg : Str → Option Value} {base : Heap}
def spTu (K : PySem.W.Frag) : Sp := fun vs H Q _ => ∃ (p s : Addr) (xs : List V) (c : Nat), vs = [.ref p, .ref s] ∧ PotAt H p c ∧ H s = some (.lst xs) ∧ xs.length ≤ 100 ∧ c < 800000 ∧
  (∀ ys : List V, (∀ v ∈ ys, v ∈ xs) → ys.length ≤ xs.length → ∀ H', Keep H H' → ∃ ds, DpAll K H' ys ds ∧ SeqAt.shaped (.list ds) = true) ∧
  ∀ H' F ys, But p H H' → PotAt H' p (c + 100) → H F = none → F ≠ p → H' F = some (.lst ys) → ys.Perm xs → Q (.ref F) H'
abbrev a__law_turned : Stmt := topS 59
abbrev n__law_turned : List Str := ["_law_pot_here", "_law_some", "_law_rest", "_law_found"]
theorem sc__law_turned : FnScope n__law_turned ["_law_pot_here", "_law_some"] (defScope a__law_turned) := ⟨rfl, rfl, rfl, by decide +kernel, rfl, by decide +kernel, by decide +kernel⟩
set_option maxHeartbeats 8000000 in
theorem ok__law_turned {f fTa : Addr} {fd fdTa : FuncData} {k : Nat}  (F : Fun K "_law_turned" "_law_turned" a__law_turned f fd) (Ta : Kn P w K mg base 1 "_law_take" ["_law_pot_here", "_law_many"] spTake fTa fdTa)  (m_len : mg "len" = none) (m_list : mg "list" = none) : FnOk P w K mg base CX0 (k + 2) f fd ["_law_pot_here", "_law_some"] (spTu K) := by
  refine F.ok sc__law_turned (fun vs H Q E h => ?_) (fun cdv A outer s H vs Q E hr h => ?_)
  · obtain ⟨p, s', xs, c, rfl, _⟩ := h
    rfl
  · obtain ⟨p, s', xs, c, rfl, pp, es, lx, hc, dat, q⟩ := h
    refine ⟨_, (pss_cons (ps_par (i := 2) (j := 3) (by rfl) sc__law_turned.nd rfl rfl (by decide) rfl rfl (pa_cons (pe_callTy call_list_of (by rfl) m_list (by decide +kernel) (pa_cons (pv 1) pa_nil)) (pa_cons (pe_lst pa_nil) pa_nil)) (by rfl))
      (pss_cons (ps_while PassesOwn.never (pt_cmpR (op_neD hr.units) (pv 2) (pe_lst pa_nil) (nomark _))
        (pss_one (ps_expr (pe_bm PySem.F.plainAttrs_list PySem.F.slot_list_append PySem.F.type_list_append mt_append (pv 3) (pa_cons (pe_bm PySem.F.plainAttrs_list PySem.F.slot_list_pop PySem.F.type_list_pop mt_popAt (pv 2) (pa_cons (pe_kn Ta hr (by omega) (pa_cons (pv 0) (pa_cons (pe_callB call_len_seq (by rfl) m_len (by decide +kernel) (pa_cons (pv 2) pa_nil)) pa_nil))) pa_nil)) pa_nil)))))
      (pss_one (ps_ret (pv 3))))), ?_⟩
    refine ⟨_, rfl, s', _, rfl, .inl (.inl (.inl es)), fun A nA => ⟨Nat.zero_le _, fun F nF => ⟨_, _, rfl, ?_⟩⟩⟩
    have sA := same_new (o := HO.lst xs) nA
    have sF := same_new (o := HO.lst []) nF
    have nAp := pp.ne nA
    have nFp := (pp.keep sA).ne nF
    have nFA : F ≠ A := fun z => by
      rw [z, upd_same] at nF
      cases nF
    have eA0 := sF _ _ (upd_same : (upd H A (.lst xs)) A = _)
    have eF0 : (upd (upd H A (.lst xs)) F (.lst [])) F = some (.lst []) := upd_same
    have s0 := sA.trans sF
    have p0 := pp.keep s0
    have nHA : H A = none := nA
    have nHF : H F = none := sA.free nF
    generalize (upd (upd H A (.lst xs)) F (.lst [])) = H1 at eA0 eF0 s0 p0 ⊢
    refine ⟨fun m σ H' => ∃ Zs Ys : List V, σ = [some (.ref p), some (.ref s'), some (.ref A), some (.ref F)] ∧ m = Zs.length ∧ But p H H' ∧ H' A = some (.lst Zs) ∧ H' F = some (.lst Ys) ∧ (Ys ++ Zs).Perm xs ∧ PotAt H' p (c + Ys.length),
      ⟨xs.length, xs, [], rfl, rfl, But.of s0, eA0, eF0, List.Perm.refl _, p0⟩, fun m σ H2 y => ?_⟩
    obtain ⟨Zs, Ys, rfl, em, b2, eA, eF, pm, p2⟩ := y
    have lsum : Ys.length + Zs.length = xs.length := by
      have := pm.length_eq
      rw [List.length_append] at this
      exact this
    refine ⟨_, rfl, Nat.zero_le _, fun N nN => ?_⟩
    have sN := same_new (o := HO.lst []) nN
    obtain ⟨ds, hd, hsh⟩ := dat Zs (fun v hv => pm.mem_iff.mp (List.mem_append_right _ hv)) (by omega) _ ((Keep.but b2 pp).trans (.same sN))
    refine ⟨_, _, .lst (.inl (.inl (sN _ _ eA))) hd, .lst (.inl (.inl upd_same)) .nil, hsh, rfl, _, rfl, ?_⟩
    have eA3 := sN _ _ eA
    have eF3 := sN _ _ eF
    have b3 := b2.trans (But.of sN)
    have p3 := p2.keep sN
    generalize upd H2 N (.lst []) = H3 at eA3 eF3 b3 p3 hd ⊢
    cases Zs with
    | nil =>
      cases hd
      refine iteF ?_
      rw [List.append_nil] at pm
      refine ⟨_, rfl, q _ F Ys b3 (p3.mono (by simp at lsum; omega)) nHF nFp eF3 pm⟩
    | cons z0 Z1 =>
      cases hd
      refine iteT ?_
      refine ⟨_, fun _ _ h => h, ?_⟩
      have lpos : 0 < (z0 :: Z1).length := by simp
      generalize z0 :: Z1 = Zf at *
      refine ⟨_, rfl, .inl ⟨rfl, _, .inl (.inl eF3)⟩, _, rfl, .inl ⟨rfl, _, .inl (.inl eA3)⟩, _, rfl, _, rfl, A, _, rfl, .inl (.inl (.inl eA3)), ?_⟩
      refine ⟨p, _, _, rfl, p3, by omega, by omega, by omega, fun d H4 b4 p4 d0 d1 => ?_⟩
      have eA4 := b4 _ _ nAp eA3
      have eF4 := b4 _ _ nFp eF3
      have hd' : d.toNat < Zf.length := by omega
      have hy : Zf[d.toNat]? = some Zf[d.toNat] := List.getElem?_eq_getElem hd'
      have le : (Zf.eraseIdx d.toNat).length = Zf.length - 1 := by
        rw [List.length_eraseIdx, if_pos hd']
      refine ⟨A, _, d, d.toNat, Zf[d.toNat], rfl, rfl, eA4, by omega, by omega, seq_ix d0 d1, hy, ?_⟩
      have eF5 : (upd H4 A (.lst (Zf.eraseIdx d.toNat))) F = some (.lst Ys) := by
        rw [upd_ne nFA]
        exact eF4
      have b5 : But p H (upd H4 A (.lst (Zf.eraseIdx d.toNat))) := but_new (b3.trans b4) nHA
      have p5 := pot_upd (o := .lst (Zf.eraseIdx d.toNat)) p4 nAp
      refine ⟨F, _, _, rfl, rfl, eF5, small1000 (by omega), (Zf.eraseIdx d.toNat).length, by omega, Zf.eraseIdx d.toNat, Ys ++ [Zf[d.toNat]], rfl, rfl, but_new b5 nHF, ?_, upd_same, ?_, ?_⟩
      · rw [upd_ne (Ne.symm nFA), upd_same]
      · rw [List.append_assoc]
        refine List.Perm.trans (List.Perm.append_left Ys ?_) pm
        exact erase_perm hy
      · rw [List.length_append]
        exact pot_upd (p5.mono (by simp; omega)) nFp
def spLd : Sp := fun vs H Q _ => ∃ (t O W : Addr) (ls : List (Int × Int)) (tops : List Int) (i : Nat) (p : Int), vs = [.ref t, .ref O, .ref W, .int i, .int p] ∧ H t = some (.tup (tops.map V.int)) ∧ CalAt H O W ls ∧ Cal tops.length ls ∧ i < tops.length ∧
  ∀ H' g, Same H H' → H' g = some (.tup [.int (sg ls i : Int), .int (plx ls tops i p)]) → Q (.ref g) H'
abbrev a__law_led : Stmt := topS 60
abbrev n__law_led : List Str := ["_law_tops", "_law_order", "_law_flips", "_law_thing", "_law_place"]
theorem sc__law_led : FnScope n__law_led ["_law_tops", "_law_order", "_law_flips", "_law_thing", "_law_place"] (defScope a__law_led) := ⟨rfl, rfl, rfl, by decide +kernel, rfl, by decide +kernel, by decide +kernel⟩
set_option maxHeartbeats 8000000 in
theorem ok__law_led {f  : Addr} {fd  : FuncData} {k : Nat}  (F : Fun K "_law_led" "_law_led" a__law_led f fd)    : FnOk P w K mg base CX0 (k + 1) f fd ["_law_tops", "_law_order", "_law_flips", "_law_thing", "_law_place"] spLd := by
  refine F.ok sc__law_led (fun vs H Q E h => ?_) (fun cdv A outer s H vs Q E hr h => ?_)
  · obtain ⟨t, O, W, ls, tops, i, p, rfl, _⟩ := h
    rfl
  · obtain ⟨t, O, W, ls, tops, i, p, rfl, et, hC, c, hi, q⟩ := h
    refine ⟨_, (pss_one (ps_ret (pe_tup (pa_cons (pe_ix ix_list (pv 1) (pv 3) (fun _ _ => rfl)) (pa_cons (pe_ifExp (pt_val (pe_ix ix_list (pv 2) (pv 3) (fun _ _ => rfl))) (pe_op op_sub (pe_ix ix_tup (pv 0) (pv 3) (fun _ _ => rfl)) (pv 4)) (pv 4)) pa_nil))))), ?_⟩
    have ao := hC.o c hi
    have aw := hC.w c hi
    have w2 : (2 : Nat) ≤ sizeLine := by decide
    have px : plx ls tops i p = if fl ls i then plc tops i - p else p := rfl
    refine ⟨_, rfl, _, rfl, O, _, i, _, rfl, rfl, .inl (.inl hC.eO), ao, _, rfl, _, rfl, W, _, i, _, rfl, rfl, .inl (.inl hC.eW), aw, _, rfl, ?_⟩
    cases hf : fl ls i
    · rw [hf] at px
      refine iteF ⟨_, rfl, w2, fun g ng => q _ g (same_new ng) ?_⟩
      rw [px]
      exact upd_same
    · rw [hf] at px
      refine iteT ⟨_, rfl, _, rfl, t, _, i, _, rfl, rfl, .inl (.inl et), at_int hi, _, rfl, _, _, rfl, rfl, w2, fun g ng => q _ g (same_new ng) ?_⟩
      rw [px, plc_get hi]
      exact upd_same
def spSl : Sp := fun vs H Q _ => ∃ (t O W o : Addr) (ls : List (Int × Int)) (tops : List Int) (s : Sd), vs = [.ref t, .ref O, .ref W, .ref o] ∧ H t = some (.tup (tops.map V.int)) ∧ CalAt H O W ls ∧ Cal tops.length ls ∧ SideAt H o s ∧ s.1 < tops.length ∧
  ∀ H' g, Same H H' → SideAt H' g (sdx ls tops s) → Q (.ref g) H'
abbrev a__law_side_led : Stmt := topS 61
abbrev n__law_side_led : List Str := ["_law_tops", "_law_order", "_law_flips", "_law_side", "_law_thing", "_law_word", "_law_place", "_law_new", "_law_there"]
theorem sc__law_side_led : FnScope n__law_side_led ["_law_tops", "_law_order", "_law_flips", "_law_side"] (defScope a__law_side_led) := ⟨rfl, rfl, rfl, by decide +kernel, rfl, by decide +kernel, by decide +kernel⟩
set_option maxHeartbeats 8000000 in
theorem ok__law_side_led {f fLe : Addr} {fd fdLe : FuncData} {k : Nat}  (F : Fun K "_law_side_led" "_law_side_led" a__law_side_led f fd) (Le : Kn P w K mg base 1 "_law_led" ["_law_tops", "_law_order", "_law_flips", "_law_thing", "_law_place"] spLd fLe fdLe)   : FnOk P w K mg base CX0 (k + 2) f fd ["_law_tops", "_law_order", "_law_flips", "_law_side"] spSl := by
  refine F.ok sc__law_side_led (fun vs H Q E h => ?_) (fun cdv A outer s H vs Q E hr h => ?_)
  · obtain ⟨t, O, W, o, ls, tops, s', rfl, _⟩ := h
    rfl
  · obtain ⟨t, O, W, o, ls, tops, s', rfl, et, hC, c, hs, hi, q⟩ := h
    refine ⟨_, (pss_cons (ps_asg (pv 3) (pg_tup rfl (pgs_cons (pg_name (i := 4) sc__law_side_led.nd rfl (.inl rfl)) (pgs_cons (pg_name (i := 5) sc__law_side_led.nd rfl (.inl rfl)) (pgs_cons (pg_name (i := 6) sc__law_side_led.nd rfl (.inl rfl)) pgs_nil)))))
      (pss_cons (ps_asg (pe_kn Le hr (by omega) (pa_cons (pv 0) (pa_cons (pv 1) (pa_cons (pv 2) (pa_cons (pv 4) (pa_cons (pv 6) pa_nil)))))) (pg_tup rfl (pgs_cons (pg_name (i := 7) sc__law_side_led.nd rfl (.inl rfl)) (pgs_cons (pg_name (i := 8) sc__law_side_led.nd rfl (.inl rfl)) pgs_nil))))
      (pss_one (ps_ret (pe_tup (pa_cons (pv 7) (pa_cons (pe_ifExp (pt_val (pe_ix ix_list (pv 2) (pv 4) (fun _ _ => rfl))) (pe_dget (show (A.deeper (envOfC "_law_side_led" (defScope a__law_side_led) s.heap.objs.size f cdv)).units + 1 < cLine by have := hr.units; omega) (pe_disp (pps_cons pe_str pe_str (pps_cons pe_str pe_str pps_nil)) (by rfl) (by rfl) (fun z => by cases z) (by decide)) (pv 5) (fun _ _ => rfl)) (pv 5)) (pa_cons (pv 8) pa_nil)))))))), ?_⟩
    obtain ⟨n, b, x⟩ := s'
    have hs' : H o = some (.tup [.int (n : Int), .str (word b), .int x]) := hs
    have hn : n < tops.length := hi
    refine ⟨.ref o, rfl, o, _, rfl, .inl (.inl hs'), rfl, _, _, rfl, _, _, rfl, _, _, rfl, rfl, ?_⟩
    dsimp only [List.set]
    refine ⟨_, rfl, _, rfl, _, rfl, _, rfl, _, rfl, t, O, W, ls, tops, n, x, rfl, et, hC, c, hn, fun H1 g s1 eg => ?_⟩
    refine ⟨g, _, rfl, .inl (.inl eg), rfl, _, _, rfl, _, _, rfl, rfl, ?_⟩
    dsimp only [List.set]
    have hC1 := hC.same s1
    have aw := hC1.w c hn
    have w3 : (3 : Nat) ≤ sizeLine := by decide
    refine ⟨_, rfl, _, rfl, _, rfl, W, _, n, _, rfl, rfl, .inl (.inl hC1.eW), aw, _, rfl, ?_⟩
    have es : sdx ls tops (n, b, x) = (sg ls n, (if fl ls n then !b else b), plx ls tops n x) := rfl
    cases hf : fl ls n
    · rw [hf] at es
      refine iteF ⟨_, rfl, _, rfl, w3, fun g' ng' => q _ g' (s1.trans (same_new ng')) ?_⟩
      rw [es]
      exact upd_same
    · rw [hf] at es
      refine iteT fun p np => ⟨upd_same, [(Sum.inr "from", .str "to"), (Sum.inr "to", .str "from")], rfl, (show 2 ≤ 15 by decide), _, rfl, p, _, rfl, DGet.some' upd_same (flip_word b), ?_⟩
      refine ⟨_, rfl, w3, fun g' ng' => q _ g' ((s1.trans (same_over (same_new np) np)).trans (same_new ng')) ?_⟩
      rw [es]
      exact upd_same
end
end K19

set_option Elab.async false
set_option linter.all false
set_option maxRecDepth 100000
namespace K19
open PySem PySem.Spec PyProof.Rows L2 NB

/-! ### rows called otherwise -/
/-- rows of low and high, a tuple or a list -/
def RowsIn (H : Hp) (r : Addr) (n : Nat) (lows highs : List Int) : Prop := ∃ Us : List Addr, (H r = some (.tup (Us.map V.ref)) ∨ H r = some (.lst (Us.map V.ref))) ∧ Us.length = n ∧ ∀ (j : Nat) (T : Addr), Us[j]? = some T → H T = some (.tup [.int (plc lows j), .int (plc highs j)])
theorem rep_non (n : Nat) : (List.replicate (n : Int).toNat [V.non]).flatten = List.replicate n V.non := by
  rw [Int.toNat_natCast]
  induction n with
  | zero => rfl
  | succ m ih =>
    rw [List.replicate_succ, List.replicate_succ, List.flatten_cons, ih]
    rfl
theorem rows_out {ls : List (Int × Int)} {tops lo' hi' : List Int} (c : Cal tops.length ls) {xs : List V} {H : Hp} {g : Addr} (lx : xs.length = tops.length) (ll : lo'.length = tops.length) (eg : H g = some (.tup xs)) (h : ∀ i, i < tops.length → ∃ g', xs[sg ls i]? = some (.ref g') ∧ H g' = some (.tup [.int (plc lo' (sg ls i)), .int (plc hi' (sg ls i))])) : BndAt H g lo' hi' := by
  have all : ∀ j : Nat, ∃ a : Addr, j < tops.length → xs[j]? = some (.ref a) ∧ H a = some (.tup [.int (plc lo' j), .int (plc hi' j)]) := fun j => by
    by_cases hj : j < tops.length
    · obtain ⟨i, hi, rfl⟩ := c.ex hj
      obtain ⟨g', a, b⟩ := h i hi
      exact ⟨g', fun _ => ⟨a, b⟩⟩
    · exact ⟨g, fun z => absurd z hj⟩
  obtain ⟨f, hf⟩ := Classical.skolem.mp all
  have ex : xs = ((List.range tops.length).map f).map V.ref := by
    refine List.ext_getElem? fun j => ?_
    by_cases hj : j < tops.length
    · rw [(hf j hj).1, List.getElem?_map, List.getElem?_map, List.getElem?_range hj]
      rfl
    · rw [List.getElem?_eq_none (by omega), List.getElem?_eq_none (by rw [List.length_map, List.length_map, List.length_range]; omega)]
  refine ⟨(List.range tops.length).map f, by rw [eg, ex], by rw [List.length_map, List.length_range, ll], fun j T hT => ?_⟩
  have hj : j < tops.length := by
    have := (List.getElem?_eq_some_iff.mp hT).1
    rw [List.length_map, List.length_range] at this
    exact this
  rw [List.getElem?_map, List.getElem?_range hj] at hT
  cases hT
  exact (hf j hj).2
section
variable {P : Program} {w : World} {K : PySem.W.Frag} {mg : Str → Option Value} {base : Heap}
def spRl : Sp := fun vs H Q _ => ∃ (t O W r : Addr) (ls : List (Int × Int)) (tops lo hi lo' hi' : List Int), vs = [.ref t, .ref O, .ref W, .ref r] ∧ H t = some (.tup (tops.map V.int)) ∧ CalAt H O W ls ∧ Cal tops.length ls ∧ tops.length ≤ 12 ∧ RowsIn H r tops.length lo hi ∧ RwLed ls tops lo hi lo' hi' ∧
  ∀ H' g, Same H H' → BndAt H' g lo' hi' → Q (.ref g) H'
abbrev a__law_rows_led : Stmt := topS 62
abbrev n__law_rows_led : List Str := ["_law_tops", "_law_order", "_law_flips", "_law_rows", "_law_found", "_law_thing", "_law_low", "_law_high", "_law_one", "_law_other", "_law_place"]
theorem sc__law_rows_led : FnScope n__law_rows_led ["_law_tops", "_law_order", "_law_flips", "_law_rows"] (defScope a__law_rows_led) := ⟨rfl, rfl, rfl, by decide +kernel, rfl, by decide +kernel, by decide +kernel⟩
set_option maxHeartbeats 8000000 in
theorem ok__law_rows_led {f fLe : Addr} {fd fdLe : FuncData} {k : Nat}  (F : Fun K "_law_rows_led" "_law_rows_led" a__law_rows_led f fd) (Le : Kn P w K mg base 1 "_law_led" ["_law_tops", "_law_order", "_law_flips", "_law_thing", "_law_place"] spLd fLe fdLe)  (m_enumerate : mg "enumerate" = none) (m_len : mg "len" = none) (m_tuple : mg "tuple" = none) : FnOk P w K mg base CX0 (k + 2) f fd ["_law_tops", "_law_order", "_law_flips", "_law_rows"] spRl := by
  refine F.ok sc__law_rows_led (fun vs H Q E h => ?_) (fun cdv A outer s H vs Q E hr h => ?_)
  · obtain ⟨t, O, W, r, ls, tops, lo, hi, lo', hi', rfl, _⟩ := h
    rfl
  · obtain ⟨t, O, W, r, ls, tops, lo, hi, lo', hi', rfl, et, hC, c, l12, hR, R, q⟩ := h
    refine ⟨_, (pss_cons (ps_set (i := 4) sc__law_rows_led.nd rfl (.inl rfl) (pe_op op_rep (pe_lst (pa_cons pe_non pa_nil)) (pe_callB call_len_seq (by rfl) m_len (by decide +kernel) (pa_cons (pv 3) pa_nil))))
      (pss_cons (ps_for PassesOwn.never rfl (pi_or (pi_enumT (by rfl) m_enumerate (pa_cons (pv 3) pa_nil)) (pi_enum (by rfl) m_enumerate (pa_cons (pv 3) pa_nil))) (pg_tup rfl (pgs_cons (pg_name (i := 5) sc__law_rows_led.nd rfl (.inr rfl)) (pgs_cons (pg_tup rfl (pgs_cons (pg_name (i := 6) sc__law_rows_led.nd rfl (.inl rfl)) (pgs_cons (pg_name (i := 7) sc__law_rows_led.nd rfl (.inl rfl)) pgs_nil))) pgs_nil)))
        (pss_cons (ps_asg (
        pe_lc (own := [("_law_place", 10)]) (g := (gName 10)) (tt := tYes) (te := (tOp (rIxT K) (tCall spLd [] E0 (tCons (tVar 0) (tCons (tVar 1) (tCons (tVar 2) (tCons (tVar 5) (tCons (tVar 10) tNil)))))) (tC (.int 1)))) rfl sc__law_rows_led.nd (pi_tup (pe_tup (pa_cons (pv 6) (pa_cons (pv 7) pa_nil)))) (blkOk_by (N := n__law_rows_led) (sc := defScope a__law_rows_led) (by decide +kernel))
          (fun _ _ _ _ _ => (pg_name (i := 10) sc__law_rows_led.nd rfl (.inl rfl) (hf := .inr rfl))) (fun _ _ _ _ _ => pts_nil) (fun _ _ _ _ _ => (pe_ix (r := rIxT K) ix_tup (pe_kn Le hr (by omega) (pa_cons (pv 0) (pa_cons (pv 1) (pa_cons (pv 2) (pa_cons (pv 5) (pa_cons (pv 10) pa_nil)))))) pe_int (fun _ _ => rfl)))) (pg_lst rfl (pgs_cons (pg_name (i := 8) sc__law_rows_led.nd rfl (.inl rfl)) (pgs_cons (pg_name (i := 9) sc__law_rows_led.nd rfl (.inl rfl)) pgs_nil))))
      (pss_one (ps_asg (pe_ifExp (pt_val (pe_ix ix_list (pv 2) (pv 5) (fun _ _ => rfl))) (pe_tup (pa_cons (pv 9) (pa_cons (pv 8) pa_nil))) (pe_tup (pa_cons (pv 8) (pa_cons (pv 9) pa_nil)))) (pg_sub (pv 4) (pe_ix ix_list (pv 1) (pv 5) (fun _ _ => rfl)) set_list)))))
      (pss_one (ps_ret (pe_callTy call_tuple_of (by rfl) m_tuple (by decide +kernel) (pa_cons (pv 4) pa_nil)))))), ?_⟩
    obtain ⟨Us, er, lu, hU⟩ := hR
    rcases er with er | er
    · refine ⟨(show 1 ≤ sizeLine by decide), fun Z0 nZ0 => ?_⟩
      have sZ0 := same_new (o := HO.lst [V.non]) nZ0
      refine ⟨_, rfl, r, _, rfl, .inr (.inl (.inl (sZ0 _ _ er))), ?_⟩
      rw [List.length_map, lu]
      refine ⟨Z0, tops.length, _, rfl, rfl, upd_same, by omega, by omega, ?_, fun F nF => ?_⟩
      · rw [Int.toNat_natCast]
        exact Nat.le_of_lt (small1000 (by simp; omega))
      rw [rep_non]
      have sF := same_new (o := HO.lst (List.replicate tops.length V.non)) nF
      have s1 := sZ0.trans sF
      have eF : (upd (upd H Z0 (.lst [V.non])) F (.lst (List.replicate tops.length V.non))) F = some (.lst (List.replicate tops.length V.non)) := upd_same
      generalize (upd (upd H Z0 (.lst [V.non])) F (.lst (List.replicate tops.length V.non))) = H1 at s1 eF ⊢
      have nHF : H F = none := sZ0.free nF
      refine .inl ⟨_, rfl, r, _, rfl, .inl (.inl (s1 _ _ er)), for_it (walk_enumT (xs := Us.map V.ref)) (fun k σ H' => (∃ u5 u6 u7 u8 u9 u10, σ = [some (V.ref t), some (.ref O), some (.ref W), some (.ref r), some (.ref F), u5, u6, u7, u8, u9, u10]) ∧ Same H H' ∧ ∃ xs : List V, H' F = some (.lst xs) ∧ xs.length = tops.length ∧ ∀ i, i < k → ∃ g, xs[sg ls i]? = some (.ref g) ∧ H' g = some (.tup [.int (plc lo' (sg ls i)), .int (plc hi' (sg ls i))])) ⟨⟨_, _, _, _, _, _, rfl⟩, s1, _, eF, List.length_replicate, fun i h => absurd h (Nat.not_lt_zero _)⟩ (fun k σ H' _ y => .inl (.inl (y.2.1 _ _ er))) (fun k v σ H2 H3 hk y z => ?_) (fun σ H2 y => ?_)⟩
      · have hk' : k < tops.length := by
          rw [← lu]
          simpa using hk
        obtain ⟨⟨u5, u6, u7, u8, u9, u10, rfl⟩, s2, xs, eF2, lx, hx⟩ := y
        obtain ⟨T', v1, v2, rfl, nT', rfl, g1, g2⟩ := z
        obtain rfl : v1 = .int (k : Nat) := (Option.some.inj g1).symm
        obtain ⟨T, eT, rfl⟩ := mapGet g2
        have sT' := same_new (o := HO.tup [V.int (k : Nat), V.ref T]) nT'
        have s3 := s2.trans sT'
        have eF3 := sT' _ _ eF2
        have eTT := s3 _ _ (hU k T eT)
        refine ⟨T', _, rfl, .inl (.inl upd_same), rfl, _, _, rfl, ⟨_, _, rfl, T, _, rfl, .inl (.inl eTT), rfl, _, _, rfl, _, _, rfl, rfl, rfl, ?_⟩⟩
        generalize upd H2 T' (.tup [V.int (k : Nat), V.ref T]) = H3 at sT' s3 eF3 eTT ⊢
        dsimp only [List.set]
        have hC3 := hC.same s3
        have et3 := s3 _ _ et
        refine ⟨_, rfl, _, rfl, (show 2 ≤ sizeLine by decide), fun Z nZ => ⟨Z, rfl, ⟨_, .inl (.inl upd_same)⟩, fun D nD => ?_⟩⟩
        have sZ := same_new (o := HO.tup [V.int (plc lo k), V.int (plc hi k)]) nZ
        refine lc_it (walk_tup (xs := [plc lo k, plc hi k].map V.int)) (fun j H' => Same (upd H3 Z (.tup [V.int (plc lo k), V.int (plc hi k)])) H' ∧ H' D = some (.lst ((([plc lo k, plc hi k].take j).map fun p => plx ls tops k p).map V.int))) ⟨same_new nD, upd_same⟩ (fun j H' _ y => .inl (.inl (y.1 _ _ upd_same))) (fun j v H4 H5 hj y z => ?_) (fun H4 y => ?_)
        · obtain ⟨s4, eD⟩ := y
          obtain ⟨rfl, gv⟩ := z
          obtain ⟨p, ep, rfl⟩ := mapGet gv
          have s35 := sZ.trans s4
          have j2 : j < 2 := hj
          refine ⟨wipe_one, _, rfl, _, rfl, _, rfl, _, rfl, _, rfl, t, O, W, ls, tops, k, p, rfl, s35 _ _ et3, hC3.same s35, c, hk', fun H6 g s6 eg => ?_⟩
          refine ⟨g, _, 1, _, rfl, rfl, .inl (.inl eg), atI_nat (j := 1) rfl, _, s6 _ _ eD, by rw [List.length_map, List.length_map, List.length_take]; exact small1000 (by omega), same_over (s4.trans s6) nD, ?_⟩
          rw [upd_same, List.take_add_one, ep]
          simp only [List.map_append, Option.toList_some, List.map_cons, List.map_nil]
        · obtain ⟨s4, eD⟩ := y
          have eD' : H4 D = some (.lst [V.int (plx ls tops k (plc lo k)), V.int (plx ls tops k (plc hi k))]) := eD
          have s34 := sZ.trans s4
          refine ⟨D, _, rfl, .inl (.inl eD'), rfl, _, _, rfl, _, _, rfl, rfl, ?_⟩
          dsimp only [List.set]
          have hC4 := hC3.same s34
          have ao := hC4.o c hk'
          have aw := hC4.w c hk'
          have eF4 := s34 _ _ eF3
          have sl := c.sg_lt hk'
          have ixF : ixN xs.length (sg ls k : Int) = some (sg ls k) := by
            unfold ixN
            rw [lx, if_pos (by omega), if_pos (by omega)]
            simp
          have px : ∀ p : Int, plx ls tops k p = if fl ls k then plc tops k - p else p := fun _ => rfl
          have loE := R.lo k hk'
          have hiE := R.hi k hk'
          have w2 : (2 : Nat) ≤ sizeLine := by decide
          have fin : ∀ g : Addr, H4 g = none → Same H (upd (upd H4 g (.tup [V.int (plc lo' (sg ls k)), V.int (plc hi' (sg ls k))])) F (.lst (xs.set (sg ls k) (.ref g)))) ∧ ∃ xs' : List V, (upd (upd H4 g (.tup [V.int (plc lo' (sg ls k)), V.int (plc hi' (sg ls k))])) F (.lst (xs.set (sg ls k) (.ref g)))) F = some (.lst xs') ∧ xs'.length = tops.length ∧ ∀ i, i < k + 1 → ∃ g', xs'[sg ls i]? = some (.ref g') ∧ (upd (upd H4 g (.tup [V.int (plc lo' (sg ls k)), V.int (plc hi' (sg ls k))])) F (.lst (xs.set (sg ls k) (.ref g)))) g' = some (.tup [.int (plc lo' (sg ls i)), .int (plc hi' (sg ls i))]) := fun g ng => by
            have sg' := same_new (o := HO.tup [V.int (plc lo' (sg ls k)), V.int (plc hi' (sg ls k))]) ng
            have kU : Keep (upd H4 g (.tup [V.int (plc lo' (sg ls k)), V.int (plc hi' (sg ls k))])) (upd (upd H4 g (.tup [V.int (plc lo' (sg ls k)), V.int (plc hi' (sg ls k))])) F (.lst (xs.set (sg ls k) (.ref g)))) := .upd (sg' _ _ eF4)
            refine ⟨same_over ((s3.trans s34).trans sg') nHF, _, upd_same, by rw [List.length_set]; exact lx, fun i hi => ?_⟩
            by_cases e : i = k
            · subst e
              exact ⟨g, by rw [List.getElem?_set, if_pos rfl, if_pos (by omega)], kU.tup upd_same⟩
            · obtain ⟨g', e1, e2⟩ := hx i (by omega)
              refine ⟨g', ?_, kU.tup ((sT'.trans s34).trans sg' _ _ e2)⟩
              rw [List.getElem?_set, if_neg (fun z => e (c.sg_inj (by omega) hk' z.symm))]
              exact e1
          refine ⟨_, rfl, _, rfl, W, _, k, _, rfl, rfl, .inl (.inl hC4.eW), aw, _, rfl, ?_⟩
          cases hf : fl ls k
          · simp only [hf, Bool.false_eq_true, if_false] at px loE hiE
            refine iteF ⟨_, rfl, _, rfl, w2, fun g ng => ?_⟩
            rw [px, px, ← loE, ← hiE]
            have sg' := same_new (o := HO.tup [V.int (plc lo' (sg ls k)), V.int (plc hi' (sg ls k))]) ng
            have f := fin g ng
            exact ⟨_, rfl, _, rfl, _, rfl, O, _, k, _, rfl, rfl, .inl (.inl (sg' _ _ hC4.eO)), ao, F, _, _, sg ls k, rfl, rfl, sg' _ _ eF4, ixF, ⟨_, _, _, _, _, _, rfl⟩, f⟩
          · simp only [hf, if_true] at px loE hiE
            refine iteT ⟨_, rfl, _, rfl, w2, fun g ng => ?_⟩
            rw [px, px, ← loE, ← hiE]
            have sg' := same_new (o := HO.tup [V.int (plc lo' (sg ls k)), V.int (plc hi' (sg ls k))]) ng
            have f := fin g ng
            exact ⟨_, rfl, _, rfl, _, rfl, O, _, k, _, rfl, rfl, .inl (.inl (sg' _ _ hC4.eO)), ao, F, _, _, sg ls k, rfl, rfl, sg' _ _ eF4, ixF, ⟨_, _, _, _, _, _, rfl⟩, f⟩
      · obtain ⟨⟨u5, u6, u7, u8, u9, u10, rfl⟩, s2, xs, eF2, lx, hx⟩ := y
        rw [List.length_map, lu] at hx
        refine ⟨_, rfl, F, _, rfl, .inl ⟨.inl (.inl eF2), fun g ng => ?_⟩⟩
        have sg' := same_new (o := HO.tup xs) ng
        refine q _ g (s2.trans sg') ?_
        exact rows_out c lx R.ll upd_same fun i hi => by
          obtain ⟨g', e1, e2⟩ := hx i hi
          exact ⟨g', e1, sg' _ _ e2⟩
    · refine ⟨(show 1 ≤ sizeLine by decide), fun Z0 nZ0 => ?_⟩
      have sZ0 := same_new (o := HO.lst [V.non]) nZ0
      refine ⟨_, rfl, r, _, rfl, .inl (.inl (.inl (sZ0 _ _ er))), ?_⟩
      rw [List.length_map, lu]
      refine ⟨Z0, tops.length, _, rfl, rfl, upd_same, by omega, by omega, ?_, fun F nF => ?_⟩
      · rw [Int.toNat_natCast]
        exact Nat.le_of_lt (small1000 (by simp; omega))
      rw [rep_non]
      have sF := same_new (o := HO.lst (List.replicate tops.length V.non)) nF
      have s1 := sZ0.trans sF
      have eF : (upd (upd H Z0 (.lst [V.non])) F (.lst (List.replicate tops.length V.non))) F = some (.lst (List.replicate tops.length V.non)) := upd_same
      generalize (upd (upd H Z0 (.lst [V.non])) F (.lst (List.replicate tops.length V.non))) = H1 at s1 eF ⊢
      have nHF : H F = none := sZ0.free nF
      refine .inr ⟨_, rfl, r, _, rfl, .inl (.inl (s1 _ _ er)), for_it (walk_enum (xs := Us.map V.ref)) (fun k σ H' => (∃ u5 u6 u7 u8 u9 u10, σ = [some (V.ref t), some (.ref O), some (.ref W), some (.ref r), some (.ref F), u5, u6, u7, u8, u9, u10]) ∧ Same H H' ∧ ∃ xs : List V, H' F = some (.lst xs) ∧ xs.length = tops.length ∧ ∀ i, i < k → ∃ g, xs[sg ls i]? = some (.ref g) ∧ H' g = some (.tup [.int (plc lo' (sg ls i)), .int (plc hi' (sg ls i))])) ⟨⟨_, _, _, _, _, _, rfl⟩, s1, _, eF, List.length_replicate, fun i h => absurd h (Nat.not_lt_zero _)⟩ (fun k σ H' _ y => .inl (.inl (y.2.1 _ _ er))) (fun k v σ H2 H3 hk y z => ?_) (fun σ H2 y => ?_)⟩
      · have hk' : k < tops.length := by
          rw [← lu]
          simpa using hk
        obtain ⟨⟨u5, u6, u7, u8, u9, u10, rfl⟩, s2, xs, eF2, lx, hx⟩ := y
        obtain ⟨T', v1, v2, rfl, nT', rfl, g1, g2⟩ := z
        obtain rfl : v1 = .int (k : Nat) := (Option.some.inj g1).symm
        obtain ⟨T, eT, rfl⟩ := mapGet g2
        have sT' := same_new (o := HO.tup [V.int (k : Nat), V.ref T]) nT'
        have s3 := s2.trans sT'
        have eF3 := sT' _ _ eF2
        have eTT := s3 _ _ (hU k T eT)
        refine ⟨T', _, rfl, .inl (.inl upd_same), rfl, _, _, rfl, ⟨_, _, rfl, T, _, rfl, .inl (.inl eTT), rfl, _, _, rfl, _, _, rfl, rfl, rfl, ?_⟩⟩
        generalize upd H2 T' (.tup [V.int (k : Nat), V.ref T]) = H3 at sT' s3 eF3 eTT ⊢
        dsimp only [List.set]
        have hC3 := hC.same s3
        have et3 := s3 _ _ et
        refine ⟨_, rfl, _, rfl, (show 2 ≤ sizeLine by decide), fun Z nZ => ⟨Z, rfl, ⟨_, .inl (.inl upd_same)⟩, fun D nD => ?_⟩⟩
        have sZ := same_new (o := HO.tup [V.int (plc lo k), V.int (plc hi k)]) nZ
        refine lc_it (walk_tup (xs := [plc lo k, plc hi k].map V.int)) (fun j H' => Same (upd H3 Z (.tup [V.int (plc lo k), V.int (plc hi k)])) H' ∧ H' D = some (.lst ((([plc lo k, plc hi k].take j).map fun p => plx ls tops k p).map V.int))) ⟨same_new nD, upd_same⟩ (fun j H' _ y => .inl (.inl (y.1 _ _ upd_same))) (fun j v H4 H5 hj y z => ?_) (fun H4 y => ?_)
        · obtain ⟨s4, eD⟩ := y
          obtain ⟨rfl, gv⟩ := z
          obtain ⟨p, ep, rfl⟩ := mapGet gv
          have s35 := sZ.trans s4
          have j2 : j < 2 := hj
          refine ⟨wipe_one, _, rfl, _, rfl, _, rfl, _, rfl, _, rfl, t, O, W, ls, tops, k, p, rfl, s35 _ _ et3, hC3.same s35, c, hk', fun H6 g s6 eg => ?_⟩
          refine ⟨g, _, 1, _, rfl, rfl, .inl (.inl eg), atI_nat (j := 1) rfl, _, s6 _ _ eD, by rw [List.length_map, List.length_map, List.length_take]; exact small1000 (by omega), same_over (s4.trans s6) nD, ?_⟩
          rw [upd_same, List.take_add_one, ep]
          simp only [List.map_append, Option.toList_some, List.map_cons, List.map_nil]
        · obtain ⟨s4, eD⟩ := y
          have eD' : H4 D = some (.lst [V.int (plx ls tops k (plc lo k)), V.int (plx ls tops k (plc hi k))]) := eD
          have s34 := sZ.trans s4
          refine ⟨D, _, rfl, .inl (.inl eD'), rfl, _, _, rfl, _, _, rfl, rfl, ?_⟩
          dsimp only [List.set]
          have hC4 := hC3.same s34
          have ao := hC4.o c hk'
          have aw := hC4.w c hk'
          have eF4 := s34 _ _ eF3
          have sl := c.sg_lt hk'
          have ixF : ixN xs.length (sg ls k : Int) = some (sg ls k) := by
            unfold ixN
            rw [lx, if_pos (by omega), if_pos (by omega)]
            simp
          have px : ∀ p : Int, plx ls tops k p = if fl ls k then plc tops k - p else p := fun _ => rfl
          have loE := R.lo k hk'
          have hiE := R.hi k hk'
          have w2 : (2 : Nat) ≤ sizeLine := by decide
          have fin : ∀ g : Addr, H4 g = none → Same H (upd (upd H4 g (.tup [V.int (plc lo' (sg ls k)), V.int (plc hi' (sg ls k))])) F (.lst (xs.set (sg ls k) (.ref g)))) ∧ ∃ xs' : List V, (upd (upd H4 g (.tup [V.int (plc lo' (sg ls k)), V.int (plc hi' (sg ls k))])) F (.lst (xs.set (sg ls k) (.ref g)))) F = some (.lst xs') ∧ xs'.length = tops.length ∧ ∀ i, i < k + 1 → ∃ g', xs'[sg ls i]? = some (.ref g') ∧ (upd (upd H4 g (.tup [V.int (plc lo' (sg ls k)), V.int (plc hi' (sg ls k))])) F (.lst (xs.set (sg ls k) (.ref g)))) g' = some (.tup [.int (plc lo' (sg ls i)), .int (plc hi' (sg ls i))]) := fun g ng => by
            have sg' := same_new (o := HO.tup [V.int (plc lo' (sg ls k)), V.int (plc hi' (sg ls k))]) ng
            have kU : Keep (upd H4 g (.tup [V.int (plc lo' (sg ls k)), V.int (plc hi' (sg ls k))])) (upd (upd H4 g (.tup [V.int (plc lo' (sg ls k)), V.int (plc hi' (sg ls k))])) F (.lst (xs.set (sg ls k) (.ref g)))) := .upd (sg' _ _ eF4)
            refine ⟨same_over ((s3.trans s34).trans sg') nHF, _, upd_same, by rw [List.length_set]; exact lx, fun i hi => ?_⟩
            by_cases e : i = k
            · subst e
              exact ⟨g, by rw [List.getElem?_set, if_pos rfl, if_pos (by omega)], kU.tup upd_same⟩
            · obtain ⟨g', e1, e2⟩ := hx i (by omega)
              refine ⟨g', ?_, kU.tup ((sT'.trans s34).trans sg' _ _ e2)⟩
              rw [List.getElem?_set, if_neg (fun z => e (c.sg_inj (by omega) hk' z.symm))]
              exact e1
          refine ⟨_, rfl, _, rfl, W, _, k, _, rfl, rfl, .inl (.inl hC4.eW), aw, _, rfl, ?_⟩
          cases hf : fl ls k
          · simp only [hf, Bool.false_eq_true, if_false] at px loE hiE
            refine iteF ⟨_, rfl, _, rfl, w2, fun g ng => ?_⟩
            rw [px, px, ← loE, ← hiE]
            have sg' := same_new (o := HO.tup [V.int (plc lo' (sg ls k)), V.int (plc hi' (sg ls k))]) ng
            have f := fin g ng
            exact ⟨_, rfl, _, rfl, _, rfl, O, _, k, _, rfl, rfl, .inl (.inl (sg' _ _ hC4.eO)), ao, F, _, _, sg ls k, rfl, rfl, sg' _ _ eF4, ixF, ⟨_, _, _, _, _, _, rfl⟩, f⟩
          · simp only [hf, if_true] at px loE hiE
            refine iteT ⟨_, rfl, _, rfl, w2, fun g ng => ?_⟩
            rw [px, px, ← loE, ← hiE]
            have sg' := same_new (o := HO.tup [V.int (plc lo' (sg ls k)), V.int (plc hi' (sg ls k))]) ng
            have f := fin g ng
            exact ⟨_, rfl, _, rfl, _, rfl, O, _, k, _, rfl, rfl, .inl (.inl (sg' _ _ hC4.eO)), ao, F, _, _, sg ls k, rfl, rfl, sg' _ _ eF4, ixF, ⟨_, _, _, _, _, _, rfl⟩, f⟩
      · obtain ⟨⟨u5, u6, u7, u8, u9, u10, rfl⟩, s2, xs, eF2, lx, hx⟩ := y
        rw [List.length_map, lu] at hx
        refine ⟨_, rfl, F, _, rfl, .inl ⟨.inl (.inl eF2), fun g ng => ?_⟩⟩
        have sg' := same_new (o := HO.tup xs) ng
        refine q _ g (s2.trans sg') ?_
        exact rows_out c lx R.ll upd_same fun i hi => by
          obtain ⟨g', e1, e2⟩ := hx i hi
          exact ⟨g', e1, sg' _ _ e2⟩
end
end K19

set_option Elab.async false
set_option linter.all false
set_option maxRecDepth 100000
namespace K19
open PySem PySem.Spec PyProof.Rows L2 NB

/-! ### rules in lists, as data -/
def dS (s : Sd) : PyData := .tuple [.int s.1, .str (word s.2.1), .int s.2.2]
def dR (q : Rl) : PyData := .tuple [dS q.1, dS q.2]
theorem dp_side {K : PySem.W.Frag} {H : Hp} {p : Addr} {s : Sd} (h : SideAt H p s) : Dp K H (.ref p) (dS s) := .tup (.inl (.inl h)) (.cons (.int _) (.cons (.str _) (.cons (.int _) .nil)))
theorem dp_rule {K : PySem.W.Frag} {H : Hp} {p : Addr} {q : Rl} (h : RuleAt H p q) : Dp K H (.ref p) (dR q) := by
  obtain ⟨p1, p2, e, h1, h2⟩ := h
  exact .tup (.inl (.inl e)) (.cons (dp_side h1) (.cons (dp_side h2) .nil))
theorem layR : ∀ rs : List Rl, PyData.canLayAll0 (rs.map dR) = true
  | [] => rfl
  | q :: rs => by
    have w : ∀ b : Bool, PyData.strOk (word b) = true := fun b => by cases b <;> decide +kernel
    simp only [List.map_cons, dR, dS, PyData.canLayAll0, PyData.canLay0, w, Bool.true_and, Bool.and_true]
    exact layR rs
theorem depR : ∀ rs : List Rl, PyData.depthAll (rs.map dR) ≤ 3
  | [] => by simp [PyData.depthAll]
  | q :: rs => by
    have := depR rs
    simp only [List.map_cons, dR, dS, PyData.depthAll, PyData.depth] at this ⊢
    omega
theorem shapedR (rs : List Rl) : SeqAt.shaped (.list (rs.map dR)) = true := by
  unfold SeqAt.shaped
  have := depR rs
  simp only [PyData.canLay0, layR, PyData.depth, Bool.true_and]
  exact decide_eq_true (by omega)
/-- rules in a list, with where they stand -/
def RlsL (H : Hp) (Z : List (Addr × Rl)) : Prop := ∀ z ∈ Z, RuleAt H z.1 z.2
abbrev rlR (Z : List (Addr × Rl)) : List V := Z.map fun z => V.ref z.1
theorem RlsL.keep {H H' : Hp} {Z : List (Addr × Rl)} (h : RlsL H Z) (k : Keep H H') : RlsL H' Z := fun z hz => (h z hz).keep k
theorem dp_rls {K : PySem.W.Frag} {H : Hp} : ∀ {Z : List (Addr × Rl)}, RlsL H Z → DpAll K H (rlR Z) ((Z.map (·.2)).map dR)
  | [], _ => .nil
  | z :: Z, h => .cons (dp_rule (h z List.mem_cons_self)) (dp_rls fun y hy => h y (List.mem_cons_of_mem _ hy))
theorem RulesAt.rls {H : Hp} {R : Addr} {rs : List Rl} (h : RulesAt H R rs) : ∃ Z : List (Addr × Rl), H R = some (.tup (rlR Z)) ∧ Z.map (·.2) = rs ∧ RlsL H Z := by
  obtain ⟨as, e, l, f⟩ := h
  refine ⟨as.zip rs, ?_, List.map_snd_zip (by omega), fun z hz => ?_⟩
  · rw [e]
    have : rlR (as.zip rs) = ((as.zip rs).map Prod.fst).map V.ref := by
      rw [List.map_map]
      rfl
    rw [this, List.map_fst_zip (by omega)]
  · obtain ⟨k, hk, ek⟩ := List.getElem_of_mem hz
    have hk' : k < as.length ∧ k < rs.length := by
      rw [List.length_zip] at hk
      omega
    refine f k z.1 z.2 ?_ ?_
    · rw [← ek, List.getElem_zip, List.getElem?_eq_getElem hk'.1]
    · rw [← ek, List.getElem_zip, List.getElem?_eq_getElem hk'.2]
theorem RulesAt.of_rls {H : Hp} {R : Addr} {Z : List (Addr × Rl)} (e : H R = some (.tup (rlR Z))) (h : RlsL H Z) : RulesAt H R (Z.map (·.2)) := by
  refine ⟨Z.map (·.1), by rw [e, List.map_map]; rfl, by rw [List.length_map, List.length_map], fun i r q h1 h2 => ?_⟩
  rw [List.getElem?_map] at h1 h2
  cases z : Z[i]? with
  | none =>
    rw [z] at h1
    cases h1
  | some y =>
    rw [z] at h1 h2
    cases h1
    cases h2
    exact h y (List.mem_of_getElem? z)

/-! ### standings and rules called otherwise -/
theorem rules_cut {K : PySem.W.Frag} {H : Hp} {R : Addr} {rs : List Rl} {Q : VK} (h : RulesAt H R rs) (c : Nat) (q : ∀ p H', Same H H' → RulesAt H' p (rs.take c) → Q (.ref p) H') : rSlA K (.ref R) none (some (c : Int)) H Q := by
  obtain ⟨as, e, la, f⟩ := id h
  have e1 : HT.sIx as.length as.length (some (c : Int)) = min c as.length := HT.sIx_nat _ _ _
  refine ⟨R, _, rfl, .inl (.inl e), fun w => ?_, fun w p np => ?_⟩
  · rw [List.length_map, e1] at w
    refine q R H (Same.refl H) ?_
    rw [List.take_of_length_le (by omega)]
    exact h
  · rw [List.length_map, e1, HT.sIx_none] at w
    have lt : min c as.length = c := by
      rcases Nat.lt_or_ge c as.length with z | z
      · omega
      · exact absurd ⟨rfl, by omega⟩ w
    have gt : ∀ {α : Type} (l : List α) (i : Nat) (r : α), (l.take c)[i]? = some r → l[i]? = some r := fun l i r hr => by
      rw [List.getElem?_take] at hr
      split at hr
      · exact hr
      · cases hr
    refine q p _ (same_new np) ⟨as.take c, ?_, by rw [List.length_take, List.length_take, la], fun i r y h1 h2 => (f i r y (gt _ _ _ h1) (gt _ _ _ h2)).keep (.same (same_new np))⟩
    rw [upd_same]
    unfold cutV
    rw [List.length_map, e1, lt, HT.sIx_none, List.drop_zero, List.map_take]
    rfl
theorem rls_of (Z : List (Addr × Rl)) : ∀ ys : List V, (∀ v ∈ ys, v ∈ rlR Z) → ∃ Y, ys = rlR Y ∧ ∀ z ∈ Y, z ∈ Z
  | [], _ => ⟨[], rfl, fun _ h => absurd h List.not_mem_nil⟩
  | v :: ys, h => by
    obtain ⟨Y, e, m⟩ := rls_of Z ys fun x hx => h x (List.mem_cons_of_mem _ hx)
    obtain ⟨z, hz, ez⟩ := List.mem_map.mp (h v List.mem_cons_self)
    refine ⟨z :: Y, by rw [e, ← ez]; rfl, fun x hx => ?_⟩
    rcases List.mem_cons.mp hx with rfl | hx
    · exact hz
    · exact m x hx
theorem side_one {H : Hp} {p : Addr} {a b : Sd} (h : SideAt H p a) (h' : SideAt H p b) : a = b := by
  obtain ⟨i, w, x⟩ := a
  obtain ⟨j, u, y⟩ := b
  have e : some (HO.tup [V.int (i : Int), .str (word w), .int x]) = some (HO.tup [V.int (j : Int), .str (word u), .int y]) := (show H p = _ from h).symm.trans h'
  injection e with e
  injection e with e
  injection e with e1 e2
  injection e2 with e2 e3
  injection e3 with e3 e4
  injection e1 with e1
  injection e2 with e2
  injection e3 with e3
  have ij : i = j := by omega
  have wu : w = u := by
    have n : word true ≠ word false := by decide +kernel
    cases w <;> cases u
    · rfl
    · exact absurd e2.symm n
    · exact absurd e2 n
    · rfl
  rw [ij, wu, e3]
theorem rule_one {H : Hp} {p : Addr} {a b : Rl} (h : RuleAt H p a) (h' : RuleAt H p b) : a = b := by
  obtain ⟨x, y, e, h1, h2⟩ := h
  obtain ⟨x', y', e', h1', h2'⟩ := h'
  rw [e] at e'
  cases e'
  obtain ⟨a1, a2⟩ := a
  obtain ⟨b1, b2⟩ := b
  rw [show a1 = b1 from side_one h1 h1', show a2 = b2 from side_one h2 h2']
section
variable {P : Program} {w : World} {K : PySem.W.Frag} {mg : Str → Option Value} {base : Heap}
def spStl : Sp := fun vs H Q _ => ∃ (t O W o : Addr) (ls : List (Int × Int)) (tops st : List Int), vs = [.ref t, .ref O, .ref W, .ref o] ∧ H t = some (.tup (tops.map V.int)) ∧ CalAt H O W ls ∧ Cal tops.length ls ∧ tops.length ≤ 12 ∧ H o = some (.tup (st.map V.int)) ∧ st.length = tops.length ∧
  ∀ H' g st', Same H H' → H' g = some (.tup (st'.map V.int)) → Led ls tops st st' → Q (.ref g) H'
abbrev a__law_standing_led : Stmt := topS 63
abbrev n__law_standing_led : List Str := ["_law_tops", "_law_order", "_law_flips", "_law_standing_here", "_law_rows", "_law_place", "_law_low", "_law_high"]
theorem sc__law_standing_led : FnScope n__law_standing_led ["_law_tops", "_law_order", "_law_flips", "_law_standing_here"] (defScope a__law_standing_led) := ⟨rfl, rfl, rfl, by decide +kernel, rfl, by decide +kernel, by decide +kernel⟩
set_option maxHeartbeats 8000000 in
theorem ok__law_standing_led {f fRl' : Addr} {fd fdRl' : FuncData} {k : Nat}  (F : Fun K "_law_standing_led" "_law_standing_led" a__law_standing_led f fd) (Rl' : Kn P w K mg base 2 "_law_rows_led" ["_law_tops", "_law_order", "_law_flips", "_law_rows"] spRl fRl' fdRl')  (m_tuple : mg "tuple" = none) : FnOk P w K mg base CX0 (k + 3) f fd ["_law_tops", "_law_order", "_law_flips", "_law_standing_here"] spStl := by
  refine F.ok sc__law_standing_led (fun vs H Q E h => ?_) (fun cdv A outer s H vs Q E hr h => ?_)
  · obtain ⟨t, O, W, o, ls, tops, st, rfl, _⟩ := h
    rfl
  · obtain ⟨t, O, W, o, ls, tops, st, rfl, et, hC, c, l12, eo, lst, q⟩ := h
    refine ⟨_, (pss_cons (ps_set (i := 4) sc__law_standing_led.nd rfl (.inl rfl) (pe_kn Rl' hr (by omega) (pa_cons (pv 0) (pa_cons (pv 1) (pa_cons (pv 2) (pa_cons (
        pe_lc (own := [("_law_place", 5)]) (g := (gName 5)) (tt := tYes) (te := (tTup (tCons (tVar 5) (tCons (tVar 5) tNil)))) rfl sc__law_standing_led.nd (pi_tup (pv 3)) (blkOk_by (N := n__law_standing_led) (sc := defScope a__law_standing_led) (by decide +kernel))
          (fun _ _ _ _ _ => (pg_name (i := 5) sc__law_standing_led.nd rfl (.inl rfl) (hf := .inr rfl))) (fun _ _ _ _ _ => pts_nil) (fun _ _ _ _ _ => (pe_tup (pa_cons (pv 5) (pa_cons (pv 5) pa_nil))))) pa_nil))))))
      (pss_one (ps_ret (pe_callTy call_tuple_of (by rfl) m_tuple (by decide +kernel) (pa_cons (
        pe_lc (own := [("_law_low", 6), ("_law_high", 7)]) (g := (gTup K 2 (gCons (gName 6) (gCons (gName 7) gNil)))) (tt := tYes) (te := (tVar 6)) rfl sc__law_standing_led.nd (pi_tup (pv 4)) (blkOk_by (N := n__law_standing_led) (sc := defScope a__law_standing_led) (by decide +kernel))
          (fun _ _ _ _ _ => (pg_tup rfl (pgs_cons (pg_name (i := 6) sc__law_standing_led.nd rfl (.inl rfl) (hf := .inr rfl)) (pgs_cons (pg_name (i := 7) sc__law_standing_led.nd rfl (.inl rfl) (hf := .inr rfl)) pgs_nil)))) (fun _ _ _ _ _ => pts_nil) (fun _ _ _ _ _ => (pv 6))) pa_nil))))), ?_⟩
    refine ⟨_, rfl, _, rfl, _, rfl, _, rfl, o, rfl, ⟨_, .inl (.inl eo)⟩, fun D nD => lc_it (walk_tup (xs := st.map V.int)) (fun k H' => Same H H' ∧ ∃ Us : List Addr, H' D = some (.lst (Us.map V.ref)) ∧ Us.length = k ∧ ∀ (j : Nat) (T : Addr), Us[j]? = some T → H' T = some (.tup [.int (plc st j), .int (plc st j)])) ⟨same_new nD, [], upd_same, rfl, fun j T h => by simp at h⟩ (fun k H' _ y => .inl (.inl (y.1 _ _ eo))) (fun k v H2 H3 hk y z => ?_) (fun H2 y => ?_)⟩
    · obtain ⟨s2, Us, eD, lu, hU⟩ := y
      obtain ⟨rfl, gv⟩ := z
      obtain ⟨p, ep, rfl⟩ := mapGet gv
      have hk' : k < st.length := by simpa using hk
      have epk : plc st k = p := by
        rw [plc_get hk']
        rw [List.getElem?_eq_getElem hk'] at ep
        exact Option.some.inj ep
      refine ⟨wipe_one, _, rfl, _, rfl, (show 2 ≤ sizeLine by decide), fun g ng => ?_⟩
      have sg' := same_new (o := HO.tup [V.int p, V.int p]) ng
      have eD' := sg' _ _ eD
      have kU : Keep (upd H3 g (.tup [V.int p, V.int p])) (upd (upd H3 g (.tup [V.int p, V.int p])) D (.lst (Us.map V.ref ++ [.ref g]))) := .upd eD'
      refine ⟨_, eD', by rw [List.length_map]; exact small1000 (by omega), same_over (s2.trans sg') nD, Us ++ [g], by rw [upd_same, List.map_append]; rfl, by rw [List.length_append, lu]; rfl, fun j T hT => ?_⟩
      rcases Nat.lt_or_ge j Us.length with h | h
      · rw [List.getElem?_append_left h] at hT
        exact kU.tup (sg' _ _ (hU j T hT))
      · have ej : j = k := by
          have := (List.getElem?_eq_some_iff.mp hT).1
          rw [List.length_append] at this
          simp at this
          omega
        subst ej
        rw [List.getElem?_append_right h, lu, Nat.sub_self] at hT
        cases hT
        rw [epk]
        exact kU.tup upd_same
    · obtain ⟨s2, Us, eD, lu, hU⟩ := y
      rw [List.length_map] at lu
      obtain ⟨lo', hi', R⟩ := rw_ex c st st
      refine ⟨t, O, W, D, ls, tops, st, st, lo', hi', rfl, s2 _ _ et, hC.same s2, c, l12, ⟨Us, .inr eD, by omega, hU⟩, R, fun H3 g s3 hB => ?_⟩
      obtain ⟨Ts, eg, lT, hT⟩ := hB
      have lo12 : lo'.length = tops.length := R.ll
      refine ⟨_, rfl, g, rfl, ⟨_, .inl (.inl eg)⟩, fun E nE => lc_it (walk_tup (xs := Ts.map V.ref)) (fun k H' => Same H3 H' ∧ H' E = some (.lst ((lo'.take k).map V.int))) ⟨same_new nE, upd_same⟩ (fun k H' _ y => .inl (.inl (y.1 _ _ eg))) (fun k v H4 H5 hk y z => ?_) (fun H4 y => ?_)⟩
      · obtain ⟨s4, eE⟩ := y
        obtain ⟨rfl, gv⟩ := z
        obtain ⟨T, eT, rfl⟩ := mapGet gv
        have hk' : k < lo'.length := by
          rw [← lT]
          simpa using hk
        refine ⟨T, _, rfl, .inl (.inl (s4 _ _ (hT k T eT))), rfl, _, _, rfl, _, _, rfl, rfl, wipe_two (m := "_law_low") (n := "_law_high"), _, rfl, _, eE, by rw [List.length_map, List.length_take]; exact small1000 (by omega), same_over s4 nE, ?_⟩
        rw [upd_same, List.take_add_one, List.getElem?_eq_getElem hk', plc_get hk']
        simp only [List.map_append, Option.toList_some, List.map_cons, List.map_nil]
      · obtain ⟨s4, eE⟩ := y
        rw [List.length_map, lT, List.take_length] at eE
        refine ⟨E, _, rfl, .inl ⟨.inl (.inl eE), fun g' ng' => ?_⟩⟩
        refine q _ g' lo' ((s2.trans s3).trans (s4.trans (same_new ng'))) upd_same ⟨R.ll, fun i hi => ?_⟩
        have := R.lo i hi
        unfold plc at this
        rw [this]
        unfold plx
        cases fl ls i <;> rfl
def spRul (K : PySem.W.Frag) : Sp := fun vs H Q _ => ∃ (p t O W R : Addr) (ls : List (Int × Int)) (tops : List Int) (rs : List Rl) (c : Nat), vs = [.ref p, .ref t, .ref O, .ref W, .ref R] ∧ PotAt H p c ∧ O ≠ p ∧ W ≠ p ∧ H t = some (.tup (tops.map V.int)) ∧ CalAt H O W ls ∧ Cal tops.length ls ∧ RulesAt H R rs ∧ rs.length ≤ 9 ∧ (∀ q ∈ rs, RuleOk tops q) ∧ c < 600000 ∧
  ∀ H' g rs', But p H H' → PotAt H' p (c + 200) → RulesAt H' g rs' → rs'.length ≤ 12 → RlLed ls tops rs rs' → Q (.ref g) H'
abbrev a__law_rules_led : Stmt := topS 64
abbrev n__law_rules_led : List Str := ["_law_pot_here", "_law_tops", "_law_order", "_law_flips", "_law_rules_here", "_law_found", "_law_rule", "_law_one", "_law_two", "_law_side"]
theorem sc__law_rules_led : FnScope n__law_rules_led ["_law_pot_here", "_law_tops", "_law_order", "_law_flips", "_law_rules_here"] (defScope a__law_rules_led) := ⟨rfl, rfl, rfl, by decide +kernel, rfl, by decide +kernel, by decide +kernel⟩
set_option maxHeartbeats 8000000 in
theorem ok__law_rules_led {f fTa fTu fSl : Addr} {fd fdTa fdTu fdSl : FuncData} {k : Nat}  (F : Fun K "_law_rules_led" "_law_rules_led" a__law_rules_led f fd) (Ta : Kn P w K mg base 1 "_law_take" ["_law_pot_here", "_law_many"] spTake fTa fdTa) (Tu : Kn P w K mg base 2 "_law_turned" ["_law_pot_here", "_law_some"] (spTu K) fTu fdTu) (Sl : Kn P w K mg base 2 "_law_side_led" ["_law_tops", "_law_order", "_law_flips", "_law_side"] spSl fSl fdSl)  (m_list : mg "list" = none) (m_tuple : mg "tuple" = none) : FnOk P w K mg base CX0 (k + 4) f fd ["_law_pot_here", "_law_tops", "_law_order", "_law_flips", "_law_rules_here"] (spRul K) := by
  refine F.ok sc__law_rules_led (fun vs H Q E h => ?_) (fun cdv A outer s H vs Q E hr h => ?_)
  · obtain ⟨p, t, O, W, R, ls, tops, rs, c, rfl, _⟩ := h
    rfl
  · obtain ⟨p, t, O, W, R, ls, tops, rs, c, rfl, pp, nO, nW, et, hC, cal, hR, l9, rok, hc, q⟩ := h
    refine ⟨_, (pss_cons (ps_set (i := 5) sc__law_rules_led.nd rfl (.inl rfl) (pe_lst pa_nil))
      (pss_cons (ps_for PassesOwn.never rfl (pi_list (pe_kn Tu hr (by omega) (pa_cons (pv 0) (pa_cons (pe_op op_cat (pe_callTy call_list_of (by rfl) m_list (by decide +kernel) (pa_cons (pv 4) pa_nil)) (pe_callTy call_list_of (by rfl) m_list (by decide +kernel) (pa_cons (pe_slice (r := rSlA K) sl_tupA (pv 4) po_none (po_some (pe_kn Ta hr (by omega) (pa_cons (pv 0) (pa_cons pe_int pa_nil))))) pa_nil))) pa_nil)))) (pg_name (i := 6) sc__law_rules_led.nd rfl (.inl rfl))
        (pss_cons (ps_asg (
        pe_lc (own := [("_law_side", 9)]) (g := (gName 9)) (tt := tYes) (te := (tCall spSl [] E0 (tCons (tVar 1) (tCons (tVar 2) (tCons (tVar 3) (tCons (tVar 9) tNil)))))) rfl sc__law_rules_led.nd (pi_tup (pv 6)) (blkOk_by (N := n__law_rules_led) (sc := defScope a__law_rules_led) (by decide +kernel))
          (fun _ _ _ _ _ => (pg_name (i := 9) sc__law_rules_led.nd rfl (.inl rfl) (hf := .inr rfl))) (fun _ _ _ _ _ => pts_nil) (fun _ _ _ _ _ => (pe_kn Sl hr (by omega) (pa_cons (pv 1) (pa_cons (pv 2) (pa_cons (pv 3) (pa_cons (pv 9) pa_nil))))))) (pg_lst rfl (pgs_cons (pg_name (i := 7) sc__law_rules_led.nd rfl (.inl rfl)) (pgs_cons (pg_name (i := 8) sc__law_rules_led.nd rfl (.inl rfl)) pgs_nil))))
      (pss_one (ps_expr (pe_bm PySem.F.plainAttrs_list PySem.F.slot_list_append PySem.F.type_list_append mt_append (pv 5) (pa_cons (pe_ifExp (pt_cmpR op_eq (pe_kn Ta hr (by omega) (pa_cons (pv 0) (pa_cons pe_int pa_nil))) pe_int (nomark _)) (pe_tup (pa_cons (pv 8) (pa_cons (pv 7) pa_nil))) (pe_tup (pa_cons (pv 7) (pa_cons (pv 8) pa_nil)))) pa_nil))))))
      (pss_one (ps_ret (pe_callTy call_tuple_of (by rfl) m_tuple (by decide +kernel) (pa_cons (pv 5) pa_nil)))))), ?_⟩
    obtain ⟨Z0, eR, eZ, hZ⟩ := hR.rls
    have lZ : Z0.length = rs.length := by rw [← eZ, List.length_map]
    refine ⟨Nat.zero_le _, fun F nF => ?_⟩
    have sF := same_new (o := HO.lst []) nF
    have nFp := pp.ne nF
    refine ⟨_, rfl, _, rfl, R, _, rfl, .inr (.inl (.inl (sF _ _ eR))), fun A nA => ?_⟩
    have sA := sF.trans (same_new (o := HO.lst (rlR Z0)) nA)
    refine ⟨_, rfl, ?_⟩
    show tNoPart _ _ _
    unfold tNoPart
    refine ⟨_, rfl, p, 4, c, rfl, pp.keep sA, by decide, by decide, by omega, fun d H1 b1 p1 d0 d1 => ?_⟩
    obtain ⟨d, rfl⟩ : ∃ m : Nat, d = m := ⟨d.toNat, by omega⟩
    have k1 := Keep.but b1 (pp.keep sA)
    have hR1 := (hR.keep (.same sA)).keep k1
    have nAp := (pp.keep sF).ne nA
    have eA1 : H1 A = some (.lst (rlR Z0)) := b1 _ _ nAp upd_same
    have eF1 : H1 F = some (.lst []) := b1 _ _ nFp (same_new nA _ _ upd_same)
    have b01 : But p H H1 := (But.of sA).trans b1
    refine ⟨_, rfl, rules_cut hR1 d fun R2 H2 s2 hR2 => ?_⟩
    obtain ⟨Z2, eR2, eZ2, hZ2⟩ := hR2.rls
    have lZ2 : Z2.length ≤ 3 := by
      have := congrArg List.length eZ2
      rw [List.length_map, List.length_take] at this
      omega
    refine ⟨R2, _, rfl, .inr (.inl (.inl eR2)), fun A2 nA2 => ?_⟩
    have s2A := s2.trans (same_new (o := HO.lst (rlR Z2)) nA2)
    refine ⟨A, A2, _, _, rfl, rfl, s2A _ _ eA1, upd_same, by rw [List.length_map, List.length_map]; exact Nat.le_of_lt (small1000 (by omega)), fun A3 nA3 => ?_⟩
    have s3 := s2A.trans (same_new (o := HO.lst (rlR Z0 ++ rlR Z2)) nA3)
    have eA3 : (upd (upd H2 A2 (.lst (rlR Z2))) A3 (.lst (rlR Z0 ++ rlR Z2))) A3 = some (.lst (rlR (Z0 ++ Z2))) := by
      rw [upd_same]
      simp only [List.map_append]
    have hZall : RlsL (upd (upd H2 A2 (.lst (rlR Z2))) A3 (.lst (rlR Z0 ++ rlR Z2))) (Z0 ++ Z2) := fun z hz => by
      rcases List.mem_append.mp hz with h | h
      · exact ((hZ.keep (((Keep.same sA).trans k1).trans (.same s3))) z h)
      · exact (hZ2.keep (.same ((same_new (o := HO.lst (rlR Z2)) nA2).trans (same_new (o := HO.lst (rlR Z0 ++ rlR Z2)) nA3)))) z h
    have inR : ∀ z ∈ Z0 ++ Z2, z.2 ∈ rs := fun z hz => by
      rcases List.mem_append.mp hz with h | h
      · rw [← eZ]
        exact List.mem_map.mpr ⟨z, h, rfl⟩
      · have : z.2 ∈ rs.take d := by
          rw [← eZ2]
          exact List.mem_map.mpr ⟨z, h, rfl⟩
        exact List.mem_of_mem_take this
    have covR : ∀ x ∈ rs, ∃ z ∈ Z0 ++ Z2, z.2 = x := fun x hx => by
      rw [← eZ] at hx
      obtain ⟨z, hz, e⟩ := List.mem_map.mp hx
      exact ⟨z, List.mem_append_left _ hz, e⟩
    have lall : (Z0 ++ Z2).length ≤ 12 := by
      rw [List.length_append]
      omega
    have eF3 := s3 _ _ eF1
    have b03 := b01.trans (But.of s3)
    have p3 := p1.keep s3
    generalize (upd (upd H2 A2 (.lst (rlR Z2))) A3 (.lst (rlR Z0 ++ rlR Z2))) = H3 at eA3 hZall eF3 b03 p3 ⊢
    generalize Z0 ++ Z2 = Z at eA3 hZall inR covR lall
    refine ⟨p, A3, rlR Z, _, rfl, p3, eA3, by rw [List.length_map]; omega, by omega, fun ys hys _ H' k' => ?_, fun H4 G ys b4 p4 nG nGp eG pm => ?_⟩
    · obtain ⟨Y, rfl, hY⟩ := rls_of Z ys hys
      refine ⟨_, dp_rls (fun z hz => (hZall z (hY z hz)).keep k'), shapedR _⟩
    obtain ⟨Y, rfl, hY⟩ := rls_of Z ys fun v hv => pm.mem_iff.mp hv
    have lY : Y.length ≤ 12 := by
      have := pm.length_eq
      rw [List.length_map, List.length_map] at this
      omega
    have covY : ∀ x ∈ rs, ∃ z ∈ Y, RuleAt H3 z.1 x ∧ True := fun x hx => by
      obtain ⟨z, hz, e⟩ := covR x hx
      have : V.ref z.1 ∈ rlR Y := pm.mem_iff.mpr (List.mem_map.mpr ⟨z, hz, rfl⟩)
      obtain ⟨y, hy, ey⟩ := List.mem_map.mp this
      refine ⟨y, hy, ?_, trivial⟩
      have ea : y.1 = z.1 := by injection ey
      rw [ea, ← e]
      exact hZall z hz
    have k34 := Keep.but b4 p3
    have hY4 : RlsL H4 Y := fun z hz => (hZall z (hY z hz)).keep k34
    have eF4 := b4 _ _ nFp eF3
    have b04 := b03.trans b4
    have k04 := Keep.but b04 pp
    have nFG : F ≠ G := fun z => by
      rw [z, nG] at eF3
      cases eF3
    have nHF : H F = none := nF
    have hCk : ∀ {H'}, But p H H' → CalAt H' O W ls := fun b => ⟨b _ _ nO hC.eO, b _ _ nW hC.eW⟩
    refine ⟨G, rfl, ⟨_, .inl (.inl eG)⟩, for_it (walk_list (xs := rlR Y)) (fun k σ H' => (∃ u6 u7 u8 u9, σ = [some (V.ref p), some (.ref t), some (.ref O), some (.ref W), some (.ref R), some (.ref F), u6, u7, u8, u9]) ∧ But p H H' ∧ PotAt H' p (c + 101 + k) ∧ H' G = some (.lst (rlR Y)) ∧ RlsL H' Y ∧ ∃ X : List (Addr × Rl), H' F = some (.lst (rlR X)) ∧ RlsL H' X ∧ X.length = k ∧ (∀ z ∈ Y.take k, ∃ x ∈ X, x.2 = qx ls tops z.2 ∨ x.2 = ((qx ls tops z.2).2, (qx ls tops z.2).1)) ∧ ∀ x ∈ X, ∃ z ∈ Y, x.2 = qx ls tops z.2 ∨ x.2 = ((qx ls tops z.2).2, (qx ls tops z.2).1))
      ⟨⟨_, _, _, _, rfl⟩, b04, p4.mono (by omega), eG, hY4, [], eF4, fun _ h => absurd h List.not_mem_nil, rfl, fun z hz => absurd hz (by rw [List.take_zero]; exact List.not_mem_nil), fun _ h => absurd h List.not_mem_nil⟩ (fun k σ H' _ y => .inl (.inl y.2.2.2.1)) (fun k v σ H5 H6 hk y z => ?_) (fun σ H5 y => ?_)⟩
    · obtain ⟨⟨u6, u7, u8, u9, rfl⟩, b5, p5, eG5, hY5, X, eF5, hX, lX, cov, inX⟩ := y
      obtain ⟨rfl, gv⟩ := z
      obtain ⟨z, ez, rfl⟩ := mapGet gv
      have mz := List.mem_of_getElem? ez
      have hk' : k < Y.length := by simpa using hk
      obtain ⟨a1, a2, ezz, h1, h2⟩ := hY5 z mz
      have okz := rok _ (inR z (hY z mz))
      have hC5 := hCk b5
      have et5 := (Keep.but b5 pp).tup et
      dsimp only [List.set]
      refine ⟨_, rfl, z.1, rfl, ⟨_, .inl (.inl ezz)⟩, fun D nD => lc_it (walk_tup (xs := [a1, a2].map V.ref)) (fun j H' => Same H6 H' ∧ ∃ gs : List (Addr × Sd), H' D = some (.lst (gs.map fun y => V.ref y.1)) ∧ (∀ y ∈ gs, SideAt H' y.1 y.2) ∧ gs.map (·.2) = ([sdx ls tops z.2.1, sdx ls tops z.2.2]).take j) ⟨same_new nD, [], upd_same, fun _ h => absurd h List.not_mem_nil, rfl⟩ (fun j H' _ y => .inl (.inl (y.1 _ _ ezz))) (fun j v H7 H8 hj y z' => ?_) (fun H7 y => ?_)⟩
      · obtain ⟨s7, gs, eD, hgs, egs⟩ := y
        obtain ⟨rfl, gv'⟩ := z'
        obtain ⟨a, ea, rfl⟩ := mapGet gv'
        obtain ⟨sd, esd, hsd, okd⟩ : ∃ sd, ([sdx ls tops z.2.1, sdx ls tops z.2.2])[j]? = some (sdx ls tops sd) ∧ SideAt H8 a sd ∧ sd.1 < tops.length := by
          have : j = 0 ∨ j = 1 := by
            have : j < 2 := hj
            omega
          rcases this with rfl | rfl
          · cases ea
            exact ⟨z.2.1, rfl, h1.keep (.same s7), okz.1.lt⟩
          · cases ea
            exact ⟨z.2.2, rfl, h2.keep (.same s7), okz.2.lt⟩
        refine ⟨wipe_one, _, rfl, _, rfl, _, rfl, _, rfl, t, O, W, a, ls, tops, sd, rfl, s7 _ _ et5, hC5.same s7, cal, hsd, okd, fun H9 g s9 hg => ?_⟩
        have eD9 := s9 _ _ eD
        have kU : Keep H9 (upd H9 D (.lst ((gs.map fun y => V.ref y.1) ++ [.ref g]))) := .upd eD9
        have lgs : gs.length ≤ 2 := by
          have := congrArg List.length egs
          rw [List.length_map, List.length_take] at this
          simp at this
          omega
        refine ⟨_, eD9, by rw [List.length_map]; exact small1000 (by omega), same_over (s7.trans s9) nD, gs ++ [(g, sdx ls tops sd)], by rw [upd_same, List.map_append]; rfl, fun y hy => ?_, by rw [List.map_append, egs, List.take_add_one, esd]; rfl⟩
        rcases List.mem_append.mp hy with h | h
        · exact ((hgs y h).keep (.same s9)).keep kU
        · rw [List.mem_singleton.mp h]
          exact hg.keep kU
      · obtain ⟨s7, gs, eD, hgs, egs⟩ := y
        obtain ⟨g1, g2, rfl, hg1, hg2⟩ : ∃ g1 g2 : Addr, gs = [(g1, sdx ls tops z.2.1), (g2, sdx ls tops z.2.2)] ∧ SideAt H7 g1 (sdx ls tops z.2.1) ∧ SideAt H7 g2 (sdx ls tops z.2.2) := by
          have egs' : gs.map (·.2) = [sdx ls tops z.2.1, sdx ls tops z.2.2] := egs
          have l2 : gs.length = 2 := by
            have := congrArg List.length egs'
            rw [List.length_map] at this
            exact this
          match gs, l2, egs', hgs with
          | [y1, y2], _, e, h =>
            have e1 : y1.2 = sdx ls tops z.2.1 := by
              have := congrArg (·[0]?) e
              exact Option.some.inj this
            have e2 : y2.2 = sdx ls tops z.2.2 := by
              have := congrArg (·[1]?) e
              exact Option.some.inj this
            refine ⟨y1.1, y2.1, by rw [← e1, ← e2], ?_, ?_⟩
            · rw [← e1]
              exact h y1 (by simp)
            · rw [← e2]
              exact h y2 (by simp)
        refine ⟨D, _, rfl, .inl (.inl eD), rfl, _, _, rfl, _, _, rfl, rfl, ?_⟩
        dsimp only [List.set]
        have b7 := b5.trans (But.of s7)
        have p7 := p5.keep s7
        refine ⟨_, rfl, .inl ⟨rfl, _, .inl (.inl (s7 _ _ eF5))⟩, _, rfl, p, 2, _, rfl, p7, by decide, by decide, by omega, fun e H8 b8 p8 e0 e1 => ⟨rfl, _, rfl, ?_⟩⟩
        have b08 := b7.trans b8
        have k58 := (Keep.same s7).trans (Keep.but b8 p7)
        have eF8 := b8 _ _ nFp (s7 _ _ eF5)
        have nGp' : G ≠ p := nGp
        have eG8 := b8 _ _ nGp' (s7 _ _ eG5)
        have hg1' := hg1.keep (Keep.but b8 p7)
        have hg2' := hg2.keep (Keep.but b8 p7)
        have fin : ∀ (x y : Addr) (r : Rl), SideAt H8 x r.1 → SideAt H8 y r.2 → (r = qx ls tops z.2 ∨ r = ((qx ls tops z.2).2, (qx ls tops z.2).1)) → ∀ g : Addr, H8 g = none → But p H (upd (upd H8 g (.tup [.ref x, .ref y])) F (.lst (rlR X ++ [.ref g]))) ∧ PotAt (upd (upd H8 g (.tup [.ref x, .ref y])) F (.lst (rlR X ++ [.ref g]))) p (c + 101 + (k + 1)) ∧ (upd (upd H8 g (.tup [.ref x, .ref y])) F (.lst (rlR X ++ [.ref g]))) G = some (.lst (rlR Y)) ∧ RlsL (upd (upd H8 g (.tup [.ref x, .ref y])) F (.lst (rlR X ++ [.ref g]))) Y ∧ ∃ X' : List (Addr × Rl), (upd (upd H8 g (.tup [.ref x, .ref y])) F (.lst (rlR X ++ [.ref g]))) F = some (.lst (rlR X')) ∧ RlsL (upd (upd H8 g (.tup [.ref x, .ref y])) F (.lst (rlR X ++ [.ref g]))) X' ∧ X'.length = k + 1 ∧ (∀ z ∈ Y.take (k + 1), ∃ x ∈ X', x.2 = qx ls tops z.2 ∨ x.2 = ((qx ls tops z.2).2, (qx ls tops z.2).1)) ∧ ∀ x ∈ X', ∃ z ∈ Y, x.2 = qx ls tops z.2 ∨ x.2 = ((qx ls tops z.2).2, (qx ls tops z.2).1) := fun x y r hx hy er g ng => by
          have sg' := same_new (o := HO.tup [V.ref x, V.ref y]) ng
          have kU : Keep (upd H8 g (.tup [.ref x, .ref y])) (upd (upd H8 g (.tup [.ref x, .ref y])) F (.lst (rlR X ++ [.ref g]))) := .upd (sg' _ _ eF8)
          have kk := (k58.trans (.same sg')).trans kU
          refine ⟨but_new (b08.trans (But.of sg')) nHF, (pot_upd (p8.keep sg') nFp).mono (by omega), ?_, fun z' hz' => (hY5 z' hz').keep kk, X ++ [(g, r)], by rw [upd_same]; simp only [List.map_append]; rfl, fun z' hz' => ?_, by rw [List.length_append, lX]; rfl, fun z' hz' => ?_, fun x' hx' => ?_⟩
          · rw [upd_ne (Ne.symm nFG)]
            exact sg' _ _ eG8
          · rcases List.mem_append.mp hz' with h | h
            · exact (hX z' h).keep kk
            · rw [List.mem_singleton.mp h]
              exact ⟨x, y, kU.tup upd_same, (hx.keep (.same sg')).keep kU, (hy.keep (.same sg')).keep kU⟩
          · rw [List.take_add_one, ez] at hz'
            rcases List.mem_append.mp hz' with h | h
            · obtain ⟨x', hx', e'⟩ := cov z' h
              exact ⟨x', List.mem_append_left _ hx', e'⟩
            · have e' : z' = z := by simpa using h
              rw [e']
              exact ⟨(g, r), List.mem_append_right _ (List.mem_singleton.mpr rfl), er⟩
          · rcases List.mem_append.mp hx' with h | h
            · exact inX x' h
            · rw [List.mem_singleton.mp h]
              exact ⟨z, mz, er⟩
        have w2 : (2 : Nat) ≤ sizeLine := by decide
        refine ite2 (fun _ => ⟨_, rfl, _, rfl, w2, fun g ng => ?_⟩) (fun _ => ⟨_, rfl, _, rfl, w2, fun g ng => ?_⟩)
        · have sg' := same_new (o := HO.tup [V.ref g2, V.ref g1]) ng
          exact ⟨F, _, _, rfl, rfl, sg' _ _ eF8, by rw [List.length_map]; exact small1000 (by omega), ⟨_, _, _, _, rfl⟩, fin g2 g1 ((qx ls tops z.2).2, (qx ls tops z.2).1) hg2' hg1' (.inr rfl) g ng⟩
        · have sg' := same_new (o := HO.tup [V.ref g1, V.ref g2]) ng
          exact ⟨F, _, _, rfl, rfl, sg' _ _ eF8, by rw [List.length_map]; exact small1000 (by omega), ⟨_, _, _, _, rfl⟩, fin g1 g2 (qx ls tops z.2) hg1' hg2' (.inl rfl) g ng⟩
    · obtain ⟨⟨u6, u7, u8, u9, rfl⟩, b5, p5, eG5, hY5, X, eF5, hX, lX, cov, inX⟩ := y
      rw [List.length_map] at cov lX p5
      rw [List.take_length] at cov
      refine ⟨_, rfl, F, _, rfl, .inl ⟨.inl (.inl eF5), fun g ng => ?_⟩⟩
      have sg' := same_new (o := HO.tup (rlR X)) ng
      refine q _ g (X.map (·.2)) (b5.trans (But.of sg')) ((p5.keep sg').mono (by omega)) (RulesAt.of_rls upd_same (hX.keep (.same sg'))) (by rw [List.length_map]; omega) ⟨fun x hx => ?_, fun x hx => ?_⟩
      · obtain ⟨z, hz, hr', _⟩ := covY x hx
        have ex : z.2 = x := rule_one (hZall z (hY z hz)) hr'
        obtain ⟨x', hx', e'⟩ := cov z hz
        rw [ex] at e'
        exact ⟨x'.2, List.mem_map.mpr ⟨x', hx', rfl⟩, e'⟩
      · obtain ⟨y, hy, rfl⟩ := List.mem_map.mp hx
        obtain ⟨z, hz, e'⟩ := inX y hy
        exact ⟨z.2, inR z (hY z hz), e'⟩
end
end K19

set_option Elab.async false
set_option linter.all false
set_option maxRecDepth 100000
namespace K19
open PySem PySem.Spec PyProof.Rows L2 NB

/-! ### bounds as data -/
def bdD (ls ms : List Int) (n j : Nat) : List PyData := (List.range' j n).map fun i => .tuple [.int (plc ls i), .int (plc ms i)]
theorem bdB_dp {K : PySem.W.Frag} {H : Hp} {ls ms : List Int} : ∀ (Us : List Addr) (j : Nat), (∀ (i : Nat) (T : Addr), Us[i]? = some T → H T = some (.tup [.int (plc ls (j + i)), .int (plc ms (j + i))])) → DpAll K H (Us.map V.ref) (bdD ls ms Us.length j)
  | [], _, _ => .nil
  | U :: Us, j, h => by
    have ih := bdB_dp (K := K) (H := H) (ls := ls) (ms := ms) Us (j + 1) fun i T e => by
      have := h (i + 1) T (by rw [List.getElem?_cons_succ]; exact e)
      rw [show j + 1 + i = j + (i + 1) by omega]
      exact this
    exact .cons (.tup (.inl (.inl (h 0 U rfl))) (.cons (.int _) (.cons (.int _) .nil))) ih
theorem bnd_dpB {K : PySem.W.Frag} {H : Hp} {p : Addr} {ls ms : List Int} (h : BndAt H p ls ms) : Dp K H (.ref p) (.tuple (bdD ls ms ls.length 0)) := by
  obtain ⟨Us, ep, lU, aU⟩ := h
  rw [← lU]
  exact .tup (.inl (.inl ep)) (bdB_dp Us 0 fun i T e => by rw [Nat.zero_add]; exact aU i T e)
theorem small_bdB {ls ms : List Int} : ∀ (n j : Nat), (∀ i, i < j + n → (plc ls i).natAbs < 10 ^ 90 ∧ (plc ms i).natAbs < 10 ^ 90) → SmallAll (bdD ls ms n j) (700 * n) 1
  | 0, _, _ => ⟨rfl, rfl, Nat.zero_le _, rfl, Nat.le_refl _⟩
  | n + 1, j, h => by
    have a := h j (by omega)
    have c := SmallAll.cons (Small.tuple (SmallAll.ints (xs := [plc ls j, plc ms j]) fun x hx => by
      rcases List.mem_cons.mp hx with rfl | hx
      · exact a.1
      · rw [List.mem_singleton.mp hx]
        exact a.2)) (small_bdB n (j + 1) fun i hi => h i (by omega))
    refine ⟨c.sh, c.nd, Nat.le_trans c.dp (by decide), c.lv, Nat.le_trans c.wt ?_⟩
    simp only [List.length_cons, List.length_nil]
    omega
theorem Fol.small {tops : List Int} {rs : List Rl} {S : Sd → Prop} {a b : List Int} (rok : ∀ q ∈ rs, RuleOk tops q) (hS : ∀ s, S s → SideOk tops s) (pl : Pl tops) (F : Fol tops rs S a b) : ∀ i, i < tops.length → (plc a i).natAbs < 10 ^ 90 ∧ (plc b i).natAbs < 10 ^ 90 := fun i hi => by
  have bt := pl _ (List.getElem_mem hi)
  rw [← plc_get hi] at bt
  have := F.lz i hi
  have := F.hz i hi
  have h1 : plc a i ≤ plc tops i := by
    rcases F.l0 i hi with e | r
    · omega
    · exact (r.ok rok hS).bd.2
  have h2 : 0 ≤ plc b i := by
    rcases F.h0 i hi with e | r
    · omega
    · exact (r.ok rok hS).bd.1
  have big : (10 : Int) ^ 30 < 10 ^ 90 := by decide
  have c : ((10 : Nat) ^ 90 : Int) = ((10 : Int) ^ 90) := by decide
  omega
theorem show_bdB {tops : List Int} {rs : List Rl} {S : Sd → Prop} {a b : List Int} (rok : ∀ q ∈ rs, RuleOk tops q) (hS : ∀ s, S s → SideOk tops s) (pl : Pl tops) (F : Fol tops rs S a b) (l12 : tops.length ≤ 12) : Showable (.tuple (bdD a b a.length 0)) :=
  (Small.tuple (small_bdB a.length 0 fun i hi => F.small rok hS pl i (by have := F.ll; omega))).ok (by rw [F.ll]; omega) (by decide)

/-! ### rows as data -/
theorem perm_map_ex {α β : Type} {f : α → β} {ys zs : List β} (h : ys.Perm zs) : ∀ fs : List α, zs = fs.map f → ∃ ps : List α, ps.Perm fs ∧ ys = ps.map f := by
  induction h with
  | nil =>
    intro fs e
    cases fs with
    | nil => exact ⟨[], .nil, rfl⟩
    | cons a b => cases e
  | cons x h ih =>
    intro fs e
    cases fs with
    | nil => cases e
    | cons a fs =>
      obtain ⟨e1, e2⟩ := List.cons.inj e
      obtain ⟨ps, p, q⟩ := ih fs e2
      exact ⟨a :: ps, p.cons a, by rw [List.map_cons, ← q, e1]⟩
  | swap x y l =>
    intro fs e
    cases fs with
    | nil => cases e
    | cons a fs =>
      cases fs with
      | nil => cases (List.cons.inj e).2
      | cons b fs =>
        obtain ⟨e1, e2⟩ := List.cons.inj e
        obtain ⟨e3, e4⟩ := List.cons.inj e2
        exact ⟨b :: a :: fs, .swap a b fs, by rw [List.map_cons, List.map_cons, e1, e3, e4]⟩
  | trans _ _ ih1 ih2 =>
    intro fs e
    obtain ⟨ps, p, q⟩ := ih2 fs e
    obtain ⟨ps', p', q'⟩ := ih1 ps q
    exact ⟨ps', p'.trans p, q'⟩
theorem show_st {st : List Int} (l12 : st.length ≤ 12) (pl : Pl st) : Showable (.tuple (st.map PyData.int)) :=
  (Small.tuple (SmallAll.ints (xs := st) fun x hx => by
    have := pl x hx
    have : (10 : Nat) ^ 30 < 10 ^ 90 := by decide
    omega)).ok (by omega) (by decide)

theorem Nrst.uniq {tops : List Int} {rs : List Rl} {W : List Sd} {st n m : List Int} (a : Nrst tops rs W st n) (b : Nrst tops rs W st m) : n = m := by
  refine plc_ext (by rw [goods_len a.good, goods_len b.good]) fun i hi => ?_
  have li : i < tops.length := by rw [← goods_len a.good]; exact hi
  have h1 := a.btw m b.good b.has i li
  have h2 := b.btw n a.good a.has i li
  unfold Btw at h1 h2
  omega

/-! ### wants: follows, bounds and nearest of both plans -/
structure W19 (K : PySem.W.Frag) (C : Addr) (H : Hp) (x x' O W : Addr) (ls : List (Int × Int)) (tops tops' : List Int) (rs rs' : List Rl) : Prop where
  hp : PlanAt C H x tops rs
  hp' : PlanAt C H x' tops' rs'
  cl : Cld ls tops tops' rs rs'
  cal : CalAt H O W ls
  l40 : rs.length ≤ 40
  l40' : rs'.length ≤ 40
  l12 : tops.length ≤ 12
  plt : Pl tops
theorem W19.same {K : PySem.W.Frag} {C : Addr} {H H' : Hp} {x x' O W : Addr} {ls : List (Int × Int)} {tops tops' : List Int} {rs rs' : List Rl} (h : W19 K C H x x' O W ls tops tops' rs rs') (s : Same H H') : W19 K C H' x x' O W ls tops tops' rs rs' := ⟨h.hp.keep (.same s), h.hp'.keep (.same s), h.cl, h.cal.same s, h.l40, h.l40', h.l12, h.plt⟩
theorem W19.pl {K : PySem.W.Frag} {C : Addr} {H : Hp} {x x' O W : Addr} {ls : List (Int × Int)} {tops tops' : List Int} {rs rs' : List Rl} (h : W19 K C H x x' O W ls tops tops' rs rs') : ∀ i, i < tops.length → 0 ≤ plc tops i := fun i hi => by
  rw [plc_get hi]
  exact (h.plt _ (List.getElem_mem hi)).1
theorem W19.plt' {K : PySem.W.Frag} {C : Addr} {H : Hp} {x x' O W : Addr} {ls : List (Int × Int)} {tops tops' : List Int} {rs rs' : List Rl} (h : W19 K C H x x' O W ls tops tops' rs rs') : Pl tops' := fun v hv => by
  obtain ⟨j, hj, rfl⟩ := List.getElem_of_mem hv
  obtain ⟨i, hi, e⟩ := h.cl.c.ex (by rw [← h.cl.tl]; exact hj)
  have := h.cl.tp i hi
  rw [e, plc_get hj, plc_get hi] at this
  rw [this]
  exact h.plt _ (List.getElem_mem hi)
theorem rows_in {H : Hp} {p : Addr} {n : Nat} {lo hi : List Int} (h : BndAt H p lo hi) (l : lo.length = n) : RowsIn H p n lo hi := by
  obtain ⟨Us, e, lu, hU⟩ := h
  exact ⟨Us, .inl e, by omega, hU⟩
theorem sds_keep {H H' : Hp} {L : List (Addr × Sd)} (h : SdsAt H L) (s : Same H H') : SdsAt H' L := h.keep (.same s)
theorem str_ne {σ : Prop} {a : Str} {A B : Prop} (h : B) : if (!decide (V.str a = V.str a)) = true then A else B := by
  rw [decide_eq_true rfl]
  exact h
section
variable {P : Program} {w : World} {K : PySem.W.Frag} {mg : Str → Option Value} {base : Heap}
def spWR (K : PySem.W.Frag) (C : Addr) : Sp := fun vs H Q _ => ∃ (x x' O W o g : Addr) (ls : List (Int × Int)) (tops tops' st : List Int) (rs rs' : List Rl) (Ls : List (Addr × Sd)), vs = [.ref x, .ref x', .ref O, .ref W, .ref o, .ref g] ∧ W19 K C H x x' O W ls tops tops' rs rs' ∧ H o = some (.tup (st.map V.int)) ∧ st ∈ goods tops rs ∧
  H g = some (.tup (sdR Ls)) ∧ SdsAt H Ls ∧ (∀ z ∈ Ls, SideOk tops z.2) ∧ 1 ≤ Ls.length ∧ Ls.length ≤ 3 ∧ ∀ H', Same H H' → Q (.bl true) H'
abbrev a__law_want_right : Stmt := topS 67
abbrev n__law_want_right : List Str := ["_law_plan_here", "_law_other", "_law_order", "_law_flips", "_law_standing_here", "_law_want", "_law_tops", "_law_own", "_law_told", "_law_due", "_law_near", "_law_side"]
theorem sc__law_want_right : FnScope n__law_want_right ["_law_plan_here", "_law_other", "_law_order", "_law_flips", "_law_standing_here", "_law_want"] (defScope a__law_want_right) := ⟨rfl, rfl, rfl, by decide +kernel, rfl, by decide +kernel, by decide +kernel⟩
set_option maxHeartbeats 8000000 in
theorem ok__law_want_right {f fSl fFo fRl' fBo fNe fSd' : Addr} {fd fdSl fdFo fdRl' fdBo fdNe fdSd' : FuncData}  {C : Addr} (F : Fun K "_law_want_right" "_law_want_right" a__law_want_right f fd) (Sl : Kn P w K mg base 2 "_law_side_led" ["_law_tops", "_law_order", "_law_flips", "_law_side"] spSl fSl fdSl) (Fo : Kn P w K mg base 5 "follows" ["plan", "want"] (spFol K C) fFo fdFo) (Rl' : Kn P w K mg base 2 "_law_rows_led" ["_law_tops", "_law_order", "_law_flips", "_law_rows"] spRl fRl' fdRl') (Bo : Kn P w K mg base 9 "bounds" ["plan", "want"] (spBoG K C) fBo fdBo) (Ne : Kn P w K mg base 9 "nearest" ["plan", "standing", "want"] (spNear K C) fNe fdNe) (Sd' : Kn P w K mg base 3 "_law_standing_led" ["_law_tops", "_law_order", "_law_flips", "_law_standing_here"] spStl fSd' fdSd') (TP : PlanTxt K mg C) (m_repr : mg "repr" = none) (m_tuple : mg "tuple" = none) : FnG P w K mg base 11 f fd ["_law_plan_here", "_law_other", "_law_order", "_law_flips", "_law_standing_here", "_law_want"] (spWR K C) := by
  refine fnG F sc__law_want_right (fun vs H Q E h => ?_) (fun cdv A outer s H vs Q E hG hr h => ?_)
  · obtain ⟨x, x', O, W, o, g, ls, tops, tops', st, rs, rs', Ls, rfl, _⟩ := h
    rfl
  · obtain ⟨x, x', O, W, o, g, ls, tops, tops', st, rs, rs', Ls, rfl, h19, eo, hst, eg, hL, okL, l1, l3, q⟩ := h
    refine ⟨_, (pss_cons (ps_set (i := 6) sc__law_want_right.nd rfl (.inr rfl) (pe_fld (pv 0) rfl))
      (pss_cons (ps_set (i := 7) sc__law_want_right.nd rfl (.inl rfl) (pe_callTy call_tuple_of (by rfl) m_tuple (by decide +kernel) (pa_cons (
        pe_lc (own := [("_law_side", 11)]) (g := (gName 11)) (tt := tYes) (te := (tCall spSl [] E0 (tCons (tVar 6) (tCons (tVar 2) (tCons (tVar 3) (tCons (tVar 11) tNil)))))) rfl sc__law_want_right.nd (pi_tup (pv 5)) (blkOk_by (N := n__law_want_right) (sc := defScope a__law_want_right) (by decide +kernel))
          (fun _ _ _ _ _ => (pg_name (i := 11) sc__law_want_right.nd rfl (.inl rfl) (hf := .inr rfl))) (fun _ _ _ _ _ => pts_nil) (fun _ _ _ _ _ => (pe_kn Sl hr (by omega) (pa_cons (pv 6) (pa_cons (pv 2) (pa_cons (pv 3) (pa_cons (pv 11) pa_nil))))))) pa_nil)))
      (pss_cons (ps_if (pt_cmpR op_ne (pe_callB (call_reprD hG hr.units) (by rfl) m_repr (by decide +kernel) (pa_cons (pe_kn Fo hr (by omega) (pa_cons (pv 1) (pa_cons (pv 7) pa_nil))) pa_nil)) (pe_callB (call_reprD hG hr.units) (by rfl) m_repr (by decide +kernel) (pa_cons (pe_kn Rl' hr (by omega) (pa_cons (pv 6) (pa_cons (pv 2) (pa_cons (pv 3) (pa_cons (pe_kn Fo hr (by omega) (pa_cons (pv 0) (pa_cons (pv 5) pa_nil))) pa_nil))))) pa_nil)) (nomark _)) (pss_one (ps_ret pe_bl)) pss_nil)
      (pss_cons (ps_par (i := 8) (j := 9) (by rfl) sc__law_want_right.nd rfl rfl (by decide) rfl rfl (pa_cons (pe_kn Bo hr (by omega) (pa_cons (pv 1) (pa_cons (pe_op (r := rCatA K) op_catA (pv 7) (pe_slice (r := rSlA K) sl_tupA (pv 7) po_none (po_some pe_int))) pa_nil))) (pa_cons (pe_kn Bo hr (by omega) (pa_cons (pv 0) (pa_cons (pv 5) pa_nil))) pa_nil)) (by rfl))
      (pss_cons (ps_if (pt_cmpR op_ne (pe_ix ix_tup (pv 8) pe_int (fun _ _ => rfl)) (pe_ix ix_tup (pv 9) pe_int (fun _ _ => rfl)) (nomark _)) (pss_one (ps_ret pe_bl)) pss_nil)
      (pss_cons (ps_if (pt_cmpR op_eq (pe_ix ix_tup (pv 8) pe_int (fun _ _ => rfl)) pe_str (nomark _)) (pss_one (ps_ret pe_bl)) pss_nil)
      (pss_cons (ps_if (pt_cmpR op_ne (pe_callB (call_reprD hG hr.units) (by rfl) m_repr (by decide +kernel) (pa_cons (pe_ix ix_tup (pv 8) pe_int (fun _ _ => rfl)) pa_nil)) (pe_callB (call_reprD hG hr.units) (by rfl) m_repr (by decide +kernel) (pa_cons (pe_kn Rl' hr (by omega) (pa_cons (pv 6) (pa_cons (pv 2) (pa_cons (pv 3) (pa_cons (pe_ix ix_tup (pv 9) pe_int (fun _ _ => rfl)) pa_nil))))) pa_nil)) (nomark _)) (pss_one (ps_ret pe_bl)) pss_nil)
      (pss_cons (ps_set (i := 10) sc__law_want_right.nd rfl (.inl rfl) (pe_kn Sd' hr (by omega) (pa_cons (pv 6) (pa_cons (pv 2) (pa_cons (pv 3) (pa_cons (pe_kn Ne hr (by omega) (pa_cons (pv 0) (pa_cons (pv 4) (pa_cons (pv 5) pa_nil)))) pa_nil))))))
      (pss_one (ps_ret (pe_cmpR op_eq (pe_callB (call_reprD hG hr.units) (by rfl) m_repr (by decide +kernel) (pa_cons (pe_kn Ne hr (by omega) (pa_cons (pv 1) (pa_cons (pe_kn Sd' hr (by omega) (pa_cons (pv 6) (pa_cons (pv 2) (pa_cons (pv 3) (pa_cons (pv 4) pa_nil))))) (pa_cons (pv 7) pa_nil)))) pa_nil)) (pe_callB (call_reprD hG hr.units) (by rfl) m_repr (by decide +kernel) (pa_cons (pv 10) pa_nil)) (nomark _)))))))))))), ?_⟩
    obtain ⟨dx, t, R, ex, et, hR⟩ := id h19.hp
    have K1 := h19.cl
    have c := K1.c
    have lst := goods_len hst
    have w2 : (2 : Nat) ≤ sizeLine := by decide
    refine ⟨_, rfl, x, C, dx, _, _, rfl, ex, TP.cl, TP.nT, look_tops _ _, ?_⟩
    dsimp only [List.set]
    refine ⟨_, rfl, g, rfl, ⟨_, .inl (.inl eg)⟩, fun D nD => lc_it (walk_tup (xs := sdR Ls)) (fun k H' => Same H H' ∧ ∃ gs : List (Addr × Sd), H' D = some (.lst (sdR gs)) ∧ SdsAt H' gs ∧ gs.map (·.2) = ((Ls.take k).map (·.2)).map (sdx ls tops)) ⟨same_new nD, [], upd_same, fun _ h => absurd h List.not_mem_nil, rfl⟩ (fun k H' _ y => .inl (.inl (y.1 _ _ eg))) (fun k v H2 H3 hk y z => ?_) (fun H2 y => ?_)⟩
    · obtain ⟨s2, gs, eD, hgs, egs⟩ := y
      obtain ⟨rfl, gv⟩ := z
      obtain ⟨u, eu, rfl⟩ := mapGet gv
      have mu := List.mem_of_getElem? eu
      refine ⟨wipe_one, _, rfl, _, rfl, _, rfl, _, rfl, t, O, W, u.1, ls, tops, u.2, rfl, s2 _ _ et, h19.cal.same s2, c, (hL u mu).keep (.same s2), (okL u mu).lt, fun H4 p s4 hp4 => ?_⟩
      have eD4 := s4 _ _ eD
      have kU : Keep H4 (upd H4 D (.lst (sdR gs ++ [.ref p]))) := .upd eD4
      have lgs : gs.length ≤ 3 := by
        have := congrArg List.length egs
        rw [List.length_map, List.length_map, List.length_map, List.length_take] at this
        omega
      refine ⟨_, eD4, by rw [List.length_map]; exact small1000 (by omega), same_over (s2.trans s4) nD, gs ++ [(p, sdx ls tops u.2)], by rw [upd_same]; simp only [sdR, List.map_append]; rfl, fun y hy => ?_, ?_⟩
      · rcases List.mem_append.mp hy with h | h
        · exact ((hgs y h).keep (.same s4)).keep kU
        · rw [List.mem_singleton.mp h]
          exact hp4.keep kU
      · rw [List.map_append, egs, List.take_add_one, eu]
        simp only [List.map_append, Option.toList_some, List.map_cons, List.map_nil]
    obtain ⟨s2, gs, eD, hgs, egs⟩ := y
    rw [List.length_map, List.take_length] at egs
    have lgs : gs.length = Ls.length := by
      have := congrArg List.length egs
      rw [List.length_map, List.length_map, List.length_map] at this
      exact this
    refine ⟨D, _, rfl, .inl ⟨.inl (.inl eD), fun g' ng' => ?_⟩⟩
    have s3 := s2.trans (same_new (o := HO.tup (sdR gs)) ng')
    have eg' : (upd H2 g' (.tup (sdR gs))) g' = some (.tup (sdR gs)) := upd_same
    have hgs3 := sds_keep hgs (same_new (o := HO.tup (sdR gs)) ng')
    generalize upd H2 g' (.tup (sdR gs)) = H3 at s3 eg' hgs3 ⊢
    dsimp only [List.set]
    have plt' := h19.plt'
    have l12' : tops'.length ≤ 12 := by rw [K1.tl]; exact h19.l12
    have W0 : Wnt K C H x g tops rs Ls := ⟨h19.hp, .inl (.inl eg), hL, okL, K1.rok, h19.l40, by omega, h19.l12, h19.pl⟩
    have okG : ∀ z ∈ gs, SideOk tops' z.2 := fun z hz => by
      have : z.2 ∈ (Ls.map (·.2)).map (sdx ls tops) := by
        rw [← egs]
        exact List.mem_map.mpr ⟨z, hz, rfl⟩
      obtain ⟨s, hs, e⟩ := List.mem_map.mp this
      rw [← e]
      exact K1.rok' (W0.ok s hs)
    have W1 : Wnt K C H3 x' g' tops' rs' gs := ⟨h19.hp'.keep (.same s3), .inl (.inl eg'), hgs3, okG, K1.rules, h19.l40', by omega, l12', K1.pl h19.pl⟩
    have okS : ∀ s, s ∈ Ls.map (·.2) → SideOk tops s := W0.ok
    have okS' : ∀ s, s ∈ gs.map (·.2) → SideOk tops' s := W1.ok
    have toS : ∀ s, s ∈ Ls.map (·.2) → sdx ls tops s ∈ gs.map (·.2) := fun s hs => by
      rw [egs]
      exact List.mem_map.mpr ⟨s, hs, rfl⟩
    have ofS : ∀ z, z ∈ gs.map (·.2) → ∃ s, s ∈ Ls.map (·.2) ∧ z = sdx ls tops s := fun z hz => by
      rw [egs] at hz
      obtain ⟨s, hs, e⟩ := List.mem_map.mp hz
      exact ⟨s, hs, e.symm⟩
    refine ⟨_, rfl, _, rfl, x', g', tops', rs', gs, rfl, W1, fun H4 p lo1 hi1 s4 np hB4 F4 => ?_⟩
    have s04 := s3.trans s4
    refine ⟨p, _, rfl, bnd_dpB hB4, show_bdB K1.rules okS' plt' F4 l12', ?_⟩
    refine ⟨_, rfl, _, rfl, _, rfl, _, rfl, _, rfl, x, g, tops, rs, Ls, rfl, W0.same s04, fun H5 p5 lo hi s5 np5 hB5 F5 => ?_⟩
    obtain ⟨lo', hi', R5⟩ := rw_ex c lo hi
    have G5 : Fol tops' rs' (· ∈ gs.map (·.2)) lo' hi' := K1.fol okS toS ofS F5 R5
    obtain ⟨rfl, rfl⟩ := F4.uniq G5
    have s05 := s04.trans s5
    refine ⟨t, O, W, p5, ls, tops, lo, hi, lo1, hi1, rfl, s05 _ _ et, h19.cal.same s05, c, h19.l12, rows_in hB5 F5.ll, R5, fun H6 p6 s6 hB6 => ?_⟩
    have s06 := s05.trans s6
    refine ⟨p6, _, rfl, bnd_dpB hB6, show_bdB K1.rules okS' plt' F4 l12', rfl, _, rfl, not_diff rfl ?_⟩
    -- bounds
    have s36 := (s4.trans s5).trans s6
    refine ⟨_, rfl, _, rfl, _, rfl, ?_⟩
    show tNoPart _ _ _
    unfold tNoPart
    refine ⟨1, rfl, ?_⟩
    refine cut_to (c := 1) (s36 _ _ eg') (by rw [List.length_map]; omega) fun g2 H7 s7 eg2 => ?_
    have s37 := s36.trans s7
    have e2 : (sdR gs).take 1 = sdR (gs.take 1) := by rw [sdR, ← List.map_take]
    rw [e2] at eg2
    refine cat_tups (s37 _ _ eg') eg2 (Nat.le_of_lt (small1000 (by rw [List.length_map, List.length_map, List.length_take]; omega))) fun g3 H8 s8 eg3 => ?_
    have e3 : sdR gs ++ sdR (gs.take 1) = sdR (gs ++ gs.take 1) := by simp only [sdR, List.map_append]
    rw [e3] at eg3
    have s38 := s37.trans s8
    have s08 := s3.trans s38
    have mem2 : ∀ s, s ∈ (gs ++ gs.take 1).map (·.2) ↔ s ∈ gs.map (·.2) := fun s => by
      rw [List.map_append, List.mem_append]
      refine ⟨fun h => h.elim id fun h => ?_, .inl⟩
      obtain ⟨z, hz, e⟩ := List.mem_map.mp h
      exact List.mem_map.mpr ⟨z, List.mem_of_mem_take hz, e⟩
    have W2 : Wnt K C H8 x' g3 tops' rs' (gs ++ gs.take 1) := ⟨(h19.hp'.keep (.same s08)), .inl (.inl eg3), fun z hz => (sds_keep hgs3 s38) z ((List.mem_append.mp hz).elim id List.mem_of_mem_take), fun z hz => okG z ((List.mem_append.mp hz).elim id List.mem_of_mem_take), K1.rules, h19.l40', by rw [List.length_append, List.length_take]; omega, l12', K1.pl h19.pl⟩
    have hadI : Had tops rs Ls ↔ Had tops' rs' (gs ++ gs.take 1) := by
      have := K1.had (W := fun s => s ∈ Ls.map (·.2)) (W' := fun s => s ∈ (gs ++ gs.take 1).map (·.2)) (fun s hs => (okS s hs).lt) (fun s hs => (mem2 _).mpr (toS s hs)) (fun z hz => ofS z ((mem2 z).mp hz))
      exact this
    have some' : ∃ st, st ∈ goods tops' rs' := by
      obtain ⟨st', A⟩ := led_to c st
      exact ⟨st', (K1.good lst A).mp hst⟩
    refine ⟨x', g3, tops', rs', _, rfl, W2, some', by rw [List.length_append, List.length_take]; omega, fun H9 h9 p9 lo9 hi9 s9 had9 eh9 hB9 F9 => ?_, fun H9 h9 h9' s9 eh9 bar9 no9 => ?_⟩
    · have s09 := s08.trans s9
      have had0 : Had tops rs Ls := hadI.mpr had9
      refine ⟨_, rfl, _, rfl, x, g, tops, rs, Ls, rfl, W0.same s09, ⟨st, hst⟩, by omega, fun HA hA pA loA hiA sA hadA ehA hBA FA => ?_, fun HA hA hA' sA ehA barA noA => (noA had0).elim⟩
      have s0A := s09.trans sA
      have eh9A := sA _ _ eh9
      refine ⟨_, _, rfl, ?_⟩
      dsimp only [List.set]
      refine ⟨_, rfl, h9, _, 0, _, rfl, rfl, .inl (.inl eh9A), atI_nat (j := 0) rfl, _, rfl, hA, _, 0, _, rfl, rfl, .inl (.inl ehA), atI_nat (j := 0) rfl, rfl, _, rfl, iteFa (by decide +kernel) ?_⟩
      refine ⟨_, rfl, h9, _, 0, _, rfl, rfl, .inl (.inl eh9A), atI_nat (j := 0) rfl, rfl, _, rfl, iteFa (by decide +kernel) ?_⟩
      have okF : ∀ s, (s ∈ Ls.map (·.2) ∨ Frc tops rs s) → SideOk tops s := fun s h => h.elim (okS s) (frc_ok K1.rok)
      have okF' : ∀ s, (s ∈ (gs ++ gs.take 1).map (·.2) ∨ Frc tops' rs' s) → SideOk tops' s := fun s h => h.elim (fun h => okS' s ((mem2 s).mp h)) (frc_ok K1.rules)
      refine ⟨_, rfl, h9, _, 1, _, rfl, rfl, .inl (.inl eh9A), atI_nat (j := 1) rfl, p9, _, rfl, bnd_dpB (hB9.keep (.same sA)), show_bdB K1.rules okF' plt' F9 l12', ?_⟩
      obtain ⟨loR, hiR, RA⟩ := rw_ex c loA hiA
      have GA : Fol tops' rs' (fun s => s ∈ (gs ++ gs.take 1).map (·.2) ∨ Frc tops' rs' s) loR hiR := K1.fol okF (fun s h => h.imp (fun h => (mem2 _).mpr (toS s h)) K1.frcTo) (fun z h => h.elim (fun h => by
        obtain ⟨s, hs, e⟩ := ofS z ((mem2 z).mp h)
        exact ⟨s, .inl hs, e⟩) (fun h => by
        obtain ⟨s, hs, e⟩ := K1.frcOf h
        exact ⟨s, .inr hs, e⟩)) FA RA
      obtain ⟨rfl, rfl⟩ := F9.uniq GA
      refine ⟨_, rfl, _, rfl, _, rfl, _, rfl, hA, _, 1, _, rfl, rfl, .inl (.inl ehA), atI_nat (j := 1) rfl, t, O, W, pA, ls, tops, loA, hiA, lo9, hi9, rfl, s0A _ _ et, h19.cal.same s0A, c, h19.l12, rows_in hBA FA.ll, RA, fun HB pB sB hBB => ?_⟩
      have s0B := s0A.trans sB
      refine ⟨pB, _, rfl, bnd_dpB hBB, show_bdB K1.rules okF' plt' F9 l12', rfl, _, rfl, not_diff rfl ?_⟩
      -- nearest
      refine ⟨_, rfl, _, rfl, _, rfl, _, rfl, _, rfl, _, rfl, x, o, g, tops, st, rs, Ls, rfl, W0.same s0B, had0, s0B _ _ eo, hst, fun HC pC n sC enC NC => ?_⟩
      have s0C := s0B.trans sC
      refine ⟨t, O, W, pC, ls, tops, n, rfl, s0C _ _ et, h19.cal.same s0C, c, h19.l12, enC, goods_len NC.good, fun HD pD n' sD enD AD => ?_⟩
      have s0D := s0C.trans sD
      dsimp only [List.set]
      refine ⟨_, rfl, _, rfl, _, rfl, _, rfl, _, rfl, t, O, W, o, ls, tops, st, rfl, s0D _ _ et, h19.cal.same s0D, c, h19.l12, s0D _ _ eo, lst, fun HE pE st' sE enE AE => ?_⟩
      have s0E := s0D.trans sE
      have s3E : Same H3 HE := s38.trans ((((((s9.trans sA).trans sB).trans sC).trans sD)).trans sE)
      have hst' : st' ∈ goods tops' rs' := (K1.good lst AE).mp hst
      have had1 : Had tops' rs' gs := by
        obtain ⟨y, hy, hw⟩ := had9
        exact ⟨y, hy, fun s hs => hw s ((mem2 s).mpr hs)⟩
      refine ⟨_, rfl, x', pE, g', tops', st', rs', gs, rfl, W1.same s3E, had1, enE, hst', fun HF pF m sF enF NF => ?_⟩
      have em : m = n' := NF.uniq (K1.nrst (W := Ls.map (·.2)) (W' := gs.map (·.2)) (fun s hs => (okS s hs).lt) egs lst AE AD NC)
      subst em
      have plm : Pl m := fun v hv => by
        obtain ⟨j, hj, rfl⟩ := List.getElem_of_mem hv
        have b := (goods_mem.mp NF.good).1
        have hj' : j < tops'.length := by rw [← b.1]; exact hj
        have b2 := b.2 j hj'
        have b3 := plt' _ (List.getElem_mem hj')
        rw [plc_get hj, plc_get hj'] at b2
        omega
      have lm : m.length ≤ 12 := by rw [goods_len NF.good]; exact l12'
      refine ⟨pF, _, rfl, dpt enF, show_st lm plm, _, rfl, pD, _, rfl, dpt ((sE.trans sF) _ _ enD), show_st lm plm, rfl, ?_⟩
      rw [decide_eq_true rfl]
      exact q _ (s0E.trans sF)
    · have s09 := s08.trans s9
      have no0 : ¬ Had tops rs Ls := fun h => no9 (hadI.mp h)
      refine ⟨_, rfl, _, rfl, x, g, tops, rs, Ls, rfl, W0.same s09, ⟨st, hst⟩, by omega, fun HA hA pA loA hiA sA hadA ehA hBA FA => (no0 hadA).elim, fun HA hA hA' sA ehA barA noA => ?_⟩
      have s0A := s09.trans sA
      have eh9A := sA _ _ eh9
      refine ⟨_, _, rfl, ?_⟩
      dsimp only [List.set]
      refine ⟨_, rfl, h9, _, 0, _, rfl, rfl, .inl (.inl eh9A), atI_nat (j := 0) rfl, _, rfl, hA, _, 0, _, rfl, rfl, .inl (.inl ehA), atI_nat (j := 0) rfl, rfl, _, rfl, iteFa (by decide +kernel) ?_⟩
      refine ⟨_, rfl, h9, _, 0, _, rfl, rfl, .inl (.inl eh9A), atI_nat (j := 0) rfl, rfl, _, rfl, iteTr (by decide +kernel) ?_⟩
      exact q _ s0A
end
end K19

set_option Elab.async false
set_option linter.all false
set_option maxRecDepth 100000
namespace K19
open PySem PySem.Spec PyProof.Rows L2 NB

/-! ### bundles of both plans -/
theorem bun_row {tops : List Int} {rs : List Rl} {i : Nat} {p : Int} {xss : List (List Int)} (rok : ∀ q ∈ rs, RuleOk tops q) (pl : ∀ i, i < tops.length → 0 ≤ plc tops i) (plt : Pl tops) (hi : i < tops.length) (p0 : 0 ≤ p) (p1 : p < plc tops i) (h : bunF tops rs i p xss) :
    xss.length ≤ tops.length ∧ (xss.Pairwise fun x y => x.getD 0 0 < y.getD 0 0) ∧ ∀ s ∈ xss, ∃ (j : Nat) (u v : Int), s = [(j : Int), u, v] ∧ j < tops.length ∧ (0 ≤ u ∧ u < 10 ^ 30) ∧ 0 ≤ v ∧ v < 10 ^ 30 := by
  rcases bun_tol rok pl hi p0 p1 h with ⟨_, rfl⟩ | ⟨l1, h1, l2, h2, T, rfl, _⟩
  · exact ⟨Nat.zero_le _, List.Pairwise.nil, fun s hs => absurd hs List.not_mem_nil⟩
  · refine ⟨strF_len _ _ _ _ _, strF_up _ _ _ _ _, fun s hs => ?_⟩
    obtain ⟨j, hj, e⟩ := str_mem hs
    obtain ⟨g, hg, a⟩ := T.b1
    obtain ⟨g2, hg2, a2⟩ := T.b2
    have x := T.s1 hg a hj
    have y := T.s2 hg2 a2 hj
    have z1 := T.F1.lz j hj
    have z2 := T.F2.lz j hj
    have w1 := T.F1.hz j hj
    have w2 := T.F2.hz j hj
    have tp := plt _ (List.getElem_mem hj)
    rw [← plc_get hj] at tp
    rcases e with ⟨e, _⟩ | ⟨e, _⟩
    · exact ⟨j, _, _, e, hj, by omega, by omega⟩
    · exact ⟨j, _, _, e, hj, by omega, by omega⟩
theorem bun_rws {tops : List Int} {xss : List (List Int)} (l12 : tops.length ≤ 12) (h : ∀ s ∈ xss, ∃ (j : Nat) (u v : Int), s = [(j : Int), u, v] ∧ j < tops.length ∧ (0 ≤ u ∧ u < 10 ^ 30) ∧ 0 ≤ v ∧ v < 10 ^ 30) : ∀ s ∈ xss, s.length = 3 ∧ TS.Bd (10 ^ 40) s := fun s hs => by
  obtain ⟨j, u, v, rfl, hj, hu, hv⟩ := h s hs
  have big : (10 : Int) ^ 30 < 10 ^ 40 := by decide
  have big2 : (12 : Int) < 10 ^ 40 := by decide
  refine ⟨rfl, fun m hm => ?_⟩
  simp only [List.mem_cons, List.not_mem_nil, or_false] at hm
  rcases hm with rfl | rfl | rfl <;> omega
theorem bd_small {s : List Int} (h : TS.Bd (10 ^ 40) s) : ∀ x ∈ s, x.natAbs < 10 ^ 90 := fun x hx => by
  have := h x hx
  have big : (10 : Int) ^ 40 < 10 ^ 90 := by decide
  have c : ((10 : Nat) ^ 90 : Int) = ((10 : Int) ^ 90) := by decide
  omega
section
variable {P : Program} {w : World} {K : PySem.W.Frag} {mg : Str → Option Value} {base : Heap}
def spBR (K : PySem.W.Frag) (C : Addr) : Sp := fun vs H Q _ => ∃ (x x' O W : Addr) (i : Nat) (p : Int) (ls : List (Int × Int)) (tops tops' : List Int) (rs rs' : List Rl), vs = [.ref x, .ref x', .ref O, .ref W, .int (i : Int), .int p] ∧ W19 K C H x x' O W ls tops tops' rs rs' ∧ (∃ st, st ∈ goods tops rs) ∧ i < tops.length ∧ 0 ≤ p ∧ p < plc tops i ∧
  ∀ H', Same H H' → Q (.bl true) H'
abbrev a__law_bundle_right : Stmt := topS 65
abbrev n__law_bundle_right : List Str := ["_law_plan_here", "_law_other", "_law_order", "_law_flips", "_law_thing", "_law_place", "_law_tops", "_law_new", "_law_there", "_law_told", "_law_due", "_law_each", "_law_one", "_law_two", "_law_its", "_law_first", "_law_last"]
theorem sc__law_bundle_right : FnScope n__law_bundle_right ["_law_plan_here", "_law_other", "_law_order", "_law_flips", "_law_thing", "_law_place"] (defScope a__law_bundle_right) := ⟨rfl, rfl, rfl, by decide +kernel, rfl, by decide +kernel, by decide +kernel⟩
set_option maxHeartbeats 8000000 in
theorem ok__law_bundle_right {f fLe fBu : Addr} {fd fdLe fdBu : FuncData}  {C : Addr} (F : Fun K "_law_bundle_right" "_law_bundle_right" a__law_bundle_right f fd) (Le : Kn P w K mg base 1 "_law_led" ["_law_tops", "_law_order", "_law_flips", "_law_thing", "_law_place"] spLd fLe fdLe) (Bu : Kn P w K mg base 9 "bundle" ["plan", "thing", "place"] (spBun K C) fBu fdBu) (TP : PlanTxt K mg C) (m_int : mg "int" = none) (m_repr : mg "repr" = none) (m_sorted : mg "sorted" = none) (m_tuple : mg "tuple" = none) : FnG P w K mg base 10 f fd ["_law_plan_here", "_law_other", "_law_order", "_law_flips", "_law_thing", "_law_place"] (spBR K C) := by
  refine fnG F sc__law_bundle_right (fun vs H Q E h => ?_) (fun cdv A outer s H vs Q E hG hr h => ?_)
  · obtain ⟨x, x', O, W, i, p, ls, tops, tops', rs, rs', rfl, _⟩ := h
    rfl
  · obtain ⟨x, x', O, W, i, p, ls, tops, tops', rs, rs', rfl, h19, hst, hi, p0, p1, q⟩ := h
    refine ⟨_, (pss_cons (ps_set (i := 6) sc__law_bundle_right.nd rfl (.inl rfl) (pe_fld (pv 0) rfl))
      (pss_cons (ps_asg (pe_kn Le hr (by omega) (pa_cons (pv 6) (pa_cons (pv 2) (pa_cons (pv 3) (pa_cons (pv 4) (pa_cons (pv 5) pa_nil)))))) (pg_tup rfl (pgs_cons (pg_name (i := 7) sc__law_bundle_right.nd rfl (.inl rfl)) (pgs_cons (pg_name (i := 8) sc__law_bundle_right.nd rfl (.inl rfl)) pgs_nil))))
      (pss_cons (ps_par (i := 9) (j := 10) (by rfl) sc__law_bundle_right.nd rfl rfl (by decide) rfl rfl (pa_cons (pe_kn Bu hr (by omega) (pa_cons (pv 1) (pa_cons (pv 7) (pa_cons (pe_op op_sub (pv 8) (pe_callTy call_int1 (by rfl) m_int (by decide +kernel) (pa_cons (pe_ix ix_list (pv 3) (pv 4) (fun _ _ => rfl)) pa_nil))) pa_nil)))) (pa_cons (pe_lst pa_nil) pa_nil)) (by rfl))
      (pss_cons (ps_for PassesOwn.never rfl (pi_tup (pe_kn Bu hr (by omega) (pa_cons (pv 0) (pa_cons (pv 4) (pa_cons (pv 5) pa_nil))))) (pg_tup rfl (pgs_cons (pg_name (i := 11) sc__law_bundle_right.nd rfl (.inl rfl)) (pgs_cons (pg_name (i := 12) sc__law_bundle_right.nd rfl (.inl rfl)) (pgs_cons (pg_name (i := 13) sc__law_bundle_right.nd rfl (.inl rfl)) pgs_nil))))
        (pss_cons (ps_asg (pe_kn Le hr (by omega) (pa_cons (pv 6) (pa_cons (pv 2) (pa_cons (pv 3) (pa_cons (pv 11) (pa_cons (pv 12) pa_nil)))))) (pg_tup rfl (pgs_cons (pg_name (i := 14) sc__law_bundle_right.nd rfl (.inl rfl)) (pgs_cons (pg_name (i := 15) sc__law_bundle_right.nd rfl (.inl rfl)) pgs_nil))))
      (pss_cons (ps_set (i := 16) sc__law_bundle_right.nd rfl (.inl rfl) (pe_ix ix_tup (pe_kn Le hr (by omega) (pa_cons (pv 6) (pa_cons (pv 2) (pa_cons (pv 3) (pa_cons (pv 11) (pa_cons (pv 13) pa_nil)))))) pe_int (fun _ _ => rfl)))
      (pss_one (ps_expr (pe_bm PySem.F.plainAttrs_list PySem.F.slot_list_append PySem.F.type_list_append mt_append (pv 10) (pa_cons (pe_ifExp (pt_val (pe_ix ix_list (pv 3) (pv 4) (fun _ _ => rfl))) (pe_tup (pa_cons (pv 14) (pa_cons (pv 16) (pa_cons (pv 15) pa_nil)))) (pe_tup (pa_cons (pv 14) (pa_cons (pv 15) (pa_cons (pv 16) pa_nil))))) pa_nil)))))))
      (pss_one (ps_ret (pe_cmpR op_eq (pe_callB (call_reprD hG hr.units) (by rfl) m_repr (by decide +kernel) (pa_cons (pv 9) pa_nil)) (pe_callB (call_reprD hG hr.units) (by rfl) m_repr (by decide +kernel) (pa_cons (pe_callTy call_tuple_of (by rfl) m_tuple (by decide +kernel) (pa_cons (pe_callB (cr_sortTO (d := 3) (B := 10 ^ 40) (by decide)) (by rfl) m_sorted (by decide +kernel) (pa_cons (pv 10) pa_nil)) pa_nil)) pa_nil)) (nomark _)))))))), ?_⟩
    obtain ⟨dx, t, R, ex, et, hR⟩ := id h19.hp
    have K1 := h19.cl
    have l12 := h19.l12
    have c := K1.c
    have w2 : (2 : Nat) ≤ sizeLine := by decide
    have w3 : (3 : Nat) ≤ sizeLine := by decide
    have plt' := h19.plt'
    have l12' : tops'.length ≤ 12 := by rw [K1.tl]; exact h19.l12
    refine ⟨_, rfl, x, C, dx, _, _, rfl, ex, TP.cl, TP.nT, look_tops _ _, ?_⟩
    dsimp only [List.set]
    refine ⟨_, rfl, _, rfl, _, rfl, _, rfl, _, rfl, t, O, W, ls, tops, i, p, rfl, et, h19.cal, c, hi, fun H1 g s1 eg => ?_⟩
    refine ⟨g, _, rfl, .inl (.inl eg), rfl, _, _, rfl, _, _, rfl, rfl, ?_⟩
    dsimp only [List.set]
    have hC1 := h19.cal.same s1
    have aw := hC1.w c hi
    have hi' : sg ls i < tops'.length := by rw [K1.tl]; exact c.sg_lt hi
    have epb : plx ls tops i p - (if fl ls i then 1 else 0) = pbn ls tops i p := by
      unfold plx pbn plc
      cases fl ls i <;> simp
    have q0 : 0 ≤ pbn ls tops i p := by
      unfold pbn
      split <;> omega
    have q1 : pbn ls tops i p < plc tops' (sg ls i) := by
      rw [K1.tp i hi]
      unfold pbn
      split <;> omega
    obtain ⟨st, hst⟩ := hst
    have some' : ∃ st, st ∈ goods tops' rs' := by
      obtain ⟨st', A⟩ := led_to c st
      exact ⟨st', (K1.good (goods_len hst) A).mp hst⟩
    have hk' : PlK C H1 x' tops' rs' := ⟨h19.hp'.keep (.same s1), K1.rules, h19.l40', l12', K1.pl h19.pl⟩
    refine ⟨_, rfl, _, rfl, _, rfl, _, rfl, _, rfl, W, _, i, _, rfl, rfl, .inl (.inl hC1.eW), aw, .inr ⟨_, rfl, _, _, rfl, rfl, ?_⟩⟩
    refine ⟨x', sg ls i, pbn ls tops i p, tops', rs', by show [V.ref x', V.int (sg ls i : Int), V.int (plx ls tops i p - (if fl ls i = true then 1 else 0))] = _; rw [epb], hk', some', hi', q0, q1, fun H2 r xss' s2 mr' bf' => ⟨Nat.zero_le _, fun F nF => ⟨_, _, rfl, ?_⟩⟩⟩
    have s02 := s1.trans s2
    have sF := same_new (o := HO.lst []) nF
    have s0F := s02.trans sF
    have eF : (upd H2 F (.lst [])) F = some (.lst []) := upd_same
    have nHF : H F = none := s02.free nF
    have mrF := mr'.same sF
    generalize upd H2 F (.lst []) = H3 at sF s0F eF mrF ⊢
    dsimp only [List.set]
    have hk0 : PlK C H3 x tops rs := ⟨h19.hp.keep (.same s0F), K1.rok, h19.l40, h19.l12, h19.pl⟩
    refine ⟨_, rfl, _, rfl, _, rfl, x, i, p, tops, rs, rfl, hk0, ⟨st, hst⟩, hi, p0, p1, fun H4 r4 xss s4 mr4 bf => ?_⟩
    obtain ⟨lx, up, rows⟩ := bun_row K1.rok h19.pl h19.plt hi p0 p1 bf
    obtain ⟨lx', up', rows'⟩ := bun_row K1.rules (K1.pl h19.pl) plt' hi' q0 q1 bf'
    have pm := K1.bun h19.pl hi p0 p1 bf bf'
    have rw' := bun_rws l12' rows'
    obtain ⟨ps, e4, hps, eps⟩ := mr4
    have s04 := s0F.trans s4
    have lps : ps.length = xss.length := by rw [← eps, List.length_map]
    refine ⟨r4, rfl, ⟨_, .inl (.inl e4)⟩, for_it (walk_tup (xs := refs ps)) (fun k σ H' => (∃ u11 u12 u13 u14 u15 u16, σ = [some (V.ref x), some (.ref x'), some (.ref O), some (.ref W), some (.int (i : Int)), some (.int p), some (.ref t), some (.int (sg ls i : Int)), some (.int (plx ls tops i p)), some (.ref r), some (.ref F), u11, u12, u13, u14, u15, u16]) ∧ Same H2 H' ∧ H' r4 = some (.tup (refs ps)) ∧ LsAt H' ps ∧ ∃ Y : List (Addr × List Int), H' F = some (.lst (refs Y)) ∧ LsAt H' Y ∧ Y.map (·.2) = ((ps.take k).map (·.2)).map (bRow ls tops (fl ls i)))
      ⟨⟨_, _, _, _, _, _, rfl⟩, sF.trans s4, e4, hps, [], s4 _ _ eF, fun _ h => absurd h List.not_mem_nil, rfl⟩ (fun k σ H' _ y => .inl (.inl y.2.2.1)) (fun k v σ H5 H6 hk y z => ?_) (fun σ H5 y => ?_)⟩
    · obtain ⟨⟨u11, u12, u13, u14, u15, u16, rfl⟩, s5, e5, hp5, Y, eF5, hY, eY⟩ := y
      obtain ⟨rfl, gv⟩ := z
      obtain ⟨z, ez, rfl⟩ := mapGet gv
      have mz := List.mem_of_getElem? ez
      have hk' : k < ps.length := by simpa [refs] using hk
      obtain ⟨j, u, v, es, hj, _, _⟩ := rows z.2 (by rw [← eps]; exact List.mem_map.mpr ⟨z, mz, rfl⟩)
      have ezz := hp5 z mz
      rw [es] at ezz
      have lY : Y.length = k := by
        have := congrArg List.length eY
        rw [List.length_map, List.length_map, List.length_map, List.length_take] at this
        omega
      refine ⟨z.1, _, rfl, .inl (.inl ezz), rfl, _, _, rfl, _, _, rfl, _, _, rfl, rfl, ?_⟩
      dsimp only [List.set]
      have s06 := s02.trans s5
      have et6 := s06 _ _ et
      have hC6 := h19.cal.same s06
      refine ⟨_, rfl, _, rfl, _, rfl, _, rfl, _, rfl, t, O, W, ls, tops, j, u, rfl, et6, hC6, c, hj, fun H7 g7 s7 eg7 => ?_⟩
      refine ⟨g7, _, rfl, .inl (.inl eg7), rfl, _, _, rfl, _, _, rfl, rfl, ?_⟩
      dsimp only [List.set]
      refine ⟨_, rfl, _, rfl, _, rfl, _, rfl, _, rfl, t, O, W, ls, tops, j, v, rfl, s7 _ _ et6, hC6.same s7, c, hj, fun H8 g8 s8 eg8 => ?_⟩
      refine ⟨g8, _, 1, _, rfl, rfl, .inl (.inl eg8), atI_nat (j := 1) rfl, ?_⟩
      dsimp only [List.set]
      have s68 := s7.trans s8
      have eF8 := s68 _ _ eF5
      have hC8 := hC6.same s68
      have aw8 := hC8.w c hi
      have eb : bRow ls tops (fl ls i) z.2 = [(sg ls j : Int), if fl ls i then plx ls tops j v else plx ls tops j u, if fl ls i then plx ls tops j u else plx ls tops j v] := by
        rw [es]
        simp [bRow]
      have fin : ∀ g : Addr, H8 g = none → Same H2 (upd (upd H8 g (.tup ((bRow ls tops (fl ls i) z.2).map V.int))) F (.lst (refs Y ++ [.ref g]))) ∧ (upd (upd H8 g (.tup ((bRow ls tops (fl ls i) z.2).map V.int))) F (.lst (refs Y ++ [.ref g]))) r4 = some (.tup (refs ps)) ∧ LsAt (upd (upd H8 g (.tup ((bRow ls tops (fl ls i) z.2).map V.int))) F (.lst (refs Y ++ [.ref g]))) ps ∧ ∃ Y' : List (Addr × List Int), (upd (upd H8 g (.tup ((bRow ls tops (fl ls i) z.2).map V.int))) F (.lst (refs Y ++ [.ref g]))) F = some (.lst (refs Y')) ∧ LsAt (upd (upd H8 g (.tup ((bRow ls tops (fl ls i) z.2).map V.int))) F (.lst (refs Y ++ [.ref g]))) Y' ∧ Y'.map (·.2) = ((ps.take (k + 1)).map (·.2)).map (bRow ls tops (fl ls i)) := fun g ng => by
        have sg' := same_new (o := HO.tup ((bRow ls tops (fl ls i) z.2).map V.int)) ng
        have kU : Keep (upd H8 g (.tup ((bRow ls tops (fl ls i) z.2).map V.int))) (upd (upd H8 g (.tup ((bRow ls tops (fl ls i) z.2).map V.int))) F (.lst (refs Y ++ [.ref g]))) := .upd (sg' _ _ eF8)
        refine ⟨same_over ((s5.trans s68).trans sg') nF, kU.tup (sg' _ _ (s68 _ _ e5)), ((hp5.same s68).same sg').keep kU, Y ++ [(g, bRow ls tops (fl ls i) z.2)], by rw [upd_same]; simp only [refs, List.map_append]; rfl, (((hY.same s68).same sg').app fun y hy => ?_).keep kU, ?_⟩
        · rw [List.mem_singleton.mp hy]
          exact upd_same
        · rw [List.map_append, eY, List.take_add_one, ez]
          simp only [List.map_append, Option.toList_some, List.map_cons, List.map_nil]
      refine ⟨_, rfl, .inl ⟨rfl, _, .inl (.inl eF8)⟩, _, rfl, _, rfl, W, _, i, _, rfl, rfl, .inl (.inl hC8.eW), aw8, _, rfl, ?_⟩
      cases hf : fl ls i
      · simp only [hf, Bool.false_eq_true, if_false] at eb fin
        refine iteF ⟨_, rfl, _, rfl, _, rfl, w3, fun g ng => ?_⟩
        have f := fin g ng
        rw [eb] at f
        have sg' := same_new (o := HO.tup [V.int (sg ls j : Int), V.int (plx ls tops j u), V.int (plx ls tops j v)]) ng
        exact ⟨F, _, _, rfl, rfl, sg' _ _ eF8, by rw [refs, List.length_map, lY]; exact small1000 (by omega), ⟨_, _, _, _, _, _, rfl⟩, f⟩
      · simp only [hf, if_true] at eb fin
        refine iteT ⟨_, rfl, _, rfl, _, rfl, w3, fun g ng => ?_⟩
        have f := fin g ng
        rw [eb] at f
        have sg' := same_new (o := HO.tup [V.int (sg ls j : Int), V.int (plx ls tops j v), V.int (plx ls tops j u)]) ng
        exact ⟨F, _, _, rfl, rfl, sg' _ _ eF8, by rw [refs, List.length_map, lY]; exact small1000 (by omega), ⟨_, _, _, _, _, _, rfl⟩, f⟩
    · obtain ⟨⟨u11, u12, u13, u14, u15, u16, rfl⟩, s5, e5, hp5, Y, eF5, hY, eY⟩ := y
      rw [show (refs ps).length = ps.length by simp [refs], List.take_length, eps] at eY
      have mr5 := (mr'.same s5)
      have shM : ∀ s ∈ xss', s.length ≤ 3 ∧ ∀ x ∈ s, x.natAbs < 10 ^ 90 := fun s hs => ⟨by rw [(rw' s hs).1]; exact Nat.le_refl _, bd_small (rw' s hs).2⟩
      have lx2 : xss'.length ≤ 100 := by omega
      refine ⟨_, rfl, r, _, rfl, dp_many mr5, show_many lx2 shM, ?_⟩
      have inY : ∀ z ∈ Y, z.2 ∈ xss' := fun z hz => by
        have : z.2 ∈ xss.map (bRow ls tops (fl ls i)) := by
          rw [← eY]
          exact List.mem_map.mpr ⟨z, hz, rfl⟩
        exact pm.mem_iff.mpr this
      refine ⟨_, rfl, F, Y, rfl, .inl (.inl eF5), fun z hz => ⟨hY z hz, (rw' z.2 (inY z hz)).1, (rw' z.2 (inY z hz)).2⟩, fun ys D pmy so nD => ?_⟩
      obtain ⟨Z, pz, rfl⟩ := perm_map_ex pmy Y rfl
      have sD := same_new (o := HO.lst (Z.map fun z => V.ref z.1)) nD
      refine ⟨D, _, rfl, .inl ⟨.inl (.inl upd_same), fun g ng => ?_⟩⟩
      have sg' := same_new (o := HO.tup (Z.map fun z => V.ref z.1)) ng
      have eZ : Z.map (·.2) = xss' := by
        refine perm_srt (f := TS.code (10 ^ 40)) _ _ ?_ ?_ ?_
        · refine (pz.map (·.2)).trans ?_
          rw [eY]
          exact pm.symm
        · rw [List.pairwise_map]
          have so' := List.pairwise_map.mp so
          exact so'.imp_of_mem fun {a b} ha hb h => h a (pz.mem_iff.mp ha) b (pz.mem_iff.mp hb) rfl rfl
        · exact up'.imp_of_mem fun {a b} ha hb h => code3_up (rw' a ha).1 (rw' b hb).1 (rw' a ha).2 (rw' b hb).2 h
      have mg' : ManyAt (upd (upd H5 D (.lst (Z.map fun z => V.ref z.1))) g (.tup (Z.map fun z => V.ref z.1))) g xss' := ⟨Z, upd_same, fun z hz => (sD.trans sg') _ _ (hY z (pz.mem_iff.mp hz)), eZ⟩
      refine ⟨g, _, rfl, dp_many mg', show_many lx2 shM, rfl, ?_⟩
      rw [decide_eq_true rfl]
      exact q _ (s02.trans (s5.trans (sD.trans sg')))
end
end K19

set_option Elab.async false
set_option linter.all false
set_option maxRecDepth 100000
namespace K19
open PySem PySem.Spec PyProof.Rows L2 NB

/-! ### the law -/
theorem sdS_shaped (s : Sd) : SeqAt.shaped (dS s) = true := by
  have w : ∀ b : Bool, PyData.strOk (word b) = true := fun b => by cases b <;> decide +kernel
  unfold SeqAt.shaped dS
  simp only [PyData.canLay0, PyData.canLayAll0, w, PyData.depth, PyData.depthAll, Bool.and_true, Bool.true_and]
  exact decide_eq_true (by omega)
theorem Cld.plt {ls : List (Int × Int)} {tops tops' : List Int} {rs rs' : List Rl} (K : Cld ls tops tops' rs rs') (pl : Pl tops) : Pl tops' := fun v hv => by
  obtain ⟨j, hj, rfl⟩ := List.getElem_of_mem hv
  obtain ⟨i, hi, e⟩ := K.c.ex (by rw [← K.tl]; exact hj)
  have := K.tp i hi
  rw [e, plc_get hj, plc_get hi] at this
  rw [this]
  exact pl _ (List.getElem_mem hi)
def othD : Option Sd → PyData
  | none => .none
  | some s => dS s
theorem oth_dp {K : PySem.W.Frag} {H : Hp} {v : V} {o : Option Sd} (h : OthAt H v o) : Dp K H v (othD o) ∧ SeqAt.shaped (othD o) = true := by
  cases o with
  | none =>
    have e : v = .non := h
    rw [e]
    exact ⟨.non, rfl⟩
  | some s =>
    obtain ⟨g, e, hs⟩ := h
    rw [e]
    exact ⟨dp_side hs, sdS_shaped s⟩
section
variable {P : Program} {w : World} {K : PySem.W.Frag} {mg : Str → Option Value} {base : Heap}
def spNp : Sp := fun vs H Q _ => ∃ (a t R : Addr) (i : Nat) (tops : List Int) (rs : List Rl) (c : Nat), vs = [.ref a, .ref t, .ref R, .int (i : Int)] ∧ PotAt H a c ∧ H t = some (.tup (tops.map V.int)) ∧ RulesAt H R rs ∧ rs.length ≤ 9 ∧ i < tops.length ∧ tops.length ≤ 12 ∧ Pl tops ∧ c < 900000 ∧
  ∀ H' p, But a H H' → PotAt H' a (c + 5) → 0 ≤ p → p ≤ plc tops i → Q (.int p) H'
abbrev a__law_near_place : Stmt := topS 66
abbrev n__law_near_place : List Str := ["_law_pot_here", "_law_tops", "_law_rules_here", "_law_thing", "_law_places", "_law_rule", "_law_other", "_law_word", "_law_place"]
theorem sc__law_near_place : FnScope n__law_near_place ["_law_pot_here", "_law_tops", "_law_rules_here", "_law_thing"] (defScope a__law_near_place) := ⟨rfl, rfl, rfl, by decide +kernel, rfl, by decide +kernel, by decide +kernel⟩
set_option maxHeartbeats 8000000 in
theorem ok__law_near_place {f fTa fLo : Addr} {fd fdTa fdLo : FuncData} {k : Nat}  (F : Fun K "_law_near_place" "_law_near_place" a__law_near_place f fd) (Ta : Kn P w K mg base 1 "_law_take" ["_law_pot_here", "_law_many"] spTake fTa fdTa) (Lo : Kn P w K mg base 2 "_law_of" ["_law_pot_here", "_law_some"] (spOf K) fLo fdLo)  (m_max : mg "max" = none) (m_min : mg "min" = none) : FnOk P w K mg base CX0 (k + 3) f fd ["_law_pot_here", "_law_tops", "_law_rules_here", "_law_thing"] spNp := by
  refine F.ok sc__law_near_place (fun vs H Q E h => ?_) (fun cdv A outer s H vs Q E hr h => ?_)
  · obtain ⟨a, t, R, i, tops, rs, c, rfl, _⟩ := h
    rfl
  · obtain ⟨a, t, R, i, tops, rs, c, rfl, pp, et, hR, l9, hi, l12, pl, hc, q⟩ := h
    refine ⟨_, (pss_cons (ps_set (i := 4) sc__law_near_place.nd rfl (.inl rfl) (pe_lst (pa_cons pe_int (pa_cons (pe_ix ix_tup (pv 1) (pv 3) (fun _ _ => rfl)) (pa_cons (pe_kn Ta hr (by omega) (pa_cons (pv 0) (pa_cons (pe_op op_add (pe_ix ix_tup (pv 1) (pv 3) (fun _ _ => rfl)) pe_int) pa_nil))) pa_nil)))))
      (pss_cons (ps_for PassesOwn.never rfl (pi_tup (pv 2)) (pg_name (i := 5) sc__law_near_place.nd rfl (.inl rfl))
        (pss_one (ps_expr (pe_bm PySem.F.plainAttrs_list PySem.F.slot_list_extend PySem.F.type_list_extend mt_extend (pv 4) (pa_cons (
        pe_lc (own := [("_law_other", 6), ("_law_word", 7), ("_law_place", 8)]) (g := (gTup K 3 (gCons (gName 6) (gCons (gName 7) (gCons (gName 8) gNil))))) (tt := (tTest (tOp rEq (tVar 6) (tVar 3)))) (te := (tVar 8)) rfl sc__law_near_place.nd (pi_tup (pv 5)) (blkOk_by (N := n__law_near_place) (sc := defScope a__law_near_place) (by decide +kernel))
          (fun _ _ _ _ _ => (pg_tup rfl (pgs_cons (pg_name (i := 6) sc__law_near_place.nd rfl (.inl rfl) (hf := .inr rfl)) (pgs_cons (pg_name (i := 7) sc__law_near_place.nd rfl (.inl rfl) (hf := .inr rfl)) (pgs_cons (pg_name (i := 8) sc__law_near_place.nd rfl (.inl rfl) (hf := .inr rfl)) pgs_nil))))) (fun _ _ _ _ _ => pts_one (pt_cmpR (r := rEq) op_eq (pv 6) (pv 3) (nomark _))) (fun _ _ _ _ _ => (pv 8))) pa_nil)))))
      (pss_one (ps_ret (pe_callB (call_max2 rfl) (by rfl) m_max (by decide +kernel) (pa_cons pe_int (pa_cons (pe_callB (call_min2 rfl) (by rfl) m_min (by decide +kernel) (pa_cons (pe_op op_sub (pe_op op_add (pe_kn Lo hr (by omega) (pa_cons (pv 0) (pa_cons (pv 4) pa_nil))) (pe_kn Ta hr (by omega) (pa_cons (pv 0) (pa_cons pe_int pa_nil)))) pe_int) (pa_cons (pe_ix ix_tup (pv 1) (pv 3) (fun _ _ => rfl)) pa_nil))) pa_nil))))))), ?_⟩
    have tp := pl _ (List.getElem_mem hi)
    have ati : atI (tops.map V.int) (i : Int) = some (.int tops[i]) := at_int hi
    refine ⟨_, rfl, _, rfl, t, _, i, _, rfl, rfl, .inl (.inl et), ati, _, rfl, _, rfl, _, rfl, t, _, i, _, rfl, rfl, .inl (.inl et), ati, _, _, rfl, rfl, ?_⟩
    have big : (10 : Int) ^ 30 + 1 < 2 ^ 200 := by decide
    refine ⟨a, tops[i] + 1, c, rfl, pp, by omega, by omega, by omega, fun d H1 b1 p1 d0 d1 => ⟨(show 3 ≤ sizeLine by decide), fun l nl => ?_⟩⟩
    have sl := same_new (o := HO.lst [V.int 0, V.int tops[i], V.int d]) nl
    have nla := p1.ne nl
    have b2 := b1.trans (But.of sl)
    have p2 := p1.keep sl
    obtain ⟨Z, eR, eZ, hZ⟩ := hR.rls
    have lZ : Z.length = rs.length := by rw [← eZ, List.length_map]
    have k12 := Keep.but b2 pp
    have nHl : H l = none := b1.free nla nl
    refine ⟨_, rfl, R, rfl, ⟨_, .inl (.inl (k12.tup eR))⟩, for_it (walk_tup (xs := rlR Z)) (fun k σ H' => (∃ u5 u6 u7 u8, σ = [some (V.ref a), some (.ref t), some (.ref R), some (.int (i : Int)), some (.ref l), u5, u6, u7, u8]) ∧ Keep (upd H1 l (.lst [V.int 0, V.int tops[i], V.int d])) H' ∧ (But a H H' ∧ PotAt H' a (c + 1)) ∧ ∃ ys : List Int, H' l = some (.lst (ys.map V.int)) ∧ 1 ≤ ys.length ∧ ys.length ≤ 3 + 2 * k)
      ⟨⟨_, _, _, _, rfl⟩, Keep.refl _, ⟨b2, p2⟩, [0, tops[i], d], upd_same, (show 1 ≤ 3 by decide), Nat.le_refl _⟩ (fun k σ H' _ y => .inl (.inl (y.2.1.tup (k12.tup eR)))) (fun k v σ H3 H4 hk y z => ?_) (fun σ H3 y => ?_)⟩
    · obtain ⟨⟨u5, u6, u7, u8, rfl⟩, k3, b3, ys, el, y1, y2⟩ := y
      obtain ⟨rfl, gv⟩ := z
      obtain ⟨z, ez, rfl⟩ := mapGet gv
      have mz := List.mem_of_getElem? ez
      have hk' : k < Z.length := by simpa using hk
      obtain ⟨a1, a2, ezz, h1, h2⟩ := ((hZ z mz).keep k12).keep k3
      refine ⟨_, rfl, .inl ⟨rfl, _, .inl (.inl el)⟩, _, rfl, z.1, rfl, ⟨_, .inl (.inl ezz)⟩, fun D nD => lc_it (walk_tup (xs := [a1, a2].map V.ref)) (fun j H' => Same H4 H' ∧ ∃ xs : List Int, H' D = some (.lst (xs.map V.int)) ∧ xs.length ≤ j) ⟨same_new nD, [], upd_same, Nat.le_refl _⟩ (fun j H' _ y => .inl (.inl (y.1 _ _ ezz))) (fun j v H5 H6 hj y z' => ?_) (fun H5 y => ?_)⟩
      · obtain ⟨s5, xs, eD, lx⟩ := y
        obtain ⟨rfl, gv'⟩ := z'
        obtain ⟨u, eu, rfl⟩ := mapGet gv'
        have j2 : j < 2 := hj
        obtain ⟨⟨sn, sb, sp⟩, hs⟩ : ∃ sd, SideAt H6 u sd := by
          have : j = 0 ∨ j = 1 := by omega
          rcases this with rfl | rfl
          · cases eu
            exact ⟨_, h1.keep (.same s5)⟩
          · cases eu
            exact ⟨_, h2.keep (.same s5)⟩
        have hs' : H6 u = some (.tup [.int (sn : Int), .str (word sb), .int sp]) := hs
        refine ⟨u, _, rfl, .inl (.inl hs'), rfl, _, _, rfl, _, _, rfl, _, _, rfl, rfl, wipe_seq3 (m := "_law_other") (n := "_law_word") (o := "_law_place"), ?_⟩
        refine ⟨_, rfl, _, rfl, rfl, _, rfl, ite2 (fun _ => ?_) (fun _ => ⟨s5, xs, eD, by omega⟩)⟩
        refine ⟨_, rfl, _, eD, by rw [List.length_map]; exact small1000 (by omega), same_over s5 nD, xs ++ [sp], by rw [upd_same, List.map_append]; rfl, by rw [List.length_append]; simp only [List.length_cons, List.length_nil]; omega⟩
      · obtain ⟨s5, xs, eD, lx⟩ := y
        have lx2 : xs.length ≤ 2 := lx
        have el5 := s5 _ _ el
        refine ⟨l, D, _, _, rfl, rfl, el5, eD, by rw [List.length_map, List.length_map]; exact Nat.le_of_lt (small1000 (by omega)), ⟨_, _, _, _, rfl⟩, (k3.trans (.same s5)).trans (.upd el5), ⟨but_new (b3.1.trans (But.of s5)) nHl, pot_upd (b3.2.keep s5) nla⟩, ys ++ xs, by rw [upd_same, List.map_append], by rw [List.length_append]; omega, by rw [List.length_append]; omega⟩
    · obtain ⟨⟨u5, u6, u7, u8, rfl⟩, k3, b3, ys, el, y1, y2⟩ := y
      rw [List.length_map] at y2
      obtain ⟨b3, p3⟩ := b3
      have ep : plc tops i = tops[i] := plc_get hi
      refine ⟨_, rfl, _, rfl, a, l, ys.map V.int, _, rfl, p3, nla, .inl (.inl (.inl el)), by rw [List.length_map]; exact y1, by rw [List.length_map]; omega, by omega, fun x H6 hx b6 p6 => ?_⟩
      obtain ⟨y, _, rfl⟩ := List.mem_map.mp hx
      refine ⟨_, rfl, a, 3, _, rfl, p6, by decide, by decide, by omega, fun e H7 b7 p7 e0 e1 => ⟨_, _, rfl, rfl, _, _, rfl, rfl, ?_⟩⟩
      have b37 := (b3.trans b6).trans b7
      have et7 := (Keep.but b37 pp).tup et
      refine ⟨_, rfl, _, rfl, t, _, i, _, rfl, rfl, .inl (.inl et7), ati, _, _, rfl, _, _, rfl, ?_⟩
      refine q _ _ b37 (p7.mono (by omega)) ?_ ?_
      · split <;> omega
      · rw [ep]
        split <;> split <;> omega

theorem mk_cal {n : Nat} {os : List Int} {bs : List Bool} (pm : os.Perm ((List.range n).map fun i => ((i : Nat) : Int))) (lb : bs.length = n) : Cal n (os.zip (bs.map fun b => if b then (1 : Int) else 0)) ∧ (os.zip (bs.map fun b => if b then (1 : Int) else 0)).map (·.1) = os ∧ (os.zip (bs.map fun b => if b then (1 : Int) else 0)).map (fun x => V.bl (decide (x.2 = 1))) = bs.map V.bl := by
  have lo : os.length = n := by
    have := pm.length_eq
    rw [List.length_map, List.length_range] at this
    exact this
  have e1 : (os.zip (bs.map fun b => if b then (1 : Int) else 0)).map (·.1) = os := List.map_fst_zip (by rw [List.length_map]; omega)
  have e2 : (os.zip (bs.map fun b => if b then (1 : Int) else 0)).map (·.2) = bs.map fun b => if b then (1 : Int) else 0 := List.map_snd_zip (by rw [List.length_map]; omega)
  refine ⟨⟨by rw [List.length_zip, List.length_map]; omega, fun x hx => ?_, ?_⟩, e1, ?_⟩
  · have : x.1 ∈ os := by
      rw [← e1]
      exact List.mem_map.mpr ⟨x, hx, rfl⟩
    obtain ⟨i, hi, e⟩ := List.mem_map.mp (pm.mem_iff.mp this)
    have := List.mem_range.mp hi
    omega
  · rw [e1]
    refine pm.nodup_iff.mpr ?_
    rw [List.nodup_iff_pairwise_ne, List.pairwise_map]
    exact List.nodup_range.imp fun h e => h (by omega)
  · have : (os.zip (bs.map fun b => if b then (1 : Int) else 0)).map (fun x => V.bl (decide (x.2 = 1))) = ((os.zip (bs.map fun b => if b then (1 : Int) else 0)).map (·.2)).map fun y => V.bl (decide (y = 1)) := by
      rw [List.map_map]
      rfl
    rw [this, e2, List.map_map]
    refine List.map_congr_left fun b _ => ?_
    cases b <;> rfl
theorem ints_of {ys : List V} {ns : List Int} (h : ∀ v ∈ ys, v ∈ ns.map V.int) : ∃ ms : List Int, ys = ms.map V.int := by
  induction ys with
  | nil => exact ⟨[], rfl⟩
  | cons y ys ih =>
    obtain ⟨ms, e⟩ := ih fun v hv => h v (List.mem_cons_of_mem _ hv)
    obtain ⟨m, _, em⟩ := List.mem_map.mp (h y List.mem_cons_self)
    exact ⟨m :: ms, by rw [e, ← em]; rfl⟩
def spR19 : Sp := fun vs H Q _ => ∃ (p : Addr) (c : Nat), vs = [.ref p] ∧ PotAt H p c ∧ c < 500000 ∧ ∀ H', But p H H' → Q (.bl true) H'
abbrev a__law_right : Stmt := topS 68
abbrev n__law_right : List Str := ["_law_pot_here", "_law_tops", "_law_rules_here", "_law_one", "_law_two", "_law_top", "_law_order", "_law_flips", "_law_new", "_law_thing", "_law_plan_here", "_law_other", "_law_standing_here", "_law_want", "_law_k", "_law_back", "_law_led_here", "_law_place"]
theorem sc__law_right : FnScope n__law_right ["_law_pot_here"] (defScope a__law_right) := ⟨rfl, rfl, rfl, by decide +kernel, rfl, by decide +kernel, by decide +kernel⟩
set_option maxHeartbeats 8000000 in
theorem ok__law_right {f fGr fTa fTu fRu fLo fNp fOt fSl fWr fBr : Addr} {fd fdGr fdTa fdTu fdRu fdLo fdNp fdOt fdSl fdWr fdBr : FuncData}  {C f0 : Addr} {fd0 : FuncData} (F : Fun K "_law_right" "_law_right" a__law_right f fd) (Gr : Kn P w K mg base 5 "_law_great" ["_law_pot_here"] spGreat fGr fdGr) (Ta : Kn P w K mg base 1 "_law_take" ["_law_pot_here", "_law_many"] spTake fTa fdTa) (Tu : Kn P w K mg base 2 "_law_turned" ["_law_pot_here", "_law_some"] (spTu K) fTu fdTu) (Ru : Kn P w K mg base 4 "_law_rules_led" ["_law_pot_here", "_law_tops", "_law_order", "_law_flips", "_law_rules_here"] (spRul K) fRu fdRu) (Lo : Kn P w K mg base 2 "_law_of" ["_law_pot_here", "_law_some"] (spOf K) fLo fdLo) (Np : Kn P w K mg base 3 "_law_near_place" ["_law_pot_here", "_law_tops", "_law_rules_here", "_law_thing"] spNp fNp fdNp) (Ot : Kn P w K mg base 2 "other_side" ["plan", "side"] (spOth C) fOt fdOt) (Sl : Kn P w K mg base 2 "_law_side_led" ["_law_tops", "_law_order", "_law_flips", "_law_side"] spSl fSl fdSl) (Wr : FnG P w K mg base 11 fWr fdWr ["_law_plan_here", "_law_other", "_law_order", "_law_flips", "_law_standing_here", "_law_want"] (spWR K C)) (gWr : mg "_law_want_right" = some (.ref fWr)) (kWr : PySem.W.keepIn K (.ref fWr) = true) (bWr : Binds K fdWr ["_law_plan_here", "_law_other", "_law_order", "_law_flips", "_law_standing_here", "_law_want"] []) (Br : FnG P w K mg base 10 fBr fdBr ["_law_plan_here", "_law_other", "_law_order", "_law_flips", "_law_thing", "_law_place"] (spBR K C)) (gBr : mg "_law_bundle_right" = some (.ref fBr)) (kBr : PySem.W.keepIn K (.ref fBr) = true) (bBr : Binds K fdBr ["_law_plan_here", "_law_other", "_law_order", "_law_flips", "_law_thing", "_law_place"] []) (TX : PlanTxt K mg C) (M : Mk K C f0) (GI : FnOk P w K mg base CX0 7 f0 fd0 ["self", "tops", "rules"] (spInit C)) (bI : Binds K fd0 ["self", "tops", "rules"] []) (m_enumerate : mg "enumerate" = none) (m_len : mg "len" = none) (m_list : mg "list" = none) (m_min : mg "min" = none) (m_range : mg "range" = none) (m_tuple : mg "tuple" = none) : FnG P w K mg base 12 f fd ["_law_pot_here"] spR19 := by
  refine fnG F sc__law_right (fun vs H Q E h => ?_) (fun cdv A outer s H vs Q E hG hr h => ?_)
  · obtain ⟨p, c, rfl, _⟩ := h
    rfl
  · obtain ⟨p, c, rfl, pp, hc, q⟩ := h
    refine ⟨_, (pss_cons (ps_asg (pe_kn Gr hr (by omega) (pa_cons (pv 0) pa_nil)) (pg_tup rfl (pgs_cons (pg_name (i := 1) sc__law_right.nd rfl (.inl rfl)) (pgs_cons (pg_name (i := 2) sc__law_right.nd rfl (.inl rfl)) (pgs_cons (pg_name (i := 3) sc__law_right.nd rfl (.inl rfl)) (pgs_cons (pg_name (i := 4) sc__law_right.nd rfl (.inl rfl)) pgs_nil))))))
      (pss_cons (ps_set (i := 2) sc__law_right.nd rfl (.inl rfl) (pe_slice (r := rSlA K) sl_tupA (pv 2) po_none (po_some pe_int)))
      (pss_cons (ps_par (i := 6) (j := 7) (by rfl) sc__law_right.nd rfl rfl (by decide) rfl rfl (pa_cons (pe_kn Tu hr (by omega) (pa_cons (pv 0) (pa_cons (pe_listRg rfl (by rfl) m_list (prg_1 (by rfl) m_range (pe_callB call_len_seq (by rfl) m_len (by decide +kernel) (pa_cons (pv 1) pa_nil)))) pa_nil))) (pa_cons (
        pe_lc (own := [("_law_top", 5)]) (g := (gName 5)) (tt := tYes) (te := (tOp rEq (tCall spTake [] E0 (tCons (tVar 0) (tCons (tC (.int 2)) tNil))) (tC (.int 0)))) rfl sc__law_right.nd (pi_tup (pv 1)) (blkOk_by (N := n__law_right) (sc := defScope a__law_right) (by decide +kernel))
          (fun _ _ _ _ _ => (pg_name (i := 5) sc__law_right.nd rfl (.inl rfl) (hf := .inr rfl))) (fun _ _ _ _ _ => pts_nil) (fun _ _ _ _ _ => (pe_cmpR (r := rEq) op_eq (pe_kn Ta hr (by omega) (pa_cons (pv 0) (pa_cons pe_int pa_nil))) pe_int (nomark _)))) pa_nil)) (by rfl))
      (pss_cons (ps_set (i := 8) sc__law_right.nd rfl (.inl rfl) (pe_op op_rep (pe_lst (pa_cons pe_int pa_nil)) (pe_callB call_len_seq (by rfl) m_len (by decide +kernel) (pa_cons (pv 1) pa_nil))))
      (pss_cons (ps_for PassesOwn.never rfl (pi_enumT (by rfl) m_enumerate (pa_cons (pv 1) pa_nil)) (pg_tup rfl (pgs_cons (pg_name (i := 9) sc__law_right.nd rfl (.inl rfl)) (pgs_cons (pg_name (i := 5) sc__law_right.nd rfl (.inl rfl)) pgs_nil)))
        (pss_one (ps_asg (pv 5) (pg_sub (pv 8) (pe_ix ix_list (pv 6) (pv 9) (fun _ _ => rfl)) set_list))))
      (pss_cons (ps_par (i := 10) (j := 11) (by rfl) sc__law_right.nd rfl rfl (by decide) rfl rfl (pa_cons (pe_make M GI (hr.mono (by omega)) (by rfl) TX.mgC bI .nil pass0 (pa_cons (pv 1) (pa_cons (pv 2) pa_nil))) (pa_cons (pe_make M GI (hr.mono (by omega)) (by rfl) TX.mgC bI .nil pass0 (pa_cons (pe_callTy call_tuple_of (by rfl) m_tuple (by decide +kernel) (pa_cons (pv 8) pa_nil)) (pa_cons (pe_kn Ru hr (by omega) (pa_cons (pv 0) (pa_cons (pv 1) (pa_cons (pv 6) (pa_cons (pv 7) (pa_cons (pv 2) pa_nil)))))) pa_nil))) pa_nil)) (by rfl))
      (pss_cons (ps_for PassesOwn.never rfl (pi_tup (pe_tup (pa_cons (pv 3) (pa_cons (pv 4) pa_nil)))) (pg_name (i := 12) sc__law_right.nd rfl (.inl rfl))
        (pss_cons (ps_set (i := 13) sc__law_right.nd rfl (.inl rfl) (pe_lst pa_nil))
      (pss_cons (ps_for PassesOwn.never rfl (pi_range1 (by rfl) m_range (pa_cons (pe_op op_add pe_int (pe_kn Ta hr (by omega) (pa_cons (pv 0) (pa_cons pe_int pa_nil)))) pa_nil)) (pg_name (i := 14) sc__law_right.nd rfl (.inl rfl))
        (pss_cons (ps_set (i := 9) sc__law_right.nd rfl (.inl rfl) (pe_kn Ta hr (by omega) (pa_cons (pv 0) (pa_cons (pe_callB call_len_seq (by rfl) m_len (by decide +kernel) (pa_cons (pv 1) pa_nil)) pa_nil))))
      (pss_one (ps_expr (pe_bm PySem.F.plainAttrs_list PySem.F.slot_list_append PySem.F.type_list_append mt_append (pv 13) (pa_cons (pe_tup (pa_cons (pv 9) (pa_cons (pe_kn Lo hr (by omega) (pa_cons (pv 0) (pa_cons (pe_lst (pa_cons pe_str (pa_cons pe_str pa_nil))) pa_nil))) (pa_cons (pe_kn Np hr (by omega) (pa_cons (pv 0) (pa_cons (pv 1) (pa_cons (pv 2) (pa_cons (pv 9) pa_nil))))) pa_nil)))) pa_nil))))))
      (pss_cons (ps_set (i := 15) sc__law_right.nd rfl (.inl rfl) (pe_kn Ot hr (by omega) (pa_cons (pv 10) (pa_cons (pe_ix ix_list (pv 13) pe_int (fun _ _ => rfl)) pa_nil))))
      (C8.pss_cut (ps_set (i := 16) sc__law_right.nd rfl (.inl rfl) (pe_ifExp (pt_cmpR op_isN (pv 15) pe_non (nomark _)) pe_non (pe_kn Sl hr (by omega) (pa_cons (pv 1) (pa_cons (pv 6) (pa_cons (pv 7) (pa_cons (pv 15) pa_nil)))))))
      (pss_cons (ps_if (pt_cmpR (op_neD hr.units) (pe_kn Ot hr (by omega) (pa_cons (pv 11) (pa_cons (pe_kn Sl hr (by omega) (pa_cons (pv 1) (pa_cons (pv 6) (pa_cons (pv 7) (pa_cons (pe_ix ix_list (pv 13) pe_int (fun _ _ => rfl)) pa_nil))))) pa_nil))) (pv 16) (nomark _)) (pss_one (ps_ret pe_bl)) pss_nil)
      (pss_cons (ps_if (pt_not (pt_val (pe_callG hG Wr (hr.mono (by omega)) (by rfl) gWr kWr bWr (pa_cons (pv 10) (pa_cons (pv 11) (pa_cons (pv 6) (pa_cons (pv 7) (pa_cons (pv 12) (pa_cons (pe_callTy call_tuple_of (by rfl) m_tuple (by decide +kernel) (pa_cons (pv 13) pa_nil)) pa_nil))))))))) (pss_one (ps_ret pe_bl)) pss_nil)
      (pss_cons (ps_set (i := 9) sc__law_right.nd rfl (.inl rfl) (pe_ix ix_tup (pe_ix ix_list (pv 13) pe_int (fun _ _ => rfl)) pe_int (fun _ _ => rfl)))
      (pss_cons (ps_set (i := 17) sc__law_right.nd rfl (.inl rfl) (pe_callB (call_min2 rfl) (by rfl) m_min (by decide +kernel) (pa_cons (pe_ix ix_tup (pe_ix ix_list (pv 13) pe_int (fun _ _ => rfl)) pe_int (fun _ _ => rfl)) (pa_cons (pe_op op_sub (pe_ix ix_tup (pv 1) (pv 9) (fun _ _ => rfl)) pe_int) pa_nil))))
      (pss_one (ps_if (PW.pt (pw_and (pt_cmpR op_ge (pv 17) pe_int (nomark _)) (pw_and1 (pt_not (pt_val (pe_callG hG Br (hr.mono (by omega)) (by rfl) gBr kBr bBr (pa_cons (pv 10) (pa_cons (pv 11) (pa_cons (pv 6) (pa_cons (pv 7) (pa_cons (pv 9) (pa_cons (pv 17) pa_nil)))))))))))) (pss_one (ps_ret pe_bl)) pss_nil)))))))))))
      (pss_one (ps_ret pe_bl))))))))), ?_⟩
    have w2 : (2 : Nat) ≤ sizeLine := by decide
    have w3 : (3 : Nat) ≤ sizeLine := by decide
    refine ⟨.ref p, rfl, p, _, rfl, pp, by omega, fun H1 g t R o1 o2 tops st1 st2 rs0 b1 p1 eg et l1 l12 pl hR0 lR S1 S2 rk => ?_⟩
    refine ⟨g, _, rfl, .inl (.inl eg), rfl, _, _, rfl, _, _, rfl, _, _, rfl, _, _, rfl, rfl, .ref R, rfl, ?_⟩
    show tNoPart _ _ _
    unfold tNoPart
    refine ⟨9, rfl, rules_cut hR0 9 fun R2 H2 s2 hR => ?_⟩
    have rk' : ∀ y ∈ rs0.take 9, RuleOk tops y ∧ kept st1 y = true ∧ kept st2 y = true := fun y hy => rk y (List.mem_of_mem_take hy)
    have lR' : (rs0.take 9).length ≤ 9 := by
      rw [List.length_take]
      omega
    generalize rs0.take 9 = rs at hR rk' lR'
    have rok : ∀ q ∈ rs, RuleOk tops q := fun y hy => (rk' y hy).1
    dsimp only [List.set]
    have et2 := s2 _ _ et
    have p2 := p1.keep s2
    have b2 := b1.trans (But.of s2)
    refine ⟨_, rfl, _, rfl, t, _, rfl, .inr (.inl (.inl et2)), tops.length, by rw [List.length_map], RgOk.of_le (by omega) (by omega) (by omega) (by omega), fun A nA => ?_⟩
    have e0 : rgV 0 (tops.length : Int) = ((List.range tops.length).map fun i => ((i : Nat) : Int)).map V.int := by
      unfold rgV
      rw [show ((tops.length : Int) - 0).toNat = tops.length by omega, List.map_map]
      refine List.map_congr_left fun i _ => ?_
      show V.int (0 + (i : Int)) = V.int (i : Int)
      rw [Int.zero_add]
    rw [e0]
    have sA := same_new (o := HO.lst (((List.range tops.length).map fun i => ((i : Nat) : Int)).map V.int)) nA
    refine ⟨p, A, _, c + 3000, rfl, p2.keep sA, upd_same, by rw [List.length_map, List.length_map, List.length_range]; omega, by omega, fun ys hys _ H' _ => ?_, fun H3 O ys b3 p3 nO nOp eO pm => ?_⟩
    · obtain ⟨ms, rfl⟩ := ints_of hys
      exact ⟨_, dps _, shaped_ints_l _⟩
    obtain ⟨os, rfl⟩ := ints_of (ys := ys) fun v hv => pm.mem_iff.mp hv
    have pmo : os.Perm ((List.range tops.length).map fun i => ((i : Nat) : Int)) := by
      obtain ⟨qs, a, b⟩ := perm_map_ex pm _ rfl
      have : os = qs := by
        have := congrArg (List.map fun v : V => match v with | .int i => i | _ => 0) b
        rw [List.map_map, List.map_map] at this
        have e : ∀ l : List Int, l.map ((fun v : V => match v with | .int i => i | _ => 0) ∘ V.int) = l := fun l => by
          have : ((fun v : V => match v with | .int i => i | _ => 0) ∘ V.int) = id := rfl
          rw [this, List.map_id]
        rw [e, e] at this
        exact this
      rw [this]
      exact a
    have sb2 := b2.trans (But.of sA)
    have b13 := sb2.trans b3
    have kA3 := (Keep.same sA).trans (Keep.but b3 (p2.keep sA))
    have et3 := kA3.tup et2
    have nHO : H O = none := sb2.free nOp nO
    refine ⟨_, rfl, t, rfl, ⟨_, .inl (.inl et3)⟩, fun D nD => lc_it (walk_tup (xs := tops.map V.int)) (fun k H' => But p H3 H' ∧ PotAt H' p (c + 3100 + k) ∧ ∃ bs : List Bool, H' D = some (.lst (bs.map V.bl)) ∧ bs.length = k) ⟨but_new (fun _ _ _ e => e) nD, pot_upd (p3.mono (by omega)) (p3.ne nD), [], upd_same, rfl⟩ (fun k H' _ y => .inl (.inl ((Keep.but y.1 p3).tup et3))) (fun k v H4 H5 hk y z => ?_) (fun H4 y => ?_)⟩
    · obtain ⟨b4, p4, bs, eD, lb⟩ := y
      obtain ⟨rfl, gv⟩ := z
      have nDp : D ≠ p := p3.ne nD
      have hk' : k < tops.length := by simpa using hk
      refine ⟨wipe_one, _, rfl, p, 2, _, rfl, p4, by decide, by decide, by omega, fun d H6 b6 p6 d0 d1 => ⟨rfl, _, b6 _ _ nDp eD, by rw [List.length_map]; exact small1000 (by omega), but_new (b4.trans b6) nD, pot_upd (p6.mono (by omega)) nDp, bs ++ [decide (V.int d = V.int 0)], by rw [upd_same, List.map_append]; rfl, by rw [List.length_append, lb]; rfl⟩⟩
    obtain ⟨b4, p4, bs, eD, lb⟩ := y
    rw [List.length_map] at lb
    have nDp : D ≠ p := p3.ne nD
    obtain ⟨cal, eo1, ew1⟩ := mk_cal pmo lb
    generalize os.zip (bs.map fun b => if b then (1 : Int) else 0) = ls at cal eo1 ew1
    have hC4 : CalAt H4 O D ls := ⟨by rw [eo1]; exact b4 _ _ nOp eO, by rw [ew1]; exact eD⟩
    have b14 := b13.trans b4
    have p4' : PotAt H4 p (c + 3200) := p4.mono (by rw [List.length_map]; omega)
    have k34 := Keep.but b4 p3
    have et4 := k34.tup et3
    have hR4 := (hR.keep kA3).keep k34
    have S1' : Std tops H4 o1 st1 := ((S1.keep (.same s2)).keep kA3).keep k34
    have S2' : Std tops H4 o2 st2 := ((S2.keep (.same s2)).keep kA3).keep k34
    have nHD : H D = none := b13.free nDp nD
    refine ⟨_, _, rfl, ?_⟩
    dsimp only [List.set]
    have ll : ls.length = tops.length := cal.len
    refine ⟨(show 1 ≤ sizeLine by decide), fun Z nZ => ?_⟩
    have sZ := same_new (o := HO.lst [V.int 0]) nZ
    refine ⟨_, rfl, t, _, rfl, .inr (.inl (.inl (sZ _ _ et4))), ?_⟩
    rw [List.length_map]
    refine ⟨Z, tops.length, _, rfl, rfl, upd_same, by omega, by omega, ?_, fun N nN => ?_⟩
    · rw [Int.toNat_natCast]
      exact Nat.le_of_lt (small1000 (by simp; omega))
    have e1 : (List.replicate (tops.length : Int).toNat [V.int 0]).flatten = (List.replicate tops.length (0 : Int)).map V.int := by
      rw [Int.toNat_natCast]
      have : ∀ m : Nat, (List.replicate m [V.int 0]).flatten = (List.replicate m (0 : Int)).map V.int := fun m => by
        induction m with
        | zero => rfl
        | succ m ih =>
          rw [List.replicate_succ, List.replicate_succ, List.flatten_cons, ih]
          rfl
      exact this _
    rw [e1]
    have sN := sZ.trans (same_new (o := HO.lst ((List.replicate tops.length (0 : Int)).map V.int)) nN)
    have eN : (upd (upd H4 Z (.lst [V.int 0])) N (.lst ((List.replicate tops.length (0 : Int)).map V.int))) N = some (.lst ((List.replicate tops.length (0 : Int)).map V.int)) := upd_same
    have nNp : N ≠ p := (p4'.keep sZ).ne nN
    have n4N : H4 N = none := sZ.free nN
    generalize (upd (upd H4 Z (.lst [V.int 0])) N (.lst ((List.replicate tops.length (0 : Int)).map V.int))) = H5 at sN eN ⊢
    dsimp only [List.set]
    refine ⟨_, rfl, t, _, rfl, .inl (.inl (sN _ _ et4)), for_it (walk_enumT (xs := tops.map V.int)) (fun k σ H' => (∃ u5 u9 u10 u11 u12 u13 u14 u15 u16 u17, σ = [some (V.ref p), some (.ref t), some (.ref R2), some (.ref o1), some (.ref o2), u5, some (.ref O), some (.ref D), some (.ref N), u9, u10, u11, u12, u13, u14, u15, u16, u17]) ∧ Same H4 H' ∧ ∃ xs : List Int, H' N = some (.lst (xs.map V.int)) ∧ xs.length = tops.length ∧ ∀ i, i < k → xs.getD (sg ls i) 0 = plc tops i) ⟨⟨_, _, _, _, _, _, _, _, _, _, rfl⟩, sN, _, eN, List.length_replicate, fun i h => absurd h (Nat.not_lt_zero _)⟩ (fun k σ H' _ y => .inl (.inl (y.2.1 _ _ et4))) (fun k v σ H6 H7 hk y z => ?_) (fun σ H6 y => ?_)⟩
    · obtain ⟨⟨u5, u9, u10, u11, u12, u13, u14, u15, u16, u17, rfl⟩, s6, xs, eN6, lx, hx⟩ := y
      obtain ⟨T', v1, v2, rfl, nT', rfl, g1, g2⟩ := z
      obtain rfl : v1 = .int (k : Nat) := (Option.some.inj g1).symm
      obtain ⟨tv, etv, rfl⟩ := mapGet g2
      have hk' : k < tops.length := by simpa using hk
      have sT' := same_new (o := HO.tup [V.int (k : Nat), V.int tv]) nT'
      have s7 := s6.trans sT'
      have eN7 := sT' _ _ eN6
      have hC7 := hC4.same s7
      have ao := hC7.o cal hk'
      have sl := cal.sg_lt hk'
      have ixN' : ixN ((xs.map V.int).length) (sg ls k : Int) = some (sg ls k) := by
        unfold ixN
        rw [List.length_map, lx, if_pos (by omega), if_pos (by omega)]
        simp
      refine ⟨T', _, rfl, .inl (.inl upd_same), rfl, _, _, rfl, _, _, rfl, rfl, ?_⟩
      dsimp only [List.set]
      refine ⟨_, rfl, _, rfl, _, rfl, _, rfl, O, _, k, _, rfl, rfl, .inl (.inl hC7.eO), ao, N, _, _, sg ls k, rfl, rfl, eN7, ixN', ⟨_, _, _, _, _, _, _, _, _, _, rfl⟩, same_over s7 n4N, xs.set (sg ls k) tv, ?_, by rw [List.length_set]; exact lx, fun i hi => ?_⟩
      · rw [upd_same, List.map_set]
      · rw [List.getD_eq_getElem?_getD, List.getElem?_set]
        rcases Nat.lt_or_eq_of_le (Nat.le_of_lt_succ hi) with h | h
        · rw [if_neg (fun z => by
            have := cal.sg_inj hk' (by omega) z
            omega), ← List.getD_eq_getElem?_getD]
          exact hx i h
        · subst h
          rw [if_pos rfl, if_pos (by rw [lx]; exact sl)]
          unfold plc
          rw [List.getD_eq_getElem?_getD, etv]
    obtain ⟨⟨u5, u9, u10, u11, u12, u13, u14, u15, u16, u17, rfl⟩, s6, tops', eN6, lx, hx⟩ := y
    rw [List.length_map] at hx
    have p6 := p4'.keep s6
    have et6 := s6 _ _ et4
    dsimp only [List.set]
    refine ⟨_, rfl, _, rfl, fun x dx nx ndx ne => plan_made (C := C) (rs := rs) nx ndx ne et6 (hR4.keep (.same s6)) l1 l12 pl (by omega) rok fun H7 s7 hp7 => ⟨rfl, ?_⟩⟩
    have s47 := s6.trans s7
    have p7 := p6.keep s7
    have et7 := s7 _ _ et6
    refine ⟨_, rfl, N, _, rfl, .inl ⟨.inl (.inl (s7 _ _ eN6)), fun t' nt' => ?_⟩⟩
    have st' := same_new (o := HO.tup (tops'.map V.int)) nt'
    have s48 := s47.trans st'
    have et' : (upd H7 t' (.tup (tops'.map V.int))) t' = some (.tup (tops'.map V.int)) := upd_same
    have hp8 := hp7.keep (.same st')
    generalize upd H7 t' (.tup (tops'.map V.int)) = H8 at st' s48 et' hp8 ⊢
    have p8 := p7.keep st'
    have et8 := st' _ _ et7
    refine ⟨_, rfl, _, rfl, _, rfl, _, rfl, _, rfl, p, t, O, D, R2, ls, tops, rs, c + 3200, rfl, p8, nOp, nDp, et8, hC4.same s48, cal, hR4.keep (.same s48), lR', rok, by omega, fun H9 R' rs' b9 p9 hR9 lR9 X => ?_⟩
    have K1 : Cld ls tops tops' rs rs' := ⟨cal, lx, hx, X, rok⟩
    have k89 := Keep.but b9 p8
    refine fun x' dx' nx' ndx' ne' => plan_made (C := C) (rs := rs') nx' ndx' ne' (k89.tup et') hR9 (by omega) (by omega) (K1.plt pl) (by omega) K1.rules fun HA sA hpA => ⟨rfl, _, _, rfl, ?_⟩
    dsimp only [List.set]
    refine ⟨_, rfl, _, rfl, w2, fun T nT => ⟨T, rfl, ⟨_, .inl (.inl upd_same)⟩, ?_⟩⟩
    have sT := same_new (o := HO.tup [V.ref o1, V.ref o2]) nT
    have sAT := sA.trans sT
    have pG := p9.keep sAT
    have b4G : But p H4 (upd HA T (.tup [V.ref o1, V.ref o2])) := ((But.of s48).trans b9).trans (But.of sAT)
    have k4G := Keep.but b4G p4'
    have hCG : CalAt (upd HA T (.tup [V.ref o1, V.ref o2])) O D ls := ⟨b4G _ _ nOp hC4.eO, b4G _ _ nDp hC4.eW⟩
    have hWG : W19 K C (upd HA T (.tup [V.ref o1, V.ref o2])) x x' O D ls tops tops' rs rs' := ⟨(hp8.keep k89).keep (.same sAT), hpA.keep (.same sT), K1, hCG, by omega, by omega, l12, pl⟩
    have etG := k4G.tup et4
    have hRG := hR4.keep k4G
    have S1G := S1'.keep k4G
    have S2G := S2'.keep k4G
    have bG := b14.trans b4G
    have eTG : (upd HA T (.tup [V.ref o1, V.ref o2])) T = some (.tup ([o1, o2].map V.ref)) := upd_same
    generalize (upd HA T (.tup [V.ref o1, V.ref o2])) = G at pG hWG etG hRG S1G S2G bG eTG ⊢
    have hK : ∀ {H'}, But p G H' → Keep G H' := fun b => Keep.but b pG
    have hW : ∀ {H'}, But p G H' → W19 K C H' x x' O D ls tops tops' rs rs' := fun b => ⟨hWG.hp.keep (hK b), hWG.hp'.keep (hK b), K1, ⟨b _ _ nOp hWG.cal.eO, b _ _ nDp hWG.cal.eW⟩, hWG.l40, hWG.l40', l12, pl⟩
    refine for_it (walk_tup (xs := [o1, o2].map V.ref)) (fun j σ H' => (∃ u5 u9 u12 u13 u14 u15 u16 u17, σ = [some (V.ref p), some (.ref t), some (.ref R2), some (.ref o1), some (.ref o2), u5, some (.ref O), some (.ref D), some (.ref N), u9, some (.ref x), some (.ref x'), u12, u13, u14, u15, u16, u17]) ∧ But p G H' ∧ PotAt H' p (c + 4000 + 100 * j))
      ⟨⟨_, _, _, _, _, _, _, _, rfl⟩, (fun _ _ _ e => e), pG.mono (by omega)⟩ (fun j σ H' _ y => .inl (.inl ((hK y.2.1).tup eTG))) (fun j v σ H5' H5 hj y z => ?_) (fun σ H5 y => q _ (bG.trans y.2.1))
    obtain ⟨⟨u5, u9, u12, u13, u14, u15, u16, u17, rfl⟩, b5, p5⟩ := y
    obtain ⟨rfl, gv⟩ := z
    obtain ⟨o, eo, rfl⟩ := mapGet gv
    obtain ⟨st, So, gst⟩ : ∃ st, Std tops G o st ∧ st ∈ goods tops rs := by
      have : j = 0 ∨ j = 1 := by
        have : j < 2 := hj
        omega
      rcases this with rfl | rfl
      · cases eo
        exact ⟨st1, S1G, std_goods S1G fun y hy => (rk' y hy).2.1⟩
      · cases eo
        exact ⟨st2, S2G, std_goods S2G fun y hy => (rk' y hy).2.2⟩
    have j2 : j < 2 := hj
    dsimp only [List.set]
    refine ⟨Nat.zero_le _, fun F nF => ?_⟩
    have nFp := p5.ne nF
    have nGF : G F = none := b5.free nFp nF
    have b6 : But p G (upd H5 F (.lst [])) := but_new b5 nGF
    have p6 := pot_upd (o := .lst []) p5 nFp
    refine ⟨_, rfl, p, 3, _, rfl, p6, by decide, by decide, by omega, fun d H6 b7 p7 d0 d1 => ?_⟩
    have b67 := b6.trans b7
    have eF7 : H6 F = some (.lst (sdR [])) := b7 _ _ nFp upd_same
    refine ⟨1, d, rfl, rfl, _, rfl, by omega, by omega, for_it walk_range (fun k σ H' => (∃ u9 u14, σ = [some (V.ref p), some (.ref t), some (.ref R2), some (.ref o1), some (.ref o2), u5, some (.ref O), some (.ref D), some (.ref N), u9, some (.ref x), some (.ref x'), some (.ref o), some (.ref F), u14, u15, u16, u17]) ∧ But p G H' ∧ PotAt H' p (c + 4000 + 100 * j + 1 + 10 * k) ∧ ∃ L : List (Addr × Sd), H' F = some (.lst (sdR L)) ∧ SdsAt H' L ∧ (∀ z ∈ L, SideOk tops z.2) ∧ L.length = k)
      ⟨⟨_, _, rfl⟩, b67, p7.mono (by omega), [], eF7, fun _ h => absurd h List.not_mem_nil, fun _ h => absurd h List.not_mem_nil, rfl⟩ (fun _ _ _ _ _ => trivial) (fun k v σ H7' H7 hk y z => ?_) (fun σ H7 y => ?_)⟩
    · obtain ⟨⟨u9, u14, rfl⟩, b8, p8, L, eF8, hL, okL, lL⟩ := y
      obtain ⟨rfl, rfl⟩ := z
      dsimp only [List.set]
      have k4' : k < 4 := by omega
      have k8 := hK b8
      refine ⟨_, rfl, _, rfl, t, _, rfl, .inr (.inl (.inl (k8.tup etG))), p, _, _, rfl, p8, by rw [List.length_map]; omega, by rw [List.length_map]; exact len_bd l12, by omega, fun n H8 b9' p9' n0 n1 => ?_⟩
      rw [List.length_map] at n1
      obtain ⟨n, rfl⟩ : ∃ m : Nat, n = m := ⟨n.toNat, by omega⟩
      have hn : n < tops.length := by omega
      have b89 := b8.trans b9'
      dsimp only [List.set]
      refine ⟨_, rfl, .inl ⟨rfl, _, .inl (.inl (b9' _ _ nFp eF8))⟩, _, rfl, _, rfl, w2, fun Wd nWd => ?_⟩
      have nWp := p9'.ne nWd
      have sW := same_new (o := HO.lst [V.str "from", V.str "to"]) nWd
      refine ⟨p, Wd, _, _, rfl, p9'.keep sW, nWp, .inl (.inl (.inl upd_same)), (show 1 ≤ 2 by decide), (show 2 ≤ 1000000 by decide), by omega, fun wv H9' hw bA pA => ?_⟩
      obtain ⟨wb, rfl⟩ := words_mem hw
      have b9A := (b89.trans (But.of sW)).trans bA
      have kA := hK b9A
      refine ⟨_, rfl, _, rfl, _, rfl, _, rfl, p, t, R2, n, tops, rs, _, rfl, pA, kA.tup etG, hRG.keep kA, lR', hn, l12, pl, by omega, fun HB pl' bB pB q0 q1 => ⟨w3, fun g' ng' => ?_⟩⟩
      have sg' := same_new (o := HO.tup [V.int (n : Int), V.str (word wb), V.int pl']) ng'
      have b8B := ((b9'.trans (But.of sW)).trans bA).trans bB
      have eFB := sg' _ _ (b8B _ _ nFp eF8)
      have k8B := (Keep.but b8B p8).trans (.same sg')
      have kU : Keep (upd HB g' (.tup [V.int (n : Int), V.str (word wb), V.int pl'])) (upd (upd HB g' (.tup [V.int (n : Int), V.str (word wb), V.int pl'])) F (.lst (sdR L ++ [.ref g']))) := .upd eFB
      refine ⟨F, _, _, rfl, rfl, eFB, by rw [List.length_map]; exact small1000 (by omega), ⟨_, _, rfl⟩, but_new ((b8.trans b8B).trans (But.of sg')) nGF, pot_upd ((pB.keep sg').mono (by omega)) nFp, L ++ [(g', (n, wb, pl'))], by rw [upd_same]; simp only [sdR, List.map_append]; rfl, fun y hy => ?_, fun y hy => ?_, by rw [List.length_append, lL]; rfl⟩
      · rcases List.mem_append.mp hy with h | h
        · exact ((hL y h).keep k8B).keep kU
        · rw [List.mem_singleton.mp h]
          exact kU.tup upd_same
      · rcases List.mem_append.mp hy with h | h
        · exact okL y h
        · rw [List.mem_singleton.mp h]
          exact SideOk.mk' hn q0 q1
    obtain ⟨⟨u9, u14, rfl⟩, b8, p8, L, eF8, hL, okL, lL⟩ := y
    obtain ⟨z0, L', rfl⟩ : ∃ z0 L', L = z0 :: L' := by
      cases L with
      | nil => simp at lL; omega
      | cons a b => exact ⟨a, b, rfl⟩
    have lL1 : 1 ≤ (z0 :: L').length := by simp
    have lL3 : (z0 :: L').length ≤ 3 := by omega
    have at0 : atI (sdR (z0 :: L')) ((0 : Nat) : Int) = some (.ref z0.1) := atI_nat rfl
    have hz0 := hL z0 List.mem_cons_self
    have ok0 := okL z0 List.mem_cons_self
    have W8 := hW b8
    refine ⟨_, rfl, _, rfl, F, _, 0, _, rfl, rfl, .inl (.inl eF8), at0, x, z0.1, tops, rs, z0.2, rfl, W8.hp, hz0, ok0, fun H8 v s8 ov => ?_⟩
    dsimp only [List.set]
    have W9 := W8.same s8
    have b89 := b8.trans (But.of s8)
    have p9 := p8.keep s8
    have eF9 := s8 _ _ eF8
    have hL9 := hL.keep (.same s8)
    refine ⟨fun σ H' => ∃ v2, σ = [some (V.ref p), some (.ref t), some (.ref R2), some (.ref o1), some (.ref o2), u5, some (.ref O), some (.ref D), some (.ref N), u9, some (.ref x), some (.ref x'), some (.ref o), some (.ref F), u14, some v, some v2, u17] ∧ Same H8 H' ∧ OthAt H' v2 ((othS tops z0.2).map (sdx ls tops)), ?_, fun σ H9 y => ?_⟩
    · have etK := (hK b89).tup etG
      cases hot : othS tops z0.2 with
      | none =>
        rw [hot] at ov
        have ev : v = .non := ov
        subst ev
        refine ⟨_, rfl, rfl, _, rfl, ?_⟩
        rw [show decide (V.non = V.non) = true from decide_eq_true rfl]
        exact iteT ⟨_, rfl, Same.refl _, rfl⟩
      | some s0 =>
        rw [hot] at ov
        obtain ⟨g0, ev, hs0⟩ := ov
        subst ev
        have os0 := oth_ok ok0 hot
        refine ⟨_, rfl, rfl, _, rfl, ?_⟩
        rw [show decide (V.ref g0 = V.non) = false from decide_eq_false (fun z => by cases z)]
        refine iteF ⟨_, rfl, _, rfl, _, rfl, _, rfl, t, O, D, g0, ls, tops, s0, rfl, etK, W9.cal, cal, hs0, os0.lt, fun H9 g1 s9 hg1 => ⟨_, rfl, s9, g1, rfl, hg1⟩⟩
    obtain ⟨v2, rfl, s9, ov2⟩ := y
    have b9 := b89.trans (But.of s9)
    have W10 := W9.same s9
    have etK := (hK b9).tup etG
    have eF10 := s9 _ _ eF9
    have hL10 := hL9.keep (.same s9)
    have hz1 := hL10 z0 List.mem_cons_self
    refine ⟨_, rfl, _, rfl, _, rfl, _, rfl, _, rfl, F, _, 0, _, rfl, rfl, .inl (.inl eF10), at0, t, O, D, z0.1, ls, tops, z0.2, rfl, etK, W10.cal, cal, hz1, ok0.lt, fun H10 g1 s10 hg1 => ?_⟩
    refine ⟨x', g1, tops', rs', sdx ls tops z0.2, rfl, (W10.same s10).hp', hg1, K1.rok' ok0, fun H11 v3 s11 ov3 => ?_⟩
    rw [K1.oth ok0] at ov3
    have ov2' := ov2.keep (.same (s10.trans s11))
    obtain ⟨d3, sh3⟩ := oth_dp (K := K) ov3
    obtain ⟨d2, sh2⟩ := oth_dp (K := K) ov2'
    have s811 := s9.trans (s10.trans s11)
    refine ⟨_, rfl, _, _, d3, d2, sh3, sh2, _, rfl, ?_⟩
    have er : PyData.eqv (othD ((othS tops z0.2).map (sdx ls tops))) (othD ((othS tops z0.2).map (sdx ls tops))) = true := by
      refine SeqAt.eqv_refl _ ?_
      have h := sh2
      unfold SeqAt.shaped at h
      rw [Bool.and_eq_true] at h
      exact h.1
    rw [er]
    refine iteF ?_
    have b11 := b8.trans (But.of (s8.trans s811))
    have W11 := hW b11
    have eF11 := (s8.trans s811) _ _ eF8
    have hL11 := hL.keep (.same (s8.trans s811))
    refine ⟨_, rfl, _, rfl, _, rfl, _, rfl, _, rfl, _, rfl, F, _, rfl, .inl ⟨.inl (.inl eF11), fun gw ngw => ?_⟩⟩
    have sgw := same_new (o := HO.tup (sdR (z0 :: L'))) ngw
    refine ⟨x, x', O, D, o, gw, ls, tops, tops', st, rs, rs', z0 :: L', rfl, W11.same sgw, ((hK b11).tup So.at') |> sgw _ _, gst, upd_same, sds_keep hL11 sgw, okL, lL1, lL3, fun H12 s12 => ⟨_, rfl, iteF ?_⟩⟩
    have s8c := (s8.trans s811).trans (sgw.trans s12)
    have b12 := b8.trans (But.of s8c)
    have p12 := p8.keep s8c
    have W12 := hW b12
    have eF12 := s8c _ _ eF8
    have hz12 := (hL.keep (.same s8c)) z0 List.mem_cons_self
    have et12 := (hK b12).tup etG
    have h0 := ok0.lt
    have bd0 := ok0.bd
    generalize z0 = zz at *
    obtain ⟨za, n, wb, pl0⟩ := zz
    have hn : n < tops.length := h0
    have bd : 0 ≤ pl0 ∧ pl0 ≤ plc tops n := bd0
    have hzz : H12 za = some (.tup [.int (n : Int), .str (word wb), .int pl0]) := hz12
    refine ⟨_, rfl, F, _, 0, _, rfl, rfl, .inl (.inl eF12), at0, za, _, 0, _, rfl, rfl, .inl (.inl hzz), atI_nat (j := 0) rfl, ?_⟩
    dsimp only [List.set]
    have ep : plc tops n = tops[n] := plc_get hn
    refine ⟨_, rfl, F, _, 0, _, rfl, rfl, .inl (.inl eF12), at0, za, _, 2, _, rfl, rfl, .inl (.inl hzz), atI_nat (j := 2) rfl, _, rfl, _, rfl, t, _, n, _, rfl, rfl, .inl (.inl et12), at_int hn, _, _, rfl, rfl, _, _, rfl, ?_⟩
    dsimp only [List.set]
    refine ⟨_, rfl, _, _, rfl, rfl, _, rfl, ite2 (fun cc => ?_) (fun cc => ?_)⟩
    · have cc' := of_decide_eq_true cc
      refine ⟨_, rfl, _, rfl, _, rfl, _, rfl, _, rfl, _, rfl, x, x', O, D, n, _, ls, tops, tops', rs, rs', rfl, W12, ⟨st, gst⟩, hn, cc', ?_, fun H13 s13 => ⟨_, rfl, iteF ⟨⟨_, _, _, _, _, _, _, _, rfl⟩, b12.trans (But.of s13), (p12.keep s13).mono (by omega)⟩⟩⟩
      split <;> omega
    · exact ⟨⟨_, _, _, _, _, _, _, _, rfl⟩, b12, p12.mono (by omega)⟩
end
end K19

set_option Elab.async false
set_option linter.all false
set_option maxRecDepth 100000
namespace K19
open PySem PySem.Spec PyProof.Rows L2 NB

section
variable {P : Program} {w : World} {K : PySem.W.Frag} {mg : Str → Option Value} {base : Heap}
def spLaw (K : PySem.W.Frag) : Sp := fun vs H Q _ => ∃ (a : Addr) (ns : List Int), vs = [.ref a] ∧ SqL K H a (ns.map V.int) ∧ ns.length ≤ 63 ∧ ∀ H', Q (.bl true) H'
abbrev a_law : Stmt := topS 69
abbrev n_law : List Str := ["_law_script", "_law_k"]
theorem sc_law : FnScope n_law ["_law_script"] (defScope a_law) := ⟨rfl, rfl, rfl, by decide +kernel, rfl, by decide +kernel, by decide +kernel⟩
set_option maxHeartbeats 8000000 in
theorem ok_law {f fPo fRi : Addr} {fd fdPo fdRi : FuncData}   (F : Fun K "law" "law" a_law f fd) (Po : Kn P w K mg base 1 "_law_pot" ["_law_script", "_law_k"] (spPot K) fPo fdPo) (Ri : FnG P w K mg base 12 fRi fdRi ["_law_pot_here"] spR19) (gRi : mg "_law_right" = some (.ref fRi)) (kRi : PySem.W.keepIn K (.ref fRi) = true) (bRi : Binds K fdRi ["_law_pot_here"] [])  (m_all : mg "all" = none) (m_len : mg "len" = none) (m_max : mg "max" = none) (m_min : mg "min" = none) (m_range : mg "range" = none) : FnG P w K mg base 13 f fd ["_law_script"] (spLaw K) := by
  refine fnG F sc_law (fun vs H Q E h => ?_) (fun cdv A outer s H vs Q E hG hr h => ?_)
  · obtain ⟨a, ns, rfl, _⟩ := h
    rfl
  · obtain ⟨a, ns, rfl, hS, hn, q⟩ := h
    refine ⟨_, (pss_one (ps_ret (pe_callB (cr_all rfl) (by rfl) m_all (by decide +kernel) (pa_cons (
        pe_lc (own := [("_law_k", 1)]) (g := (gName 1)) (tt := tYes) (te := (tCall spR19 [] E0 (tCons (tCall (spPot K) [] E0 (tCons (tVar 0) (tCons (tVar 1) tNil))) tNil))) rfl sc_law.nd (pi_range1 (by rfl) m_range (pa_cons (pe_callB (call_max2 rfl) (by rfl) m_max (by decide +kernel) (pa_cons pe_int (pa_cons (pe_callB (call_min2 rfl) (by rfl) m_min (by decide +kernel) (pa_cons pe_int (pa_cons (pe_callB call_len_seq (by rfl) m_len (by decide +kernel) (pa_cons (pv 0) pa_nil)) pa_nil))) pa_nil))) pa_nil)) (blkOk_by (N := n_law) (sc := defScope a_law) (by decide +kernel))
          (fun _ _ _ _ _ => (pg_name (i := 1) sc_law.nd rfl (.inl rfl) (hf := .inr rfl))) (fun _ _ _ _ _ => pts_nil) (fun _ _ _ _ _ => (pe_callG hG Ri (hr.mono (by omega)) (by rfl) gRi kRi bRi (pa_cons (pe_kn Po hr (by omega) (pa_cons (pv 0) (pa_cons (pv 1) pa_nil))) pa_nil)))) pa_nil)))), ?_⟩
    refine ⟨.ref a, rfl, a, _, rfl, .inl hS, 2, _, rfl, 1, _, rfl, _, rfl, ?_, ?_, fun D nD => lc_it walk_range (fun i H' => Same H H' ∧ H' D = some (.lst ((List.replicate i true).map V.bl))) ⟨same_new nD, upd_same⟩ (fun _ _ _ _ => trivial) (fun i v H1' H1 hi y z => ?_) (fun H1 y => ?_)⟩
    · split <;> omega
    · split <;> omega
    · obtain ⟨s1, eD⟩ := y
      obtain ⟨rfl, rfl⟩ := z
      have i3 : i < 5 := by
        revert hi
        split <;> intro hi <;> omega
      refine ⟨wipe_one, .ref a, rfl, _, rfl, a, ns, i, by show [V.ref a, V.int (0 + (i : Int))] = _; rw [Int.zero_add], s1.seq hS, by omega, fun H2 p t2 n2 q2 => ?_⟩
      refine ⟨p, 0, rfl, q2, by omega, fun H3 b3 => ?_⟩
      have s3 : Same H1 H3 := fun b o e => b3 _ _ (ne_of_none e n2) (t2 _ _ e)
      refine ⟨_, s3 _ _ eD, ?_, same_over (s1.trans s3) nD, ?_⟩
      · rw [List.length_map, List.length_replicate]
        exact small1000 (by omega)
      · rw [upd_same, List.replicate_succ', List.map_append]
        rfl
    · obtain ⟨s1, eD⟩ := y
      refine ⟨D, _, rfl, .inl (.inl eD), ?_⟩
      rw [show ∀ n : Nat, (List.replicate n true).all id = true from fun n => by simp]
      exact q H1
end
end K19

set_option Elab.async false
set_option linter.all false
set_option maxRecDepth 100000
namespace K19
open PySem PySem.Spec PyProof.Rows L2 NB
set_option maxHeartbeats 8000000 in
theorem all_mk {l : PySem.W.OpenLaw} {w : World} {K : PySem.W.Frag} {h : Heap} {mg : Str → Option Value} {fa : Addr} (X : K.In h) (G : h.Ns mainGlobals mg) (hfa : mg "law" = some (.ref fa))
    {f1 : Addr} {od1 an1 : Option Addr} {sl1 : Array (Option Value)} {oc1 kV1 dc1 pm1 cd1 ct1 : Value}
    {f2 : Addr} {od2 an2 : Option Addr} {sl2 : Array (Option Value)} {oc2 kV2 dc2 pm2 cd2 ct2 : Value}
    {f3 : Addr} {od3 an3 : Option Addr} {sl3 : Array (Option Value)} {oc3 kV3 dc3 pm3 cd3 ct3 : Value}
    {f4 : Addr} {od4 an4 : Option Addr} {sl4 : Array (Option Value)} {oc4 kV4 dc4 pm4 cd4 ct4 : Value}
    {f5 : Addr} {od5 an5 : Option Addr} {sl5 : Array (Option Value)} {oc5 kV5 dc5 pm5 cd5 ct5 : Value}
    {f6 : Addr} {od6 an6 : Option Addr} {sl6 : Array (Option Value)} {oc6 kV6 dc6 pm6 cd6 ct6 : Value}
    {f7 : Addr} {od7 an7 : Option Addr} {sl7 : Array (Option Value)} {oc7 kV7 dc7 pm7 cd7 ct7 : Value}
    {f8 : Addr} {od8 an8 : Option Addr} {sl8 : Array (Option Value)} {oc8 kV8 dc8 pm8 cd8 ct8 : Value}
    {f9 : Addr} {od9 an9 : Option Addr} {sl9 : Array (Option Value)} {oc9 kV9 dc9 pm9 cd9 ct9 : Value}
    {f10 : Addr} {od10 an10 : Option Addr} {sl10 : Array (Option Value)} {oc10 kV10 dc10 pm10 cd10 ct10 : Value}
    {f11 : Addr} {od11 an11 : Option Addr} {sl11 : Array (Option Value)} {oc11 kV11 dc11 pm11 cd11 ct11 : Value}
    {f12 : Addr} {od12 an12 : Option Addr} {sl12 : Array (Option Value)} {oc12 kV12 dc12 pm12 cd12 ct12 : Value}
    {f13 : Addr} {od13 an13 : Option Addr} {sl13 : Array (Option Value)} {oc13 kV13 dc13 pm13 cd13 ct13 : Value}
    {f14 : Addr} {od14 an14 : Option Addr} {sl14 : Array (Option Value)} {oc14 kV14 dc14 pm14 cd14 ct14 : Value}
    {f15 : Addr} {od15 an15 : Option Addr} {sl15 : Array (Option Value)} {oc15 kV15 dc15 pm15 cd15 ct15 : Value}
    {f16 : Addr} {od16 an16 : Option Addr} {sl16 : Array (Option Value)} {oc16 kV16 dc16 pm16 cd16 ct16 : Value}
    {f17 : Addr} {od17 an17 : Option Addr} {sl17 : Array (Option Value)} {oc17 kV17 dc17 pm17 cd17 ct17 : Value}
    {f18 : Addr} {od18 an18 : Option Addr} {sl18 : Array (Option Value)} {oc18 kV18 dc18 pm18 cd18 ct18 : Value}
    {f19 : Addr} {od19 an19 : Option Addr} {sl19 : Array (Option Value)} {oc19 kV19 dc19 pm19 cd19 ct19 : Value}
    {f20 : Addr} {od20 an20 : Option Addr} {sl20 : Array (Option Value)} {oc20 kV20 dc20 pm20 cd20 ct20 : Value}
    {f21 : Addr} {od21 an21 : Option Addr} {sl21 : Array (Option Value)} {oc21 kV21 dc21 pm21 cd21 ct21 : Value}
    {f22 : Addr} {od22 an22 : Option Addr} {sl22 : Array (Option Value)} {oc22 kV22 dc22 pm22 cd22 ct22 : Value}
    {f23 : Addr} {od23 an23 : Option Addr} {sl23 : Array (Option Value)} {oc23 kV23 dc23 pm23 cd23 ct23 : Value}
    {f24 : Addr} {od24 an24 : Option Addr} {sl24 : Array (Option Value)} {oc24 kV24 dc24 pm24 cd24 ct24 : Value}
    {f25 : Addr} {od25 an25 : Option Addr} {sl25 : Array (Option Value)} {oc25 kV25 dc25 pm25 cd25 ct25 : Value}
    {f26 : Addr} {od26 an26 : Option Addr} {sl26 : Array (Option Value)} {oc26 kV26 dc26 pm26 cd26 ct26 : Value}
    {f27 : Addr} {od27 an27 : Option Addr} {sl27 : Array (Option Value)} {oc27 kV27 dc27 pm27 cd27 ct27 : Value}
    {f28 : Addr} {od28 an28 : Option Addr} {sl28 : Array (Option Value)} {oc28 kV28 dc28 pm28 cd28 ct28 : Value}
    {f29 : Addr} {od29 an29 : Option Addr} {sl29 : Array (Option Value)} {oc29 kV29 dc29 pm29 cd29 ct29 : Value}
    {f30 : Addr} {od30 an30 : Option Addr} {sl30 : Array (Option Value)} {oc30 kV30 dc30 pm30 cd30 ct30 : Value}
    {f31 : Addr} {od31 an31 : Option Addr} {sl31 : Array (Option Value)} {oc31 kV31 dc31 pm31 cd31 ct31 : Value}
    {f32 : Addr} {od32 an32 : Option Addr} {sl32 : Array (Option Value)} {oc32 kV32 dc32 pm32 cd32 ct32 : Value}
    {f33 : Addr} {od33 an33 : Option Addr} {sl33 : Array (Option Value)} {oc33 kV33 dc33 pm33 cd33 ct33 : Value}
    {f34 : Addr} {od34 an34 : Option Addr} {sl34 : Array (Option Value)} {oc34 kV34 dc34 pm34 cd34 ct34 : Value}
    {f35 : Addr} {od35 an35 : Option Addr} {sl35 : Array (Option Value)} {oc35 kV35 dc35 pm35 cd35 ct35 : Value}
    {f36 : Addr} {od36 an36 : Option Addr} {sl36 : Array (Option Value)} {oc36 kV36 dc36 pm36 cd36 ct36 : Value}
    {f37 : Addr} {od37 an37 : Option Addr} {sl37 : Array (Option Value)} {oc37 kV37 dc37 pm37 cd37 ct37 : Value}
    {f38 : Addr} {od38 an38 : Option Addr} {sl38 : Array (Option Value)} {oc38 kV38 dc38 pm38 cd38 ct38 : Value}
    {f39 : Addr} {od39 an39 : Option Addr} {sl39 : Array (Option Value)} {oc39 kV39 dc39 pm39 cd39 ct39 : Value}
    {f40 : Addr} {od40 an40 : Option Addr} {sl40 : Array (Option Value)} {oc40 kV40 dc40 pm40 cd40 ct40 : Value}
    {f41 : Addr} {od41 an41 : Option Addr} {sl41 : Array (Option Value)} {oc41 kV41 dc41 pm41 cd41 ct41 : Value}
    {f42 : Addr} {od42 an42 : Option Addr} {sl42 : Array (Option Value)} {oc42 kV42 dc42 pm42 cd42 ct42 : Value}
    {f43 : Addr} {od43 an43 : Option Addr} {sl43 : Array (Option Value)} {oc43 kV43 dc43 pm43 cd43 ct43 : Value}
    {f44 : Addr} {od44 an44 : Option Addr} {sl44 : Array (Option Value)} {oc44 kV44 dc44 pm44 cd44 ct44 : Value}
    {f45 : Addr} {od45 an45 : Option Addr} {sl45 : Array (Option Value)} {oc45 kV45 dc45 pm45 cd45 ct45 : Value}
    {f46 : Addr} {od46 an46 : Option Addr} {sl46 : Array (Option Value)} {oc46 kV46 dc46 pm46 cd46 ct46 : Value}
    {f47 : Addr} {od47 an47 : Option Addr} {sl47 : Array (Option Value)} {oc47 kV47 dc47 pm47 cd47 ct47 : Value}
    {f48 : Addr} {od48 an48 : Option Addr} {sl48 : Array (Option Value)} {oc48 kV48 dc48 pm48 cd48 ct48 : Value}
    {C f0 Td e0 wa : Addr} {od0 an0 odT odW : Option Addr} {sl0 slT slW : Array (Option Value)} {oc0 kV0 dc0 pm0 cd0 ct0 ocT : Value} {nT nW : Nat} {tk1 tk2 tk3 tk4 tk5 : Tok}
    (a1 : PySem.W.nsIn K mainGlobals "is_whole" = some (some (.ref f1)))
    (l1 : K.lookup f1 = some ⟨oc1, od1, .func (PySem.W.fnOf "is_whole" "is_whole" (defArgs kWhole) (defBody kWhole) (defScope kWhole) .none kV1 dc1 pm1 an1 cd1 ct1), sl1⟩)
    (c1 : PySem.W.codeIn K cd1 "is_whole" = true) (k1 : PySem.W.keepIn K (.ref f1) = true)
    (a2 : PySem.W.nsIn K mainGlobals "is_place" = some (some (.ref f2)))
    (l2 : K.lookup f2 = some ⟨oc2, od2, .func (PySem.W.fnOf "is_place" "is_place" (defArgs kPlace) (defBody kPlace) (defScope kPlace) .none kV2 dc2 pm2 an2 cd2 ct2), sl2⟩)
    (c2 : PySem.W.codeIn K cd2 "is_place" = true) (k2 : PySem.W.keepIn K (.ref f2) = true)
    (a3 : PySem.W.nsIn K mainGlobals "are_tops" = some (some (.ref f3)))
    (l3 : K.lookup f3 = some ⟨oc3, od3, .func (PySem.W.fnOf "are_tops" "are_tops" (defArgs kTops) (defBody kTops) (defScope kTops) .none kV3 dc3 pm3 an3 cd3 ct3), sl3⟩)
    (c3 : PySem.W.codeIn K cd3 "are_tops" = true) (k3 : PySem.W.keepIn K (.ref f3) = true)
    (a4 : PySem.W.nsIn K mainGlobals "is_side_of" = some (some (.ref f4)))
    (l4 : K.lookup f4 = some ⟨oc4, od4, .func (PySem.W.fnOf "is_side_of" "is_side_of" (defArgs kSide) (defBody kSide) (defScope kSide) .none kV4 dc4 pm4 an4 cd4 ct4), sl4⟩)
    (c4 : PySem.W.codeIn K cd4 "is_side_of" = true) (k4 : PySem.W.keepIn K (.ref f4) = true)
    (a5 : PySem.W.nsIn K mainGlobals "are_sides_of" = some (some (.ref f5)))
    (l5 : K.lookup f5 = some ⟨oc5, od5, .func (PySem.W.fnOf "are_sides_of" "are_sides_of" (defArgs kSides) (defBody kSides) (defScope kSides) .none kV5 dc5 pm5 an5 cd5 ct5), sl5⟩)
    (c5 : PySem.W.codeIn K cd5 "are_sides_of" = true) (k5 : PySem.W.keepIn K (.ref f5) = true)
    (a6 : PySem.W.nsIn K mainGlobals "is_rule_of" = some (some (.ref f6)))
    (l6 : K.lookup f6 = some ⟨oc6, od6, .func (PySem.W.fnOf "is_rule_of" "is_rule_of" (defArgs kRule) (defBody kRule) (defScope kRule) .none kV6 dc6 pm6 an6 cd6 ct6), sl6⟩)
    (c6 : PySem.W.codeIn K cd6 "is_rule_of" = true) (k6 : PySem.W.keepIn K (.ref f6) = true)
    (a7 : PySem.W.nsIn K mainGlobals "are_rules_of" = some (some (.ref f7)))
    (l7 : K.lookup f7 = some ⟨oc7, od7, .func (PySem.W.fnOf "are_rules_of" "are_rules_of" (defArgs kRules) (defBody kRules) (defScope kRules) .none kV7 dc7 pm7 an7 cd7 ct7), sl7⟩)
    (c7 : PySem.W.codeIn K cd7 "are_rules_of" = true) (k7 : PySem.W.keepIn K (.ref f7) = true)
    (a8 : PySem.W.nsIn K mainGlobals "span" = some (some (.ref f8)))
    (l8 : K.lookup f8 = some ⟨oc8, od8, .func (PySem.W.fnOf "span" "span" (defArgs a_span) (defBody a_span) (defScope a_span) .none kV8 dc8 pm8 an8 cd8 ct8), sl8⟩)
    (c8 : PySem.W.codeIn K cd8 "span" = true) (k8 : PySem.W.keepIn K (.ref f8) = true)
    (a9 : PySem.W.nsIn K mainGlobals "other_side" = some (some (.ref f9)))
    (l9 : K.lookup f9 = some ⟨oc9, od9, .func (PySem.W.fnOf "other_side" "other_side" (defArgs a_other_side) (defBody a_other_side) (defScope a_other_side) .none kV9 dc9 pm9 an9 cd9 ct9), sl9⟩)
    (c9 : PySem.W.codeIn K cd9 "other_side" = true) (k9 : PySem.W.keepIn K (.ref f9) = true)
    (a10 : PySem.W.nsIn K mainGlobals "bars" = some (some (.ref f10)))
    (l10 : K.lookup f10 = some ⟨oc10, od10, .func (PySem.W.fnOf "bars" "bars" (defArgs a_bars) (defBody a_bars) (defScope a_bars) .none kV10 dc10 pm10 an10 cd10 ct10), sl10⟩)
    (c10 : PySem.W.codeIn K cd10 "bars" = true) (k10 : PySem.W.keepIn K (.ref f10) = true)
    (a11 : PySem.W.nsIn K mainGlobals "is_within" = some (some (.ref f11)))
    (l11 : K.lookup f11 = some ⟨oc11, od11, .func (PySem.W.fnOf "is_within" "is_within" (defArgs a_is_within) (defBody a_is_within) (defScope a_is_within) .none kV11 dc11 pm11 an11 cd11 ct11), sl11⟩)
    (c11 : PySem.W.codeIn K cd11 "is_within" = true) (k11 : PySem.W.keepIn K (.ref f11) = true)
    (a12 : PySem.W.nsIn K mainGlobals "led_by_rules" = some (some (.ref f12)))
    (l12 : K.lookup f12 = some ⟨oc12, od12, .func (PySem.W.fnOf "led_by_rules" "led_by_rules" (defArgs a_led_by_rules) (defBody a_led_by_rules) (defScope a_led_by_rules) .none kV12 dc12 pm12 an12 cd12 ct12), sl12⟩)
    (c12 : PySem.W.codeIn K cd12 "led_by_rules" = true) (k12 : PySem.W.keepIn K (.ref f12) = true)
    (a13 : PySem.W.nsIn K mainGlobals "reached" = some (some (.ref f13)))
    (l13 : K.lookup f13 = some ⟨oc13, od13, .func (PySem.W.fnOf "reached" "reached" (defArgs a_reached) (defBody a_reached) (defScope a_reached) .none kV13 dc13 pm13 an13 cd13 ct13), sl13⟩)
    (c13 : PySem.W.codeIn K cd13 "reached" = true) (k13 : PySem.W.keepIn K (.ref f13) = true)
    (a14 : PySem.W.nsIn K mainGlobals "chain_in" = some (some (.ref f14)))
    (l14 : K.lookup f14 = some ⟨oc14, od14, .func (PySem.W.fnOf "chain_in" "chain_in" (defArgs a_chain_in) (defBody a_chain_in) (defScope a_chain_in) .none kV14 dc14 pm14 an14 cd14 ct14), sl14⟩)
    (c14 : PySem.W.codeIn K cd14 "chain_in" = true) (k14 : PySem.W.keepIn K (.ref f14) = true)
    (a15 : PySem.W.nsIn K mainGlobals "chain_to" = some (some (.ref f15)))
    (l15 : K.lookup f15 = some ⟨oc15, od15, .func (PySem.W.fnOf "chain_to" "chain_to" (defArgs a_chain_to) (defBody a_chain_to) (defScope a_chain_to) .none kV15 dc15 pm15 an15 cd15 ct15), sl15⟩)
    (c15 : PySem.W.codeIn K cd15 "chain_to" = true) (k15 : PySem.W.keepIn K (.ref f15) = true)
    (a16 : PySem.W.nsIn K mainGlobals "follows" = some (some (.ref f16)))
    (l16 : K.lookup f16 = some ⟨oc16, od16, .func (PySem.W.fnOf "follows" "follows" (defArgs a_follows) (defBody a_follows) (defScope a_follows) .none kV16 dc16 pm16 an16 cd16 ct16), sl16⟩)
    (c16 : PySem.W.codeIn K cd16 "follows" = true) (k16 : PySem.W.keepIn K (.ref f16) = true)
    (a17 : PySem.W.nsIn K mainGlobals "barred_paper" = some (some (.ref f17)))
    (l17 : K.lookup f17 = some ⟨oc17, od17, .func (PySem.W.fnOf "barred_paper" "barred_paper" (defArgs a_barred_paper) (defBody a_barred_paper) (defScope a_barred_paper) .none kV17 dc17 pm17 an17 cd17 ct17), sl17⟩)
    (c17 : PySem.W.codeIn K cd17 "barred_paper" = true) (k17 : PySem.W.keepIn K (.ref f17) = true)
    (a18 : PySem.W.nsIn K mainGlobals "rule_sides" = some (some (.ref f18)))
    (l18 : K.lookup f18 = some ⟨oc18, od18, .func (PySem.W.fnOf "rule_sides" "rule_sides" (defArgs a_rule_sides) (defBody a_rule_sides) (defScope a_rule_sides) .none kV18 dc18 pm18 an18 cd18 ct18), sl18⟩)
    (c18 : PySem.W.codeIn K cd18 "rule_sides" = true) (k18 : PySem.W.keepIn K (.ref f18) = true)
    (a19 : PySem.W.nsIn K mainGlobals "turning" = some (some (.ref f19)))
    (l19 : K.lookup f19 = some ⟨oc19, od19, .func (PySem.W.fnOf "turning" "turning" (defArgs a_turning) (defBody a_turning) (defScope a_turning) .none kV19 dc19 pm19 an19 cd19 ct19), sl19⟩)
    (c19 : PySem.W.codeIn K cd19 "turning" = true) (k19 : PySem.W.keepIn K (.ref f19) = true)
    (a20 : PySem.W.nsIn K mainGlobals "ring_paper" = some (some (.ref f20)))
    (l20 : K.lookup f20 = some ⟨oc20, od20, .func (PySem.W.fnOf "ring_paper" "ring_paper" (defArgs a_ring_paper) (defBody a_ring_paper) (defScope a_ring_paper) .none kV20 dc20 pm20 an20 cd20 ct20), sl20⟩)
    (c20 : PySem.W.codeIn K cd20 "ring_paper" = true) (k20 : PySem.W.keepIn K (.ref f20) = true)
    (a21 : PySem.W.nsIn K mainGlobals "none_paper" = some (some (.ref f21)))
    (l21 : K.lookup f21 = some ⟨oc21, od21, .func (PySem.W.fnOf "none_paper" "none_paper" (defArgs a_none_paper) (defBody a_none_paper) (defScope a_none_paper) .none kV21 dc21 pm21 an21 cd21 ct21), sl21⟩)
    (c21 : PySem.W.codeIn K cd21 "none_paper" = true) (k21 : PySem.W.keepIn K (.ref f21) = true)
    (a22 : PySem.W.nsIn K mainGlobals "forced" = some (some (.ref f22)))
    (l22 : K.lookup f22 = some ⟨oc22, od22, .func (PySem.W.fnOf "forced" "forced" (defArgs a_forced) (defBody a_forced) (defScope a_forced) .none kV22 dc22 pm22 an22 cd22 ct22), sl22⟩)
    (c22 : PySem.W.codeIn K cd22 "forced" = true) (k22 : PySem.W.keepIn K (.ref f22) = true)
    {Td23 e23 : Addr} {odT23 odE23 : Option Addr} {slT23 slE23 : Array (Option Value)} {ocT23 : Value} {nT23 nE23 : Nat}
    (a23 : PySem.W.nsIn K mainGlobals "bounds" = some (some (.ref f23)))
    (l23 : K.lookup f23 = some ⟨oc23, od23, .func (PySem.W.fnOf "bounds" "bounds" (defArgs a_bounds) (defBody a_bounds) (defScope a_bounds) (.ref Td23) kV23 dc23 pm23 an23 cd23 ct23), sl23⟩)
    (c23 : PySem.W.codeIn K cd23 "bounds" = true) (k23 : PySem.W.keepIn K (.ref f23) = true)
    (lT23 : K.lookup Td23 = some ⟨ocT23, odT23, .seq #[.ref e23] nT23, slT23⟩) (lE23 : K.lookup e23 = some ⟨.type "tuple", odE23, .seq #[] nE23, slE23⟩)
    (a24 : PySem.W.nsIn K mainGlobals "stretches" = some (some (.ref f24)))
    (l24 : K.lookup f24 = some ⟨oc24, od24, .func (PySem.W.fnOf "stretches" "stretches" (defArgs a_stretches) (defBody a_stretches) (defScope a_stretches) .none kV24 dc24 pm24 an24 cd24 ct24), sl24⟩)
    (c24 : PySem.W.codeIn K cd24 "stretches" = true) (k24 : PySem.W.keepIn K (.ref f24) = true)
    (a25 : PySem.W.nsIn K mainGlobals "bundle" = some (some (.ref f25)))
    (l25 : K.lookup f25 = some ⟨oc25, od25, .func (PySem.W.fnOf "bundle" "bundle" (defArgs a_bundle) (defBody a_bundle) (defScope a_bundle) .none kV25 dc25 pm25 an25 cd25 ct25), sl25⟩)
    (c25 : PySem.W.codeIn K cd25 "bundle" = true) (k25 : PySem.W.keepIn K (.ref f25) = true)
    (a26 : PySem.W.nsIn K mainGlobals "pulled" = some (some (.ref f26)))
    (l26 : K.lookup f26 = some ⟨oc26, od26, .func (PySem.W.fnOf "pulled" "pulled" (defArgs a_pulled) (defBody a_pulled) (defScope a_pulled) .none kV26 dc26 pm26 an26 cd26 ct26), sl26⟩)
    (c26 : PySem.W.codeIn K cd26 "pulled" = true) (k26 : PySem.W.keepIn K (.ref f26) = true)
    (a27 : PySem.W.nsIn K mainGlobals "nearest" = some (some (.ref f27)))
    (l27 : K.lookup f27 = some ⟨oc27, od27, .func (PySem.W.fnOf "nearest" "nearest" (defArgs a_nearest) (defBody a_nearest) (defScope a_nearest) .none kV27 dc27 pm27 an27 cd27 ct27), sl27⟩)
    (c27 : PySem.W.codeIn K cd27 "nearest" = true) (k27 : PySem.W.keepIn K (.ref f27) = true)
    (a28 : PySem.W.nsIn K mainGlobals "_law_pot" = some (some (.ref f28)))
    (l28 : K.lookup f28 = some ⟨oc28, od28, .func (PySem.W.fnOf "_law_pot" "_law_pot" (defArgs sPot) (defBody sPot) (defScope sPot) .none kV28 dc28 pm28 an28 cd28 ct28), sl28⟩)
    (c28 : PySem.W.codeIn K cd28 "_law_pot" = true) (k28 : PySem.W.keepIn K (.ref f28) = true)
    (a29 : PySem.W.nsIn K mainGlobals "_law_take" = some (some (.ref f29)))
    (l29 : K.lookup f29 = some ⟨oc29, od29, .func (PySem.W.fnOf "_law_take" "_law_take" (defArgs sTake) (defBody sTake) (defScope sTake) .none kV29 dc29 pm29 an29 cd29 ct29), sl29⟩)
    (c29 : PySem.W.codeIn K cd29 "_law_take" = true) (k29 : PySem.W.keepIn K (.ref f29) = true)
    (a30 : PySem.W.nsIn K mainGlobals "_law_of" = some (some (.ref f30)))
    (l30 : K.lookup f30 = some ⟨oc30, od30, .func (PySem.W.fnOf "_law_of" "_law_of" (defArgs sOf) (defBody sOf) (defScope sOf) .none kV30 dc30 pm30 an30 cd30 ct30), sl30⟩)
    (c30 : PySem.W.codeIn K cd30 "_law_of" = true) (k30 : PySem.W.keepIn K (.ref f30) = true)
    (a31 : PySem.W.nsIn K mainGlobals "_law_standing" = some (some (.ref f31)))
    (l31 : K.lookup f31 = some ⟨oc31, od31, .func (PySem.W.fnOf "_law_standing" "_law_standing" (defArgs sStand) (defBody sStand) (defScope sStand) .none kV31 dc31 pm31 an31 cd31 ct31), sl31⟩)
    (c31 : PySem.W.codeIn K cd31 "_law_standing" = true) (k31 : PySem.W.keepIn K (.ref f31) = true)
    (a32 : PySem.W.nsIn K mainGlobals "_law_side_in" = some (some (.ref f32)))
    (l32 : K.lookup f32 = some ⟨oc32, od32, .func (PySem.W.fnOf "_law_side_in" "_law_side_in" (defArgs aSideIn) (defBody aSideIn) (defScope aSideIn) .none kV32 dc32 pm32 an32 cd32 ct32), sl32⟩)
    (c32 : PySem.W.codeIn K cd32 "_law_side_in" = true) (k32 : PySem.W.keepIn K (.ref f32) = true)
    (a33 : PySem.W.nsIn K mainGlobals "_law_rules" = some (some (.ref f33)))
    (l33 : K.lookup f33 = some ⟨oc33, od33, .func (PySem.W.fnOf "_law_rules" "_law_rules" (defArgs aRules) (defBody aRules) (defScope aRules) .none kV33 dc33 pm33 an33 cd33 ct33), sl33⟩)
    (c33 : PySem.W.codeIn K cd33 "_law_rules" = true) (k33 : PySem.W.keepIn K (.ref f33) = true)
    (a34 : PySem.W.nsIn K mainGlobals "_law_great_tops" = some (some (.ref f34)))
    (l34 : K.lookup f34 = some ⟨oc34, od34, .func (PySem.W.fnOf "_law_great_tops" "_law_great_tops" (defArgs aGTops) (defBody aGTops) (defScope aGTops) .none kV34 dc34 pm34 an34 cd34 ct34), sl34⟩)
    (c34 : PySem.W.codeIn K cd34 "_law_great_tops" = true) (k34 : PySem.W.keepIn K (.ref f34) = true)
    (a35 : PySem.W.nsIn K mainGlobals "_law_between_rule" = some (some (.ref f35)))
    (l35 : K.lookup f35 = some ⟨oc35, od35, .func (PySem.W.fnOf "_law_between_rule" "_law_between_rule" (defArgs aBtw) (defBody aBtw) (defScope aBtw) .none kV35 dc35 pm35 an35 cd35 ct35), sl35⟩)
    (c35 : PySem.W.codeIn K cd35 "_law_between_rule" = true) (k35 : PySem.W.keepIn K (.ref f35) = true)
    (a36 : PySem.W.nsIn K mainGlobals "_law_plan" = some (some (.ref f36)))
    (l36 : K.lookup f36 = some ⟨oc36, od36, .func (PySem.W.fnOf "_law_plan" "_law_plan" (defArgs aPlan) (defBody aPlan) (defScope aPlan) .none kV36 dc36 pm36 an36 cd36 ct36), sl36⟩)
    (c36 : PySem.W.codeIn K cd36 "_law_plan" = true) (k36 : PySem.W.keepIn K (.ref f36) = true)
    (a37 : PySem.W.nsIn K mainGlobals "_law_great" = some (some (.ref f37)))
    (l37 : K.lookup f37 = some ⟨oc37, od37, .func (PySem.W.fnOf "_law_great" "_law_great" (defArgs aGreat) (defBody aGreat) (defScope aGreat) .none kV37 dc37 pm37 an37 cd37 ct37), sl37⟩)
    (c37 : PySem.W.codeIn K cd37 "_law_great" = true) (k37 : PySem.W.keepIn K (.ref f37) = true)
    (a38 : PySem.W.nsIn K mainGlobals "_law_turned" = some (some (.ref f38)))
    (l38 : K.lookup f38 = some ⟨oc38, od38, .func (PySem.W.fnOf "_law_turned" "_law_turned" (defArgs a__law_turned) (defBody a__law_turned) (defScope a__law_turned) .none kV38 dc38 pm38 an38 cd38 ct38), sl38⟩)
    (c38 : PySem.W.codeIn K cd38 "_law_turned" = true) (k38 : PySem.W.keepIn K (.ref f38) = true)
    (a39 : PySem.W.nsIn K mainGlobals "_law_led" = some (some (.ref f39)))
    (l39 : K.lookup f39 = some ⟨oc39, od39, .func (PySem.W.fnOf "_law_led" "_law_led" (defArgs a__law_led) (defBody a__law_led) (defScope a__law_led) .none kV39 dc39 pm39 an39 cd39 ct39), sl39⟩)
    (c39 : PySem.W.codeIn K cd39 "_law_led" = true) (k39 : PySem.W.keepIn K (.ref f39) = true)
    (a40 : PySem.W.nsIn K mainGlobals "_law_side_led" = some (some (.ref f40)))
    (l40 : K.lookup f40 = some ⟨oc40, od40, .func (PySem.W.fnOf "_law_side_led" "_law_side_led" (defArgs a__law_side_led) (defBody a__law_side_led) (defScope a__law_side_led) .none kV40 dc40 pm40 an40 cd40 ct40), sl40⟩)
    (c40 : PySem.W.codeIn K cd40 "_law_side_led" = true) (k40 : PySem.W.keepIn K (.ref f40) = true)
    (a41 : PySem.W.nsIn K mainGlobals "_law_rows_led" = some (some (.ref f41)))
    (l41 : K.lookup f41 = some ⟨oc41, od41, .func (PySem.W.fnOf "_law_rows_led" "_law_rows_led" (defArgs a__law_rows_led) (defBody a__law_rows_led) (defScope a__law_rows_led) .none kV41 dc41 pm41 an41 cd41 ct41), sl41⟩)
    (c41 : PySem.W.codeIn K cd41 "_law_rows_led" = true) (k41 : PySem.W.keepIn K (.ref f41) = true)
    (a42 : PySem.W.nsIn K mainGlobals "_law_standing_led" = some (some (.ref f42)))
    (l42 : K.lookup f42 = some ⟨oc42, od42, .func (PySem.W.fnOf "_law_standing_led" "_law_standing_led" (defArgs a__law_standing_led) (defBody a__law_standing_led) (defScope a__law_standing_led) .none kV42 dc42 pm42 an42 cd42 ct42), sl42⟩)
    (c42 : PySem.W.codeIn K cd42 "_law_standing_led" = true) (k42 : PySem.W.keepIn K (.ref f42) = true)
    (a43 : PySem.W.nsIn K mainGlobals "_law_rules_led" = some (some (.ref f43)))
    (l43 : K.lookup f43 = some ⟨oc43, od43, .func (PySem.W.fnOf "_law_rules_led" "_law_rules_led" (defArgs a__law_rules_led) (defBody a__law_rules_led) (defScope a__law_rules_led) .none kV43 dc43 pm43 an43 cd43 ct43), sl43⟩)
    (c43 : PySem.W.codeIn K cd43 "_law_rules_led" = true) (k43 : PySem.W.keepIn K (.ref f43) = true)
    (a44 : PySem.W.nsIn K mainGlobals "_law_bundle_right" = some (some (.ref f44)))
    (l44 : K.lookup f44 = some ⟨oc44, od44, .func (PySem.W.fnOf "_law_bundle_right" "_law_bundle_right" (defArgs a__law_bundle_right) (defBody a__law_bundle_right) (defScope a__law_bundle_right) .none kV44 dc44 pm44 an44 cd44 ct44), sl44⟩)
    (c44 : PySem.W.codeIn K cd44 "_law_bundle_right" = true) (k44 : PySem.W.keepIn K (.ref f44) = true)
    (a45 : PySem.W.nsIn K mainGlobals "_law_near_place" = some (some (.ref f45)))
    (l45 : K.lookup f45 = some ⟨oc45, od45, .func (PySem.W.fnOf "_law_near_place" "_law_near_place" (defArgs a__law_near_place) (defBody a__law_near_place) (defScope a__law_near_place) .none kV45 dc45 pm45 an45 cd45 ct45), sl45⟩)
    (c45 : PySem.W.codeIn K cd45 "_law_near_place" = true) (k45 : PySem.W.keepIn K (.ref f45) = true)
    (a46 : PySem.W.nsIn K mainGlobals "_law_want_right" = some (some (.ref f46)))
    (l46 : K.lookup f46 = some ⟨oc46, od46, .func (PySem.W.fnOf "_law_want_right" "_law_want_right" (defArgs a__law_want_right) (defBody a__law_want_right) (defScope a__law_want_right) .none kV46 dc46 pm46 an46 cd46 ct46), sl46⟩)
    (c46 : PySem.W.codeIn K cd46 "_law_want_right" = true) (k46 : PySem.W.keepIn K (.ref f46) = true)
    (a47 : PySem.W.nsIn K mainGlobals "_law_right" = some (some (.ref f47)))
    (l47 : K.lookup f47 = some ⟨oc47, od47, .func (PySem.W.fnOf "_law_right" "_law_right" (defArgs a__law_right) (defBody a__law_right) (defScope a__law_right) .none kV47 dc47 pm47 an47 cd47 ct47), sl47⟩)
    (c47 : PySem.W.codeIn K cd47 "_law_right" = true) (k47 : PySem.W.keepIn K (.ref f47) = true)
    (a48 : PySem.W.nsIn K mainGlobals "law" = some (some (.ref f48)))
    (l48 : K.lookup f48 = some ⟨oc48, od48, .func (PySem.W.fnOf "law" "law" (defArgs a_law) (defBody a_law) (defScope a_law) .none kV48 dc48 pm48 an48 cd48 ct48), sl48⟩)
    (c48 : PySem.W.codeIn K cd48 "law" = true) (k48 : PySem.W.keepIn K (.ref f48) = true)
    (aC : PySem.W.nsIn K mainGlobals "Plan" = some (some (.ref C))) (aI : PySem.W.findIn K (.ref C) "__init__" = some (some (.ref f0))) (iI : PySem.W.isFn K (.ref f0) = true)
    (lI : K.lookup f0 = some ⟨oc0, od0, .func (PySem.W.fnOf "__init__" "Plan.__init__" (defArgs kInit) (defBody kInit) (defScope kInit) (.ref Td) kV0 dc0 pm0 an0 cd0 ct0), sl0⟩) (cI : PySem.W.codeIn K cd0 "Plan.__init__" = true) (kI : PySem.W.keepIn K (.ref f0) = true)
    (lT : K.lookup Td = some ⟨ocT, odT, .seq #[.ref e0] nT, slT⟩)
    (pg : PySem.W.plainGet K C Str.empty = true) (hd : PySem.W.hasDictIn K C = true) (po : PySem.W.plainOver K C = true) (sa : PySem.W.findIn K (.ref C) "__setattr__" = some (some (.builtin "object.__setattr__"))) (mk : PySem.W.makesIn K C = true) (kc : PySem.W.keepIn K (.ref C) = true)
    (nTo : PySem.W.findIn K (.ref C) "tops" = some none) (nRu : PySem.W.findIn K (.ref C) "rules" = some none)
    (v1 : PySem.W.nsIn K mainGlobals "MOST_THINGS" = some (some (.int 12 tk1))) (v2 : PySem.W.nsIn K mainGlobals "MOST_RULES" = some (some (.int 40 tk2))) (v3 : PySem.W.nsIn K mainGlobals "BEYOND_THIRTY_FIGURES" = some (some (.int 1000000000000000000000000000000 tk3)))
    (v4 : PySem.W.nsIn K mainGlobals "WORDS" = some (some (.ref wa))) (v5 : K.lookup wa = some ⟨.type "tuple", odW, .seq #[.str "from" tk4, .str "to" tk5] nW, slW⟩)
    (z1 : PySem.W.nsIn K mainGlobals "abs" = some none)
    (z2 : PySem.W.nsIn K mainGlobals "all" = some none)
    (z3 : PySem.W.nsIn K mainGlobals "any" = some none)
    (z4 : PySem.W.nsIn K mainGlobals "bool" = some none)
    (z5 : PySem.W.nsIn K mainGlobals "enumerate" = some none)
    (z6 : PySem.W.nsIn K mainGlobals "int" = some none)
    (z7 : PySem.W.nsIn K mainGlobals "isinstance" = some none)
    (z8 : PySem.W.nsIn K mainGlobals "len" = some none)
    (z9 : PySem.W.nsIn K mainGlobals "list" = some none)
    (z10 : PySem.W.nsIn K mainGlobals "max" = some none)
    (z11 : PySem.W.nsIn K mainGlobals "min" = some none)
    (z12 : PySem.W.nsIn K mainGlobals "range" = some none)
    (z13 : PySem.W.nsIn K mainGlobals "repr" = some none)
    (z14 : PySem.W.nsIn K mainGlobals "sorted" = some none)
    (z15 : PySem.W.nsIn K mainGlobals "str" = some none)
    (z16 : PySem.W.nsIn K mainGlobals "tuple" = some none)
    (z17 : PySem.W.nsIn K mainGlobals "zip" = some none)
    : ∃ fd : FuncData, (∀ (s : Shared) (v : Value), BindsTo s fd ⟨[v], []⟩ [("_law_script", v)]) ∧ ∀ base : Heap, K.In base → base.Ns mainGlobals mg → FnG l.prog w K mg base 13 fa fd ["_law_script"] (spLaw K) := by
  have e := hfa.symm.trans (PySem.W.mg_of X G a48)
  cases e
  have F1 := fun_mk (st := kWhole) l1 c1 k1
  have b1 := F1.binds (ps := ["thing"]) fun _ _ _ _ _ _ us hl => match us, hl with | [_], _ => rfl
  have g1 := PySem.W.mg_of X G a1
  have F2 := fun_mk (st := kPlace) l2 c2 k2
  have b2 := F2.binds (ps := ["top", "thing"]) fun _ _ _ _ _ _ us hl => match us, hl with | [_, _], _ => rfl
  have g2 := PySem.W.mg_of X G a2
  have F3 := fun_mk (st := kTops) l3 c3 k3
  have b3 := F3.binds (ps := ["thing"]) fun _ _ _ _ _ _ us hl => match us, hl with | [_], _ => rfl
  have g3 := PySem.W.mg_of X G a3
  have F4 := fun_mk (st := kSide) l4 c4 k4
  have b4 := F4.binds (ps := ["tops", "thing"]) fun _ _ _ _ _ _ us hl => match us, hl with | [_, _], _ => rfl
  have g4 := PySem.W.mg_of X G a4
  have F5 := fun_mk (st := kSides) l5 c5 k5
  have b5 := F5.binds (ps := ["tops", "thing"]) fun _ _ _ _ _ _ us hl => match us, hl with | [_, _], _ => rfl
  have g5 := PySem.W.mg_of X G a5
  have F6 := fun_mk (st := kRule) l6 c6 k6
  have b6 := F6.binds (ps := ["tops", "thing"]) fun _ _ _ _ _ _ us hl => match us, hl with | [_, _], _ => rfl
  have g6 := PySem.W.mg_of X G a6
  have F7 := fun_mk (st := kRules) l7 c7 k7
  have b7 := F7.binds (ps := ["tops", "thing"]) fun _ _ _ _ _ _ us hl => match us, hl with | [_, _], _ => rfl
  have g7 := PySem.W.mg_of X G a7
  have F8 := fun_mk (st := a_span) l8 c8 k8
  have b8 := F8.binds (ps := ["plan", "side"]) fun _ _ _ _ _ _ us hl => match us, hl with | [_, _], _ => rfl
  have g8 := PySem.W.mg_of X G a8
  have F9 := fun_mk (st := a_other_side) l9 c9 k9
  have b9 := F9.binds (ps := ["plan", "side"]) fun _ _ _ _ _ _ us hl => match us, hl with | [_, _], _ => rfl
  have g9 := PySem.W.mg_of X G a9
  have F10 := fun_mk (st := a_bars) l10 c10 k10
  have b10 := F10.binds (ps := ["plan", "one", "other"]) fun _ _ _ _ _ _ us hl => match us, hl with | [_, _, _], _ => rfl
  have g10 := PySem.W.mg_of X G a10
  have F11 := fun_mk (st := a_is_within) l11 c11 k11
  have b11 := F11.binds (ps := ["plan", "one", "other"]) fun _ _ _ _ _ _ us hl => match us, hl with | [_, _, _], _ => rfl
  have g11 := PySem.W.mg_of X G a11
  have F12 := fun_mk (st := a_led_by_rules) l12 c12 k12
  have b12 := F12.binds (ps := ["plan", "side"]) fun _ _ _ _ _ _ us hl => match us, hl with | [_, _], _ => rfl
  have g12 := PySem.W.mg_of X G a12
  have F13 := fun_mk (st := a_reached) l13 c13 k13
  have b13 := F13.binds (ps := ["plan", "starts"]) fun _ _ _ _ _ _ us hl => match us, hl with | [_, _], _ => rfl
  have g13 := PySem.W.mg_of X G a13
  have F14 := fun_mk (st := a_chain_in) l14 c14 k14
  have b14 := F14.binds (ps := ["ahead", "side"]) fun _ _ _ _ _ _ us hl => match us, hl with | [_, _], _ => rfl
  have g14 := PySem.W.mg_of X G a14
  have F15 := fun_mk (st := a_chain_to) l15 c15 k15
  have b15 := F15.binds (ps := ["plan", "starts", "goal"]) fun _ _ _ _ _ _ us hl => match us, hl with | [_, _, _], _ => rfl
  have g15 := PySem.W.mg_of X G a15
  have F16 := fun_mk (st := a_follows) l16 c16 k16
  have b16 := F16.binds (ps := ["plan", "want"]) fun _ _ _ _ _ _ us hl => match us, hl with | [_, _], _ => rfl
  have g16 := PySem.W.mg_of X G a16
  have F17 := fun_mk (st := a_barred_paper) l17 c17 k17
  have b17 := F17.binds (ps := ["plan", "want"]) fun _ _ _ _ _ _ us hl => match us, hl with | [_, _], _ => rfl
  have g17 := PySem.W.mg_of X G a17
  have F18 := fun_mk (st := a_rule_sides) l18 c18 k18
  have b18 := F18.binds (ps := ["plan"]) fun _ _ _ _ _ _ us hl => match us, hl with | [_], _ => rfl
  have g18 := PySem.W.mg_of X G a18
  have F19 := fun_mk (st := a_turning) l19 c19 k19
  have b19 := F19.binds (ps := ["plan", "side"]) fun _ _ _ _ _ _ us hl => match us, hl with | [_, _], _ => rfl
  have g19 := PySem.W.mg_of X G a19
  have F20 := fun_mk (st := a_ring_paper) l20 c20 k20
  have b20 := F20.binds (ps := ["plan"]) fun _ _ _ _ _ _ us hl => match us, hl with | [_], _ => rfl
  have g20 := PySem.W.mg_of X G a20
  have F21 := fun_mk (st := a_none_paper) l21 c21 k21
  have b21 := F21.binds (ps := ["plan", "want"]) fun _ _ _ _ _ _ us hl => match us, hl with | [_, _], _ => rfl
  have g21 := PySem.W.mg_of X G a21
  have F22 := fun_mk (st := a_forced) l22 c22 k22
  have b22 := F22.binds (ps := ["plan"]) fun _ _ _ _ _ _ us hl => match us, hl with | [_], _ => rfl
  have g22 := PySem.W.mg_of X G a22
  have F23 : FunD K "bounds" "bounds" (defArgs a_bounds) (defBody a_bounds) (defScope a_bounds) [V.ref e23] [] f23 (PySem.W.fnOf "bounds" "bounds" (defArgs a_bounds) (defBody a_bounds) (defScope a_bounds) (.ref Td23) kV23 dc23 pm23 an23 cd23 ct23) :=
    ⟨⟨oc23, od23, .ref Td23, kV23, dc23, pm23, an23, cd23, ct23, sl23, rfl, l23, c23, .inr ⟨by simp, Td23, _, [.ref e23], nT23, rfl, lT23, rfl, .cons rfl .nil⟩, .inl rfl⟩, k23⟩
  obtain ⟨ds23, rds23, b23⟩ := F23.binds1 (ps := ["plan", "want"]) 1 0 (by simp) rfl fun T kV doc pm an cdv ct us its h1 h2 => match us, its, h1, h2 with | [_], [_], _, _ => ⟨_, rfl, rfl⟩
  obtain ⟨dt23, rdt23, B23⟩ := F23.binds1 (ps := ["plan", "want"]) 2 1 (by simp) rfl fun T kV doc pm an cdv ct us its h1 h2 => match us, its, h1, h2 with | [_, _], [_], _, _ => ⟨_, rfl, rfl⟩
  cases rdt23
  have hE23 : ∀ H, SqT K H e23 [] := fun H => .inr ⟨_, _, _, lE23, rfl, rfl, Nat.zero_le _, .nil⟩
  have g23 := PySem.W.mg_of X G a23
  have F24 := fun_mk (st := a_stretches) l24 c24 k24
  have b24 := F24.binds (ps := ["plan", "thing", "place"]) fun _ _ _ _ _ _ us hl => match us, hl with | [_, _, _], _ => rfl
  have g24 := PySem.W.mg_of X G a24
  have F25 := fun_mk (st := a_bundle) l25 c25 k25
  have b25 := F25.binds (ps := ["plan", "thing", "place"]) fun _ _ _ _ _ _ us hl => match us, hl with | [_, _, _], _ => rfl
  have g25 := PySem.W.mg_of X G a25
  have F26 := fun_mk (st := a_pulled) l26 c26 k26
  have b26 := F26.binds (ps := ["plan", "standing", "want"]) fun _ _ _ _ _ _ us hl => match us, hl with | [_, _, _], _ => rfl
  have g26 := PySem.W.mg_of X G a26
  have F27 := fun_mk (st := a_nearest) l27 c27 k27
  have b27 := F27.binds (ps := ["plan", "standing", "want"]) fun _ _ _ _ _ _ us hl => match us, hl with | [_, _, _], _ => rfl
  have g27 := PySem.W.mg_of X G a27
  have F28 := fun_mk (st := sPot) l28 c28 k28
  have b28 := F28.binds (ps := ["_law_script", "_law_k"]) fun _ _ _ _ _ _ us hl => match us, hl with | [_, _], _ => rfl
  have g28 := PySem.W.mg_of X G a28
  have F29 := fun_mk (st := sTake) l29 c29 k29
  have b29 := F29.binds (ps := ["_law_pot_here", "_law_many"]) fun _ _ _ _ _ _ us hl => match us, hl with | [_, _], _ => rfl
  have g29 := PySem.W.mg_of X G a29
  have F30 := fun_mk (st := sOf) l30 c30 k30
  have b30 := F30.binds (ps := ["_law_pot_here", "_law_some"]) fun _ _ _ _ _ _ us hl => match us, hl with | [_, _], _ => rfl
  have g30 := PySem.W.mg_of X G a30
  have F31 := fun_mk (st := sStand) l31 c31 k31
  have b31 := F31.binds (ps := ["_law_pot_here", "_law_tops"]) fun _ _ _ _ _ _ us hl => match us, hl with | [_, _], _ => rfl
  have g31 := PySem.W.mg_of X G a31
  have F32 := fun_mk (st := aSideIn) l32 c32 k32
  have b32 := F32.binds (ps := ["_law_pot_here", "_law_tops", "_law_standing_here"]) fun _ _ _ _ _ _ us hl => match us, hl with | [_, _, _], _ => rfl
  have g32 := PySem.W.mg_of X G a32
  have F33 := fun_mk (st := aRules) l33 c33 k33
  have b33 := F33.binds (ps := ["_law_pot_here", "_law_tops", "_law_one", "_law_two", "_law_many"]) fun _ _ _ _ _ _ us hl => match us, hl with | [_, _, _, _, _], _ => rfl
  have g33 := PySem.W.mg_of X G a33
  have F34 := fun_mk (st := aGTops) l34 c34 k34
  have b34 := F34.binds (ps := ["_law_pot_here"]) fun _ _ _ _ _ _ us hl => match us, hl with | [_], _ => rfl
  have g34 := PySem.W.mg_of X G a34
  have F35 := fun_mk (st := aBtw) l35 c35 k35
  have b35 := F35.binds (ps := ["_law_pot_here", "_law_tops", "_law_one", "_law_two"]) fun _ _ _ _ _ _ us hl => match us, hl with | [_, _, _, _], _ => rfl
  have g35 := PySem.W.mg_of X G a35
  have F36 := fun_mk (st := aPlan) l36 c36 k36
  have b36 := F36.binds (ps := ["_law_pot_here", "_law_tops", "_law_many"]) fun _ _ _ _ _ _ us hl => match us, hl with | [_, _, _], _ => rfl
  have g36 := PySem.W.mg_of X G a36
  have F37 := fun_mk (st := aGreat) l37 c37 k37
  have b37 := F37.binds (ps := ["_law_pot_here"]) fun _ _ _ _ _ _ us hl => match us, hl with | [_], _ => rfl
  have g37 := PySem.W.mg_of X G a37
  have F38 := fun_mk (st := a__law_turned) l38 c38 k38
  have b38 := F38.binds (ps := ["_law_pot_here", "_law_some"]) fun _ _ _ _ _ _ us hl => match us, hl with | [_, _], _ => rfl
  have g38 := PySem.W.mg_of X G a38
  have F39 := fun_mk (st := a__law_led) l39 c39 k39
  have b39 := F39.binds (ps := ["_law_tops", "_law_order", "_law_flips", "_law_thing", "_law_place"]) fun _ _ _ _ _ _ us hl => match us, hl with | [_, _, _, _, _], _ => rfl
  have g39 := PySem.W.mg_of X G a39
  have F40 := fun_mk (st := a__law_side_led) l40 c40 k40
  have b40 := F40.binds (ps := ["_law_tops", "_law_order", "_law_flips", "_law_side"]) fun _ _ _ _ _ _ us hl => match us, hl with | [_, _, _, _], _ => rfl
  have g40 := PySem.W.mg_of X G a40
  have F41 := fun_mk (st := a__law_rows_led) l41 c41 k41
  have b41 := F41.binds (ps := ["_law_tops", "_law_order", "_law_flips", "_law_rows"]) fun _ _ _ _ _ _ us hl => match us, hl with | [_, _, _, _], _ => rfl
  have g41 := PySem.W.mg_of X G a41
  have F42 := fun_mk (st := a__law_standing_led) l42 c42 k42
  have b42 := F42.binds (ps := ["_law_tops", "_law_order", "_law_flips", "_law_standing_here"]) fun _ _ _ _ _ _ us hl => match us, hl with | [_, _, _, _], _ => rfl
  have g42 := PySem.W.mg_of X G a42
  have F43 := fun_mk (st := a__law_rules_led) l43 c43 k43
  have b43 := F43.binds (ps := ["_law_pot_here", "_law_tops", "_law_order", "_law_flips", "_law_rules_here"]) fun _ _ _ _ _ _ us hl => match us, hl with | [_, _, _, _, _], _ => rfl
  have g43 := PySem.W.mg_of X G a43
  have F44 := fun_mk (st := a__law_bundle_right) l44 c44 k44
  have b44 := F44.binds (ps := ["_law_plan_here", "_law_other", "_law_order", "_law_flips", "_law_thing", "_law_place"]) fun _ _ _ _ _ _ us hl => match us, hl with | [_, _, _, _, _, _], _ => rfl
  have g44 := PySem.W.mg_of X G a44
  have F45 := fun_mk (st := a__law_near_place) l45 c45 k45
  have b45 := F45.binds (ps := ["_law_pot_here", "_law_tops", "_law_rules_here", "_law_thing"]) fun _ _ _ _ _ _ us hl => match us, hl with | [_, _, _, _], _ => rfl
  have g45 := PySem.W.mg_of X G a45
  have F46 := fun_mk (st := a__law_want_right) l46 c46 k46
  have b46 := F46.binds (ps := ["_law_plan_here", "_law_other", "_law_order", "_law_flips", "_law_standing_here", "_law_want"]) fun _ _ _ _ _ _ us hl => match us, hl with | [_, _, _, _, _, _], _ => rfl
  have g46 := PySem.W.mg_of X G a46
  have F47 := fun_mk (st := a__law_right) l47 c47 k47
  have b47 := F47.binds (ps := ["_law_pot_here"]) fun _ _ _ _ _ _ us hl => match us, hl with | [_], _ => rfl
  have g47 := PySem.W.mg_of X G a47
  have F48 := fun_mk (st := a_law) l48 c48 k48
  have m1 := PySem.W.mg_none_of X G z1
  have m2 := PySem.W.mg_none_of X G z2
  have m3 := PySem.W.mg_none_of X G z3
  have m4 := PySem.W.mg_none_of X G z4
  have m5 := PySem.W.mg_none_of X G z5
  have m6 := PySem.W.mg_none_of X G z6
  have m7 := PySem.W.mg_none_of X G z7
  have m8 := PySem.W.mg_none_of X G z8
  have m9 := PySem.W.mg_none_of X G z9
  have m10 := PySem.W.mg_none_of X G z10
  have m11 := PySem.W.mg_none_of X G z11
  have m12 := PySem.W.mg_none_of X G z12
  have m13 := PySem.W.mg_none_of X G z13
  have m14 := PySem.W.mg_none_of X G z14
  have m15 := PySem.W.mg_none_of X G z15
  have m16 := PySem.W.mg_none_of X G z16
  have m17 := PySem.W.mg_none_of X G z17
  have TX : PlanTxt K mg C := ⟨⟨pg, hd, po, sa⟩, nTo, nRu, PySem.W.mg_of X G aC⟩
  have MK : Mk K C f0 := ⟨mk, aI, iI, kc⟩
  have FD : FunD K "__init__" "Plan.__init__" (defArgs kInit) (defBody kInit) (defScope kInit) [V.ref e0] [] f0 (PySem.W.fnOf "__init__" "Plan.__init__" (defArgs kInit) (defBody kInit) (defScope kInit) (.ref Td) kV0 dc0 pm0 an0 cd0 ct0) :=
    ⟨⟨oc0, od0, .ref Td, kV0, dc0, pm0, an0, cd0, ct0, sl0, rfl, lI, cI, .inr ⟨by simp, Td, _, [.ref e0], nT, rfl, lT, rfl, .cons rfl .nil⟩, .inl rfl⟩, kI⟩
  obtain ⟨ds, rds, bI⟩ := FD.binds1 (ps := ["self", "tops", "rules"]) 3 1 (by simp) rfl fun T kV doc pm an cdv ct us its h1 h2 => match us, its, h1, h2 with | [_, _, _], [_], _, _ => ⟨_, rfl, rfl⟩
  cases rds
  have hW : ∀ H, SqT K H wa [.str "from", .str "to"] := fun H => .inr ⟨_, _, _, v5, rfl, rfl, (show 2 ≤ sizeLine by decide), .cons ⟨_, rfl⟩ (.cons ⟨_, rfl⟩ .nil)⟩
  have gv1 := PySem.W.mg_of X G v1
  have gv2 := PySem.W.mg_of X G v2
  have gv3 := PySem.W.mg_of X G v3
  have gv4 := PySem.W.mg_of X G v4
  refine ⟨PySem.W.fnOf "law" "law" (defArgs a_law) (defBody a_law) (defScope a_law) .none kV48 dc48 pm48 an48 cd48 ct48, fun s v => .of_eq rfl, fun base _ _ => ?_⟩
  have Kwh := Kn.mk (x := "is_whole") (base := base) (w := w) (P := l.prog) (ok_whole (k := 0) F1 m7 m6 m4) g1 F1.kp b1
  have K_is_whole := Kwh
  have Kpl := Kn.mk (x := "is_place") (base := base) (w := w) (P := l.prog) (ok_place (k := 0) F2 Kwh) g2 F2.kp b2
  have K_is_place := Kpl
  have Kto := Kn.mk (x := "are_tops") (base := base) (w := w) (P := l.prog) (ok_tops (k := 0) F3 Kpl m7 m16 m8 m2 gv1 gv3) g3 F3.kp b3
  have K_are_tops := Kto
  have Ksi := Kn.mk (x := "is_side_of") (base := base) (w := w) (P := l.prog) (ok_side (k := 0) F4 Kpl m7 m16 m8 m15 gv4 hW) g4 F4.kp b4
  have K_is_side_of := Ksi
  have Kss := Kn.mk (x := "are_sides_of") (base := base) (w := w) (P := l.prog) (ok_sides (k := 0) F5 Ksi m7 m16 m2) g5 F5.kp b5
  have K_are_sides_of := Kss
  have Kru := Kn.mk (x := "is_rule_of") (base := base) (w := w) (P := l.prog) (ok_rule (k := 0) F6 Kss m8) g6 F6.kp b6
  have K_is_rule_of := Kru
  have Krs := Kn.mk (x := "are_rules_of") (base := base) (w := w) (P := l.prog) (ok_rules (k := 0) F7 Kru m7 m16 m8 m2 gv2) g7 F7.kp b7
  have K_are_rules_of := Krs
  have K_span := Kn.mk (x := "span") (base := base) (w := w) (P := l.prog) (ok_span (k := 0) F8 TX) g8 F8.kp b8
  have K_other_side := Kn.mk (x := "other_side") (base := base) (w := w) (P := l.prog) (ok_other_side (k := 0) F9 K_span TX) g9 F9.kp b9
  have K_bars := Kn.mk (x := "bars") (base := base) (w := w) (P := l.prog) (ok_bars (k := 0) F10 K_span) g10 F10.kp b10
  have K_is_within := Kn.mk (x := "is_within") (base := base) (w := w) (P := l.prog) (ok_is_within (k := 0) F11 K_span) g11 F11.kp b11
  have K_led_by_rules := Kn.mk (x := "led_by_rules") (base := base) (w := w) (P := l.prog) (ok_led_by_rules (k := 0) F12 K_bars TX) g12 F12.kp b12
  have K_reached := Kn.mk (x := "reached") (base := base) (w := w) (P := l.prog) (ok_reached (k := 0) F13 K_led_by_rules m8 m9) g13 F13.kp b13
  have K_chain_in := Kn.mk (x := "chain_in") (base := base) (w := w) (P := l.prog) (ok_chain_in (k := 0) F14 m16) g14 F14.kp b14
  have K_chain_to := Kn.mk (x := "chain_to") (base := base) (w := w) (P := l.prog) (ok_chain_to (k := 0) F15 K_reached K_is_within K_chain_in) g15 F15.kp b15
  have K_follows := Kn.mk (x := "follows") (base := base) (w := w) (P := l.prog) (ok_follows (k := 0) F16 K_reached TX m17 m8 m9 m10 m11 m16) g16 F16.kp b16
  have K_barred_paper := Kn.mk (x := "barred_paper") (base := base) (w := w) (P := l.prog) (ok_barred_paper (k := 0) F17 K_reached K_bars K_chain_in m3) g17 F17.kp b17
  have K_rule_sides := Kn.mk (x := "rule_sides") (base := base) (w := w) (P := l.prog) (ok_rule_sides (k := 0) F18 K_other_side TX) g18 F18.kp b18
  have K_turning := Kn.mk (x := "turning") (base := base) (w := w) (P := l.prog) (ok_turning (k := 0) F19 K_chain_to K_other_side) g19 F19.kp b19
  have K_ring_paper := Kn.mk (x := "ring_paper") (base := base) (w := w) (P := l.prog) (ok_ring_paper (k := 0) F20 K_rule_sides K_turning K_other_side) g20 F20.kp b20
  have K_none_paper := Kn.mk (x := "none_paper") (base := base) (w := w) (P := l.prog) (ok_none_paper (k := 0) F21 K_barred_paper K_ring_paper) g21 F21.kp b21
  have K_forced := Kn.mk (x := "forced") (base := base) (w := w) (P := l.prog) (ok_forced (k := 0) F22 K_rule_sides K_turning m16) g22 F22.kp b22
  have BoF := ok_bounds (k := 0) F23 K_none_paper K_forced K_follows
  have gBo := g23
  have kBo := F23.kp
  have bBo := b23
  have rBo := rds23
  have hEBo := hE23
  have K_bounds := Kn.mk (x := "bounds") BoF gBo kBo B23
  have K_stretches := Kn.mk (x := "stretches") (base := base) (w := w) (P := l.prog) (ok_stretches (k := 0) F24 K_follows m17 m5 m16) g24 F24.kp b24
  have K_bundle := Kn.mk (x := "bundle") (base := base) (w := w) (P := l.prog) (ok_bundle (k := 0) F25 K_none_paper K_stretches) g25 F25.kp b25
  have K_pulled := Kn.mk (x := "pulled") (base := base) (w := w) (P := l.prog) (ok_pulled (k := 0) F26 K_follows m10 m11 m16 m17) g26 F26.kp b26
  have K_nearest := Kn.mk (x := "nearest") (base := base) (w := w) (P := l.prog) (ok_nearest (k := 0) F27 K_none_paper K_pulled) g27 F27.kp b27
  have Ktake := Kn.mk (x := "_law_take") (base := base) (w := w) (P := l.prog) (ok_take (k := 0) F29) g29 F29.kp b29
  have K__law_take := Ktake
  have K__law_turned := Kn.mk (x := "_law_turned") (base := base) (w := w) (P := l.prog) (ok__law_turned (k := 0) F38 K__law_take m8 m9) g38 F38.kp b38
  have K__law_led := Kn.mk (x := "_law_led") (base := base) (w := w) (P := l.prog) (ok__law_led (k := 0) F39 ) g39 F39.kp b39
  have K__law_side_led := Kn.mk (x := "_law_side_led") (base := base) (w := w) (P := l.prog) (ok__law_side_led (k := 0) F40 K__law_led) g40 F40.kp b40
  have K__law_rows_led := Kn.mk (x := "_law_rows_led") (base := base) (w := w) (P := l.prog) (ok__law_rows_led (k := 0) F41 K__law_led m5 m8 m16) g41 F41.kp b41
  have K__law_standing_led := Kn.mk (x := "_law_standing_led") (base := base) (w := w) (P := l.prog) (ok__law_standing_led (k := 0) F42 K__law_rows_led m16) g42 F42.kp b42
  have K__law_rules_led := Kn.mk (x := "_law_rules_led") (base := base) (w := w) (P := l.prog) (ok__law_rules_led (k := 0) F43 K__law_take K__law_turned K__law_side_led m9 m16) g43 F43.kp b43
  have K__law_bundle_right := ok__law_bundle_right F44 K__law_led K_bundle TX m6 m13 m14 m16
  have Kof := Kn.mk (x := "_law_of") (base := base) (w := w) (P := l.prog) (ok_of (k := 0) F30 Ktake m8) g30 F30.kp b30
  have K__law_of := Kof
  have K__law_near_place := Kn.mk (x := "_law_near_place") (base := base) (w := w) (P := l.prog) (ok__law_near_place (k := 0) F45 K__law_take K__law_of m10 m11) g45 F45.kp b45
  have K__law_want_right := ok__law_want_right F46 K__law_side_led K_follows K__law_rows_led K_bounds K_nearest K__law_standing_led TX m13 m16
  have Kgt := Kn.mk (x := "_law_great_tops") (base := base) (w := w) (P := l.prog) (ok_gtops (k := 0) F34 Ktake Kof m12 m16) g34 F34.kp b34
  have K__law_great_tops := Kgt
  have Kst := Kn.mk (x := "_law_standing") (base := base) (w := w) (P := l.prog) (ok_stand (k := 0) F31 Ktake m16) g31 F31.kp b31
  have K__law_standing := Kst
  have Kbt := Kn.mk (x := "_law_between_rule") (base := base) (w := w) (P := l.prog) (ok_btw (k := 0) F35 Ktake Kof m12 m8 m1) g35 F35.kp b35
  have K__law_between_rule := Kbt
  have Kse := Kn.mk (x := "_law_side_in") (base := base) (w := w) (P := l.prog) (ok_sideIn (k := 0) F32 Ktake m8) g32 F32.kp b32
  have K__law_side_in := Kse
  have Krl := Kn.mk (x := "_law_rules") (base := base) (w := w) (P := l.prog) (ok_rulesL (k := 0) F33 Ktake Kse m12 m16) g33 F33.kp b33
  have K__law_rules := Krl
  have Kpn := Kn.mk (x := "_law_plan") (base := base) (w := w) (P := l.prog) (ok_planL (k := 0) F36 Ktake Kst Kbt Krl m12 m9 m16) g36 F36.kp b36
  have K__law_plan := Kpn
  have Kgr := Kn.mk (x := "_law_great") (base := base) (w := w) (P := l.prog) (ok_great (k := 0) F37 Kgt Kpn) g37 F37.kp b37
  have K__law_great := Kgr
  have GI := ok_init (P := l.prog) (w := w) (base := base) (k := 0) FD TX Kto Krs
  have K__law_right := ok__law_right F47 K__law_great K__law_take K__law_turned K__law_rules_led K__law_of K__law_near_place K_other_side K__law_side_led K__law_want_right g46 F46.kp b46 K__law_bundle_right g44 F44.kp b44 TX MK GI bI m5 m8 m9 m11 m12 m16
  have Kpot := Kn.mk (x := "_law_pot") (base := base) (w := w) (P := l.prog) (ok_pot (k := 0) F28 m8 m1 m6) g28 F28.kp b28
  have K__law_pot := Kpot
  exact ok_law F48 K__law_pot K__law_right g47 F47.kp b47 m2 m8 m10 m11 m12
end K19
open PySem PySem.W PyProof.Rows
set_option maxHeartbeats 0 in
theorem PySem.Challenge.cw_notbothout_k19_whole_things_called_other_holds : PySem.Challenge.rw_notbothout_k19_whole_things_called_other.Holds := by
  w_on; o_law; k_head; (case hw => w_witness2)
  k_fill
  refine NB.walkG (l := PySem.Challenge.rw_notbothout_k19_whole_things_called_other) (n := 63) (k := 13) (x := "_law_script") (sp := fun w => K19.spLaw _) rfl (by decide) rfl ⟨rfl, by decide, by decide⟩ (fun w h Y => PySem.W.kIn_of Y) ?F (fun _ _ a ns hl hS => ⟨a, ns, rfl, hS, hl, fun _ => rfl⟩)
  case F =>
    intro w mg fa h KX G hmg
    refine' K19.all_mk KX G hmg ?a1 ?l1 ?c1 ?k1 ?a2 ?l2 ?c2 ?k2 ?a3 ?l3 ?c3 ?k3 ?a4 ?l4 ?c4 ?k4 ?a5 ?l5 ?c5 ?k5 ?a6 ?l6 ?c6 ?k6 ?a7 ?l7 ?c7 ?k7 ?a8 ?l8 ?c8 ?k8 ?a9 ?l9 ?c9 ?k9 ?a10 ?l10 ?c10 ?k10 ?a11 ?l11 ?c11 ?k11 ?a12 ?l12 ?c12 ?k12 ?a13 ?l13 ?c13 ?k13 ?a14 ?l14 ?c14 ?k14 ?a15 ?l15 ?c15 ?k15 ?a16 ?l16 ?c16 ?k16 ?a17 ?l17 ?c17 ?k17 ?a18 ?l18 ?c18 ?k18 ?a19 ?l19 ?c19 ?k19 ?a20 ?l20 ?c20 ?k20 ?a21 ?l21 ?c21 ?k21 ?a22 ?l22 ?c22 ?k22 ?a23 ?l23 ?c23 ?k23 ?lT23 ?lE23 ?a24 ?l24 ?c24 ?k24 ?a25 ?l25 ?c25 ?k25 ?a26 ?l26 ?c26 ?k26 ?a27 ?l27 ?c27 ?k27 ?a28 ?l28 ?c28 ?k28 ?a29 ?l29 ?c29 ?k29 ?a30 ?l30 ?c30 ?k30 ?a31 ?l31 ?c31 ?k31 ?a32 ?l32 ?c32 ?k32 ?a33 ?l33 ?c33 ?k33 ?a34 ?l34 ?c34 ?k34 ?a35 ?l35 ?c35 ?k35 ?a36 ?l36 ?c36 ?k36 ?a37 ?l37 ?c37 ?k37 ?a38 ?l38 ?c38 ?k38 ?a39 ?l39 ?c39 ?k39 ?a40 ?l40 ?c40 ?k40 ?a41 ?l41 ?c41 ?k41 ?a42 ?l42 ?c42 ?k42 ?a43 ?l43 ?c43 ?k43 ?a44 ?l44 ?c44 ?k44 ?a45 ?l45 ?c45 ?k45 ?a46 ?l46 ?c46 ?k46 ?a47 ?l47 ?c47 ?k47 ?a48 ?l48 ?c48 ?k48 ?aC ?aI ?iI ?lI ?cI ?kI ?lT ?pg ?hd ?po ?sa ?mk ?kc ?nTo ?nRu ?v1 ?v2 ?v3 ?v4 ?v5 ?z1 ?z2 ?z3 ?z4 ?z5 ?z6 ?z7 ?z8 ?z9 ?z10 ?z11 ?z12 ?z13 ?z14 ?z15 ?z16 ?z17
    (case a1 => k_is)
    (case l1 => k_is)
    (case c1 => k_is)
    (case k1 => k_is)
    (case a2 => k_is)
    (case l2 => k_is)
    (case c2 => k_is)
    (case k2 => k_is)
    (case a3 => k_is)
    (case l3 => k_is)
    (case c3 => k_is)
    (case k3 => k_is)
    (case a4 => k_is)
    (case l4 => k_is)
    (case c4 => k_is)
    (case k4 => k_is)
    (case a5 => k_is)
    (case l5 => k_is)
    (case c5 => k_is)
    (case k5 => k_is)
    (case a6 => k_is)
    (case l6 => k_is)
    (case c6 => k_is)
    (case k6 => k_is)
    (case a7 => k_is)
    (case l7 => k_is)
    (case c7 => k_is)
    (case k7 => k_is)
    (case a8 => k_is)
    (case l8 => k_is)
    (case c8 => k_is)
    (case k8 => k_is)
    (case a9 => k_is)
    (case l9 => k_is)
    (case c9 => k_is)
    (case k9 => k_is)
    (case a10 => k_is)
    (case l10 => k_is)
    (case c10 => k_is)
    (case k10 => k_is)
    (case a11 => k_is)
    (case l11 => k_is)
    (case c11 => k_is)
    (case k11 => k_is)
    (case a12 => k_is)
    (case l12 => k_is)
    (case c12 => k_is)
    (case k12 => k_is)
    (case a13 => k_is)
    (case l13 => k_is)
    (case c13 => k_is)
    (case k13 => k_is)
    (case a14 => k_is)
    (case l14 => k_is)
    (case c14 => k_is)
    (case k14 => k_is)
    (case a15 => k_is)
    (case l15 => k_is)
    (case c15 => k_is)
    (case k15 => k_is)
    (case a16 => k_is)
    (case l16 => k_is)
    (case c16 => k_is)
    (case k16 => k_is)
    (case a17 => k_is)
    (case l17 => k_is)
    (case c17 => k_is)
    (case k17 => k_is)
    (case a18 => k_is)
    (case l18 => k_is)
    (case c18 => k_is)
    (case k18 => k_is)
    (case a19 => k_is)
    (case l19 => k_is)
    (case c19 => k_is)
    (case k19 => k_is)
    (case a20 => k_is)
    (case l20 => k_is)
    (case c20 => k_is)
    (case k20 => k_is)
    (case a21 => k_is)
    (case l21 => k_is)
    (case c21 => k_is)
    (case k21 => k_is)
    (case a22 => k_is)
    (case l22 => k_is)
    (case c22 => k_is)
    (case k22 => k_is)
    (case a23 => k_is)
    (case l23 => k_is)
    (case c23 => k_is)
    (case k23 => k_is)
    (case lT23 => k_is)
    (case lE23 => k_is)
    (case a24 => k_is)
    (case l24 => k_is)
    (case c24 => k_is)
    (case k24 => k_is)
    (case a25 => k_is)
    (case l25 => k_is)
    (case c25 => k_is)
    (case k25 => k_is)
    (case a26 => k_is)
    (case l26 => k_is)
    (case c26 => k_is)
    (case k26 => k_is)
    (case a27 => k_is)
    (case l27 => k_is)
    (case c27 => k_is)
    (case k27 => k_is)
    (case a28 => k_is)
    (case l28 => k_is)
    (case c28 => k_is)
    (case k28 => k_is)
    (case a29 => k_is)
    (case l29 => k_is)
    (case c29 => k_is)
    (case k29 => k_is)
    (case a30 => k_is)
    (case l30 => k_is)
    (case c30 => k_is)
    (case k30 => k_is)
    (case a31 => k_is)
    (case l31 => k_is)
    (case c31 => k_is)
    (case k31 => k_is)
    (case a32 => k_is)
    (case l32 => k_is)
    (case c32 => k_is)
    (case k32 => k_is)
    (case a33 => k_is)
    (case l33 => k_is)
    (case c33 => k_is)
    (case k33 => k_is)
    (case a34 => k_is)
    (case l34 => k_is)
    (case c34 => k_is)
    (case k34 => k_is)
    (case a35 => k_is)
    (case l35 => k_is)
    (case c35 => k_is)
    (case k35 => k_is)
    (case a36 => k_is)
    (case l36 => k_is)
    (case c36 => k_is)
    (case k36 => k_is)
    (case a37 => k_is)
    (case l37 => k_is)
    (case c37 => k_is)
    (case k37 => k_is)
    (case a38 => k_is)
    (case l38 => k_is)
    (case c38 => k_is)
    (case k38 => k_is)
    (case a39 => k_is)
    (case l39 => k_is)
    (case c39 => k_is)
    (case k39 => k_is)
    (case a40 => k_is)
    (case l40 => k_is)
    (case c40 => k_is)
    (case k40 => k_is)
    (case a41 => k_is)
    (case l41 => k_is)
    (case c41 => k_is)
    (case k41 => k_is)
    (case a42 => k_is)
    (case l42 => k_is)
    (case c42 => k_is)
    (case k42 => k_is)
    (case a43 => k_is)
    (case l43 => k_is)
    (case c43 => k_is)
    (case k43 => k_is)
    (case a44 => k_is)
    (case l44 => k_is)
    (case c44 => k_is)
    (case k44 => k_is)
    (case a45 => k_is)
    (case l45 => k_is)
    (case c45 => k_is)
    (case k45 => k_is)
    (case a46 => k_is)
    (case l46 => k_is)
    (case c46 => k_is)
    (case k46 => k_is)
    (case a47 => k_is)
    (case l47 => k_is)
    (case c47 => k_is)
    (case k47 => k_is)
    (case a48 => k_is)
    (case l48 => k_is)
    (case c48 => k_is)
    (case k48 => k_is)
    (case aC => k_is)
    (case aI => k_is)
    (case iI => k_is)
    (case lI => k_is)
    (case cI => k_is)
    (case kI => k_is)
    (case lT => k_is)
    (case pg => k_is)
    (case hd => k_is)
    (case po => k_is)
    (case sa => k_is)
    (case mk => k_is)
    (case kc => k_is)
    (case nTo => k_is)
    (case nRu => k_is)
    (case v1 => k_is)
    (case v2 => k_is)
    (case v3 => k_is)
    (case v4 => k_is)
    (case v5 => k_is)
    (case z1 => k_is)
    (case z2 => k_is)
    (case z3 => k_is)
    (case z4 => k_is)
    (case z5 => k_is)
    (case z6 => k_is)
    (case z7 => k_is)
    (case z8 => k_is)
    (case z9 => k_is)
    (case z10 => k_is)
    (case z11 => k_is)
    (case z12 => k_is)
    (case z13 => k_is)
    (case z14 => k_is)
    (case z15 => k_is)
    (case z16 => k_is)
    (case z17 => k_is)
