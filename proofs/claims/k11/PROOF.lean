import PyProof.Rows.All
import Wide.All
import OpenK.AllK
import Wide.FinOn
import HandS.Base
import HandS.Call
import HandS.List
import HandS.Comp
import HandS.Ends
import HandS.Dict
import HandS.Iter
import HandS.Text
import HandS.Words
import HandS.WordsList
import HandS.WordsDict
import HandS.Wide
import HandS.Zip
import HandS.Flow
import HandS.Flt
import KE.GoesMore
import KE.KDictZip
import PyProof.ReprRoads
import HandS.Walk
import PyProof.TupleOfSeq
import KE.GoesEnum
import HandS.Style
import PyProof.ReprLen
import HandS.IsInst
import HandS.TupAny
import PyProof.EqAt
import PyProof.NeKinds
import HandS.Codes
import HandS.Defaults
import HandS.TupMul
import HandS.SortOrd
import HandS.SortRule
import HandS.TupSets
import HandS.Deep
import KE.KDictPairs
import PyProof.Rows.TupDisplay
import HandS.Steps
import HandS.OwnEq
import HandS.DictComp
import HandS.DictTup
import PyProof.CollectWalk
import HandS.Conv
import HandS.Star
import PyProof.P3In
import PySem.Challenge.RW_notbothout_k11_wants_and_what_follows
set_option Elab.async false
set_option linter.all false
set_option maxRecDepth 100000
/-! Defs whose callers are known to show nothing (guards empty): what repr wants. -/
namespace NB
open PySem PySem.Spec PyProof.Rows L2

/-- a def's promise, wherever nothing is being shown around it -/
structure FnG (P : Program) (w : World) (K : PySem.W.Frag) (mg : Str → Option Value) (base : Heap) (k : Nat) (f : Addr) (fd : FuncData) (ps : List Str) (sp : Sp) : Prop where
  len : ∀ vs H Q E, sp vs H Q E → vs.length = ps.length
  go : ∀ (A : Around) (out : List Env) (s : Shared) (H : Hp) (ar : Args) (us : List Value) (vs : List V) (Q : VK) (E : XK),
    A.guards = some [] → Room k A → Env0 P w K mg base A out s H → BindsTo s fd ar (ps.zip us) → Vals vs us → sp vs H Q E →
    codeAny (model P w) A (.call (.ref f) ar) (CR CX0 out P w H s Q E) s

section
variable {P : Program} {w : World} {K : PySem.W.Frag} {mg : Str → Option Value} {base : Heap}

theorem FnG.of {k : Nat} {f : Addr} {fd : FuncData} {ps : List Str} {sp : Sp} (F : FnOk P w K mg base CX0 k f fd ps sp) : FnG P w K mg base k f fd ps sp :=
  ⟨F.len, fun A out s H ar us vs Q E _ => F.run A out s H ar us vs Q E⟩

theorem fnG {x qual : Str} {st : Stmt} {f : Addr} {fd : FuncData} {N ps : List Str} {k : Nat} {sp : Sp} (F : Fun K x qual st f fd)
    (S : FnScope N ps (defScope st)) (len : ∀ vs H Q E, sp vs H Q E → vs.length = ps.length)
    (body : ∀ (c : Value) (A : Around) (out : List Env) (s : Shared) (H : Hp) (vs : List V) (Q : VK) (E : XK),
      A.guards = some [] → Room k (A.deeper (envOfC qual (defScope st) s.heap.objs.size f c)) → sp vs H Q E →
      ∃ t, PSs (cxOf CX0 P w K mg base N qual (defScope st) f c A out s H E).nox (defBody st) t ∧
        t { nx := fun _ H' => Q .non H', rt := Q } (start N vs) H) :
    FnG P w K mg base (k + 1) f fd ps sp := by
  obtain ⟨oc, od, kV, doc, pm, an, c, ct, osl, rfl, lk, hc⟩ := F.ex
  refine ⟨len, fun A out s H ar us vs Q E hg hr e hb r h => ?_⟩
  have stays : ∀ b o, base.get? b = some o → s.heap.get? b = some o := fun b o q => (e.bs b o q).1
  have inH : K.In s.heap := e.mod.kin.keeps stays
  have noLim : s.heap.NoLimit := e.mod.nolimit.keeps stays
  have kinds : ∀ y ∈ ps.zip us, (defScope st).names.lookup y.1 = some .local ∨
      ((defScope st).names.lookup y.1 = some .cell ∧ ((cellsFrom (s.heap.objs.size + 1) (defScope st).names []).lookup y.1).isSome = true) := by
    intro y hy
    obtain ⟨n, v⟩ := y
    cases S.par n (List.of_mem_zip hy).1 with
    | inl q => exact .inl q
    | inr q => exact .inr ⟨q, PySem.W.cellsFrom_some _ _ _ (.inl q)⟩
  refine codeAny_call_function hr.depth (inH _ _ lk) rfl S.co S.gen rfl (PySem.W.codeRec_of inH hc) (hb _ _ _ _ ?_)
  refine wpAny_newFunctionEnv_cells S.kind kinds ?_
  rintro env rfl s1 x
  refine ⟨noLim.keeps x.toInCall.keep, codeAny_func ?_⟩
  obtain ⟨t, ht, hq⟩ := body c A out s H vs Q E hg (hr.deeper _) h
  have I := inv_start (CX := CX0) (E := E) S hr.hd e (len _ _ _ _ h) r x
  refine wpAny_mono (ht.nox.run [] s1 (start N vs) H _ I hq) ?_ fun _ _ z => z
  intro fl s' z
  cases fl with
  | ret u =>
    obtain ⟨v, σ', H', J, rv, q⟩ := z
    exact ⟨v, H', J.os, J.bare, J.base, J.hok, rv, q⟩
  | next =>
    obtain ⟨σ', H', J, q⟩ := z
    exact ⟨V.non, H', J.os, J.bare, J.base, J.hok, rfl, q⟩
  | brk => exact False.elim z.choose_spec.choose_spec.2
  | cont => exact False.elim z.choose_spec.choose_spec.2
end

section
variable {X : Cx} {k : Nat} {f : Addr} {fd : FuncData} {ps : List Str} {sp : Sp} {x : Str} {p pos : Pos} {e : Expr} {es : List Expr} {t : TA}
/-- f(..) of such a def, all arguments written -/
theorem pe_callG (hG : X.A.guards = some []) (F : FnG X.prog X.w X.K X.mg X.base k f fd ps sp) (hr : Room k X.A) (hg : Gl X x) (hm : X.mg x = some (.ref f))
    (hk : PySem.W.keepIn X.K (.ref f) = true) (hb : Binds X.K fd ps []) (ha : PA X (e :: es) t) (hdb : (x == ("__debug__" : Str)) = false := by decide)
    (he : starEach (e :: es) X.env = (false, eval e X.env) :: starEach es X.env := by rfl) (hpl : (backTo pos (starEach es X.env)).any (·.1) = false := by rfl) :
    PE X (.Call (.Name x p) (e :: es) [] pos) (tCall sp [] E0 t) := by
  refine ⟨fun pins s σ H Q I h => wpAny_Call_Name_kw (ld_glob I hg hm ?_ hdb)⟩
  refine PySem.W.callWith_K (h₀ := X.base) I.ok.mod.kin hk (thn (ha.run pos pins s σ H _ I h) ?_) he hpl
  rintro us s1 ⟨vs, H1, I1, r, q⟩
  refine ⟨I1.kIn, wpAny_call ?_⟩
  have q2 : sp vs H1 Q E0 := by
    have q' : sp (vs ++ []) H1 Q E0 := q
    rwa [List.append_nil] at q'
  have ln : us.length = ps.length := r.length.symm.trans (F.len _ _ _ _ q2)
  have bnd : BindsTo s1 fd ⟨us, []⟩ (ps.zip us) := by
    have b := hb s1 us I1.kIn (by rw [List.append_nil]; exact ln)
    rwa [List.append_nil] at b
  refine codeAny_mono (F.go X.A X.stack s1 H1 ⟨us, []⟩ us vs Q E0 hG hr I1.env0 bnd r q2) ?_
  intro rs s' z
  cases rs with
  | error e => exact False.elim z
  | ok fl =>
    cases fl with
    | ret u => exact I1.after z
    | next => exact False.elim z
    | brk => exact False.elim z
    | cont => exact False.elim z
end

section
variable {X : Cx}
/-- what repr asks of data -/
structure Showable (d : PyData) : Prop where
  sh : d.showable = true
  nd : d.hasDict = false
  dp : d.depth ≤ 60
  sz : d.shown.length ≤ sizeLine
/-- repr(x), x a list or a tuple of data -/
theorem call_reprD (hG : X.A.guards = some []) (hu : X.A.units + 64 < cLine) : CallR X (.builtin "repr") (fun xs H Q => ∃ a d, xs = [.ref a] ∧ Dp X.K H (.ref a) d ∧ Showable d ∧ Q (.str d.shown) H) := by
  intro pins s σ H xs us Q I r h
  obtain ⟨a, d, rfl, hd, S, q⟩ := h
  obtain ⟨u, rfl, ru⟩ := vals1 r
  obtain ⟨as, rd⟩ := Dp.reads I d _ u hd ru
  cases ru
  have hn := S.dp
  exact repr_of_reads' rd S.sh (PyData.noDict_hsm S.nd) hG (by omega) (fun _ _ z => z) (fun h' u tk hk => ⟨.str _, H, I.kept hk, ⟨_, rfl⟩, q⟩) S.sz
end
end NB

set_option Elab.async false
set_option linter.all false
set_option maxRecDepth 100000
set_option maxHeartbeats 1000000
/-! zip of three tuples of one length, its turns given to one name or to three. -/
namespace NB
open PySem PySem.Spec PyProof.Rows L2
open PySem.Sem (wp)

/-- a zip as it stands between two turns: a is None or the tuple given out last -/
abbrev Zat (h : Heap) (z ti to : Addr) (a b : Value) : Prop :=
  h.get? z = some { cls := .type "zip", dict := none, data := .fields #[a, b, .bool false, .ref ti, .ref to], slots := #[] }
def Out (a : Value) : Prop := a = .none ∨ ∃ T : Addr, a = rawInt T

section
variable {prog : Program} {w : World} {A : Around} {E : Value → Shared → Prop} {s : Shared} {z ti to i1 i2 i3 l1 l2 l3 : Addr} {a a1 a2 a3 : Value} {f : Bool} {xs ys zs : Array Value} {i : Nat}

theorem freeOr {Q : Bool → Shared → Prop} (ho : Out a) (hz : Zat s.heap z ti to a (.bool f))
    (h : ∀ (b : Bool) (h' : Heap) (g : Bool), Zat h' z ti to a (.bool g) → Heap.SameBut z s.heap h' → Q b { s with heap := h' }) :
    wpAny (model prog w) A (Builtin.SmallTypes.ownedTupleIsFree (.ref z)) Q E s := by
  unfold Builtin.SmallTypes.ownedTupleIsFree
  refine wpAny_bind (wpAny_field hz rfl (x := a) rfl ?_)
  rcases ho with e | ⟨T, e⟩
  · subst e
    exact wpAny_pure (h true s.heap f hz (Heap.SameBut.refl _ _))
  · subst e
    show wpAny _ _ (loadIfAlive ((T : Int).toNat) >>= _) _ _ _
    rw [Int.toNat_natCast]
    refine wpAny_bind ?_
    cases e : s.heap.get? T with
    | none =>
      have key : wpAny (model prog w) A (loadIfAlive T) (fun r s' => r = none ∧ s' = s) E s := fun _ _ _ => ⟨e, rfl⟩
      refine thn key fun r s' q => ?_
      obtain ⟨rfl, rfl⟩ := q
      exact wpAny_pure (h true _ f hz (Heap.SameBut.refl _ _))
    | some o =>
      refine PySem.W.kdx_alive e ?_
      simp only [Option.isNone_some, Bool.false_eq_true, if_false]
      refine wpAny_bind (wpAny_field hz rfl (x := .bool f) rfl ?_)
      cases f with
      | true =>
        rw [if_neg (show ¬ ((Value.bool true != Value.bool true) = true) by decide)]
        exact wpAny_pure (h false s.heap true hz (Heap.SameBut.refl _ _))
      | false =>
        rw [if_pos (show (Value.bool false != Value.bool true) = true by decide)]
        exact wpAny_bind (wpAny_setField_rec hz (by simp) fun h1 z1 s1 => wpAny_pure (h false h1 true z1 s1))

/-- the three iterators over their tuples at turn i, apart from the zip's own cells -/
abbrev St3 (h : Heap) (i1 i2 i3 l1 l2 l3 : Addr) (xs ys zs : Array Value) (i : Nat) : Prop :=
  (h.IsTupleIter i1 l1 i ∧ h.IsTuple l1 xs) ∧ (h.IsTupleIter i2 l2 i ∧ h.IsTuple l2 ys) ∧ (h.IsTupleIter i3 l3 i ∧ h.IsTuple l3 zs)

theorem keepIt {h h' : Heap} {it l : Addr} {k : Nat} {vs : Array Value} (st : h.IsTupleIter it l k ∧ h.IsTuple l vs) {x : Addr} (hs : Heap.SameBut x h h') (n1 : it ≠ x) (n2 : l ≠ x) : h'.IsTupleIter it l k ∧ h'.IsTuple l vs :=
  ⟨st.1.extBut hs.extBut n1, st.2.extBut hs.extBut n2⟩

structure Far3 (z ti to i1 i2 i3 l1 l2 l3 : Addr) : Prop where
  tiz : ti ≠ z
  toz : to ≠ z
  tito : ti ≠ to
  ti1 : ti ≠ i1
  ti2 : ti ≠ i2
  ti3 : ti ≠ i3
  to1 : to ≠ i1
  to2 : to ≠ i2
  to3 : to ≠ i3
  z1 : i1 ≠ z
  z2 : i2 ≠ z
  z3 : i3 ≠ z
  n12 : i1 ≠ i2
  n13 : i1 ≠ i3
  n23 : i2 ≠ i3
  l1n : l1 ≠ z ∧ l1 ≠ to ∧ l1 ≠ i1 ∧ l1 ≠ i2 ∧ l1 ≠ i3
  l2n : l2 ≠ z ∧ l2 ≠ to ∧ l2 ≠ i1 ∧ l2 ≠ i2 ∧ l2 ≠ i3
  l3n : l3 ≠ z ∧ l3 ≠ to ∧ l3 ≠ i1 ∧ l3 ≠ i2 ∧ l3 ≠ i3

theorem drawT {it l : Addr} {k : Nat} {vs : Array Value} {x : Value} {Q : Value → Shared → Prop} (st : s.heap.IsTupleIter it l k ∧ s.heap.IsTuple l vs) (ne : l ≠ it) (hx : vs[k]? = some x)
    (h : ∀ h', (h'.IsTupleIter it l (k + 1) ∧ h'.IsTuple l vs) → Heap.SameBut it s.heap h' → Q x { s with heap := h' }) :
    wpAny (model prog w) A (Builtin.SmallTypes.nextOf (.ref it)) Q E s :=
  RZ.nextOf_tuple_item st.1 st.2 hx fun h' q1 q2 => h h' ⟨q1, st.2.extBut q2.extBut ne⟩ q2

theorem next3 {x1 x2 x3 : Value} {Q : Value → Shared → Prop} (D : Far3 z ti to i1 i2 i3 l1 l2 l3) (ho : Out a) (hz : Zat s.heap z ti to a (.bool f))
    (hI : IsTupOf3 s.heap ti (.ref i1) (.ref i2) (.ref i3)) (hO : IsTupOf3 s.heap to a1 a2 a3) (st : St3 s.heap i1 i2 i3 l1 l2 l3 xs ys zs i)
    (hx : xs[i]? = some x1) (hy : ys[i]? = some x2) (hw : zs[i]? = some x3)
    (hQ : ∀ (h' : Heap) (a' : Value) (g : Bool) (b1 b2 b3 : Value), Out a' → Zat h' z ti to a' (.bool g) → IsTupOf3 h' to b1 b2 b3 → St3 h' i1 i2 i3 l1 l2 l3 xs ys zs (i + 1) → IsTupOf3 h' s.heap.objs.size x1 x2 x3 → h'.objs.size = s.heap.objs.size + 1 →
      (∀ c o, c ≠ z → c ≠ to → c ≠ i1 → c ≠ i2 → c ≠ i3 → s.heap.get? c = some o → h'.get? c = some o) → Q (.ref s.heap.objs.size) { s with heap := h' }) :
    wpAny (model prog w) A (Builtin.«zip.__next__» ⟨[.ref z], []⟩) (fun fin s' => ∃ v, fin = .done (.ret v) ∧ Q v s') E s := by
  obtain ⟨hp, gg, dd, tk, os⟩ := s
  show wpAny _ _ (field (.ref z) 2 >>= _) _ _ _
  refine wpAny_bind (wpAny_field hz rfl (x := .bool false) rfl ?_)
  show wpAny _ _ (field (.ref z) 3 >>= _) _ _ _
  refine wpAny_bind (wpAny_field hz rfl (x := .ref ti) rfl ?_)
  refine wpAny_bind (wpAny_seqItems hI rfl ?_)
  show wpAny _ _ (Builtin.SmallTypes.ownedTupleIsFree (.ref z) >>= _) _ _ _
  refine wpAny_bind (freeOr ho hz fun b h1 f1 hz1 hs1 => ?_)
  replace hs1 : Heap.SameBut z hp h1 := hs1
  obtain ⟨sa, sb, sc⟩ := st
  have sa1 := keepIt sa hs1 D.z1 D.l1n.1
  have sb1 := keepIt sb hs1 D.z2 D.l2n.1
  have sc1 := keepIt sc hs1 D.z3 D.l3n.1
  have hO1 : IsTupOf3 h1 to a1 a2 a3 := hs1.extBut _ _ D.toz hO
  cases b with
  | false =>
    simp only [Bool.false_eq_true, if_false]
    refine wpAny_bind ?_
    rw [← Array.forIn_toList]
    simp only [List.forIn_cons, List.forIn_nil]
    refine wpAny_bind (wpAny_bind (wpAny_holding ?_))
    show wpAny _ _ (Builtin.SmallTypes.nextOf (.ref i1) >>= _) _ _ ⟨h1, gg, dd, tk, os⟩
    refine wpAny_bind (drawT (s := ⟨h1, gg, dd, tk, os⟩) sa1 D.l1n.2.2.1 hx fun h2 sa2 hs2 => wpAny_pure (wpAny_pure ?_))
    replace hs2 : Heap.SameBut i1 h1 h2 := hs2
    have sb2 := keepIt sb1 hs2 D.n12.symm D.l2n.2.2.1
    have sc2 := keepIt sc1 hs2 D.n13.symm D.l3n.2.2.1
    refine wpAny_bind (wpAny_bind (wpAny_holding ?_))
    show wpAny _ _ (Builtin.SmallTypes.nextOf (.ref i2) >>= _) _ _ ⟨h2, gg, dd, tk, os⟩
    refine wpAny_bind (drawT (s := ⟨h2, gg, dd, tk, os⟩) sb2 D.l2n.2.2.2.1 hy fun h3 sb3 hs3 => wpAny_pure (wpAny_pure ?_))
    replace hs3 : Heap.SameBut i2 h2 h3 := hs3
    have sa3 := keepIt sa2 hs3 D.n12 D.l1n.2.2.2.1
    have sc3 := keepIt sc2 hs3 D.n23.symm D.l3n.2.2.2.1
    refine wpAny_bind (wpAny_bind (wpAny_holding ?_))
    show wpAny _ _ (Builtin.SmallTypes.nextOf (.ref i3) >>= _) _ _ ⟨h3, gg, dd, tk, os⟩
    refine wpAny_bind (drawT (s := ⟨h3, gg, dd, tk, os⟩) sc3 D.l3n.2.2.2.2 hw fun h4 sc4 hs4 => wpAny_pure (wpAny_pure (wpAny_pure ?_)))
    replace hs4 : Heap.SameBut i3 h3 h4 := hs4
    have sa4 := keepIt sa3 hs4 D.n13 D.l1n.2.2.2.2
    have sb4 := keepIt sb3 hs4 D.n23 D.l2n.2.2.2.2
    show wpAny _ _ (newTuple [x1, x2, x3] >>= _) _ _ ⟨h4, gg, dd, tk, os⟩
    refine wpAny_bind (wpAny_newTuple (wpAny_pure ⟨_, rfl, ?_⟩))
    have sz : h4.objs.size = hp.objs.size := by rw [hs4.1, hs3.1, hs2.1, hs1.1]
    have kk : ∀ c o, c ≠ z → c ≠ i1 → c ≠ i2 → c ≠ i3 → hp.get? c = some o → h4.get? c = some o := fun c o c0 c1 c2 c3 e =>
      hs4.extBut _ _ c3 (hs3.extBut _ _ c2 (hs2.extBut _ _ c1 (hs1.extBut _ _ c0 e)))
    have hz4 : Zat h4 z ti to a (.bool f1) := hs4.extBut _ _ D.z3.symm (hs3.extBut _ _ D.z2.symm (hs2.extBut _ _ D.z1.symm hz1))
    have hO4 : IsTupOf3 h4 to a1 a2 a3 := kk _ _ D.toz D.to1 D.to2 D.to3 hO
    have up : ∀ c o, h4.get? c = some o → (h4.push { cls := .type "tuple", data := .seq #[x1, x2, x3] }).get? c = some o := fun c o e => Heap.get?_push_of_some _ e
    have nw : IsTupOf3 (h4.push { cls := .type "tuple", data := .seq #[x1, x2, x3] }) h4.objs.size x1 x2 x3 := Heap.get?_push_size _ rfl
    have zw : (h4.push { cls := .type "tuple", data := .seq #[x1, x2, x3] }).objs.size = h4.objs.size + 1 := Heap.size_push ..
    show Q (.ref h4.objs.size) _
    rw [sz] at nw zw ⊢
    exact hQ _ a f1 a1 a2 a3 ho (up _ _ hz4) (up _ _ hO4)
      ⟨⟨sa4.1.at fun o e => up _ o e, sa4.2.push _⟩, ⟨sb4.1.at fun o e => up _ o e, sb4.2.push _⟩, ⟨sc4.1.at fun o e => up _ o e, sc4.2.push _⟩⟩ nw zw
      fun c o c0 _ c1 c2 c3 e => up c o (kk c o c0 c1 c2 c3 e)
  | true =>
    simp only [if_true]
    refine wpAny_bind (wpAny_rule ?_)
    refine wpAny_bind (wpAny_field (s := ⟨h1, gg, dd, tk, os⟩) hz1 rfl (x := .ref to) rfl ?_)
    refine wpAny_bind (wpAny_setField_rec (s := ⟨h1, gg, dd, tk, os⟩) hz1 (by simp) fun g0 z0 s0 => ?_)
    replace z0 : Zat g0 z ti to .ellipsis (.bool f1) := z0
    replace s0 : Heap.SameBut z h1 g0 := s0
    have ta0 := keepIt sa1 s0 D.z1 D.l1n.1
    have tb0 := keepIt sb1 s0 D.z2 D.l2n.1
    have tc0 := keepIt sc1 s0 D.z3 D.l3n.1
    have o0 : IsTupOf3 g0 to a1 a2 a3 := s0.extBut _ _ D.toz hO1
    refine wpAny_bind ?_
    simp only [List.zipIdx_cons, List.zipIdx_nil, List.forIn_cons, List.forIn_nil]
    refine wpAny_bind (wpAny_bind (wpAny_onRaise ?_))
    show wpAny _ _ (Builtin.SmallTypes.nextOf (.ref i1) >>= _) _ _ ⟨g0, gg, dd, tk, os⟩
    refine wpAny_bind (drawT (s := ⟨g0, gg, dd, tk, os⟩) ta0 D.l1n.2.2.1 hx fun p1 ta1 s1 => wpAny_pure ?_)
    replace s1 : Heap.SameBut i1 g0 p1 := s1
    have o1 : IsTupOf3 p1 to a1 a2 a3 := s1.extBut _ _ D.to1 o0
    refine wpAny_bind (wpAny_seqItems (s := ⟨p1, gg, dd, tk, os⟩) o1 rfl ?_)
    refine wpAny_bind (updateSeq_IsTupOf3 (s := ⟨p1, gg, dd, tk, os⟩) o1 fun q1 u1 r1 => wpAny_bind (wpAny_letGo (wpAny_pure ?_)))
    replace u1 : IsTupOf3 q1 to x1 a2 a3 := u1
    replace r1 : Heap.SameBut to p1 q1 := r1
    have ta2 := keepIt ta1 r1 D.to1.symm D.l1n.2.1
    have tb2 := keepIt (keepIt tb0 s1 D.n12.symm D.l2n.2.2.1) r1 D.to2.symm D.l2n.2.1
    have tc2 := keepIt (keepIt tc0 s1 D.n13.symm D.l3n.2.2.1) r1 D.to3.symm D.l3n.2.1
    refine wpAny_bind (wpAny_bind (wpAny_onRaise ?_))
    show wpAny _ _ (Builtin.SmallTypes.nextOf (.ref i2) >>= _) _ _ ⟨q1, gg, dd, tk, os⟩
    refine wpAny_bind (drawT (s := ⟨q1, gg, dd, tk, os⟩) tb2 D.l2n.2.2.2.1 hy fun p2 tb3 s2 => wpAny_pure ?_)
    replace s2 : Heap.SameBut i2 q1 p2 := s2
    have o2 : IsTupOf3 p2 to x1 a2 a3 := s2.extBut _ _ D.to2 u1
    refine wpAny_bind (wpAny_seqItems (s := ⟨p2, gg, dd, tk, os⟩) o2 rfl ?_)
    refine wpAny_bind (updateSeq_IsTupOf3 (s := ⟨p2, gg, dd, tk, os⟩) o2 fun q2 u2 r2 => wpAny_bind (wpAny_letGo (wpAny_pure ?_)))
    replace u2 : IsTupOf3 q2 to x1 x2 a3 := u2
    replace r2 : Heap.SameBut to p2 q2 := r2
    have ta4 := keepIt (keepIt ta2 s2 D.n12 D.l1n.2.2.2.1) r2 D.to1.symm D.l1n.2.1
    have tb4 := keepIt tb3 r2 D.to2.symm D.l2n.2.1
    have tc4 := keepIt (keepIt tc2 s2 D.n23.symm D.l3n.2.2.2.1) r2 D.to3.symm D.l3n.2.1
    refine wpAny_bind (wpAny_bind (wpAny_onRaise ?_))
    show wpAny _ _ (Builtin.SmallTypes.nextOf (.ref i3) >>= _) _ _ ⟨q2, gg, dd, tk, os⟩
    refine wpAny_bind (drawT (s := ⟨q2, gg, dd, tk, os⟩) tc4 D.l3n.2.2.2.2 hw fun p3 tc5 s3 => wpAny_pure ?_)
    replace s3 : Heap.SameBut i3 q2 p3 := s3
    have o3 : IsTupOf3 p3 to x1 x2 a3 := s3.extBut _ _ D.to3 u2
    refine wpAny_bind (wpAny_seqItems (s := ⟨p3, gg, dd, tk, os⟩) o3 rfl ?_)
    refine wpAny_bind (updateSeq_IsTupOf3 (s := ⟨p3, gg, dd, tk, os⟩) o3 fun q3 u3 r3 => wpAny_bind (wpAny_letGo (wpAny_pure (wpAny_pure ?_))))
    replace u3 : IsTupOf3 q3 to x1 x2 x3 := u3
    replace r3 : Heap.SameBut to p3 q3 := r3
    have ta6 := keepIt (keepIt ta4 s3 D.n13 D.l1n.2.2.2.2) r3 D.to1.symm D.l1n.2.1
    have tb6 := keepIt (keepIt tb4 s3 D.n23 D.l2n.2.2.2.2) r3 D.to2.symm D.l2n.2.1
    have tc6 := keepIt tc5 r3 D.to3.symm D.l3n.2.1
    refine wpAny_bind (wpAny_seqItems (s := ⟨q3, gg, dd, tk, os⟩) u3 rfl (wpAny_bind (wpAny_newTuple ?_)))
    have sz : q3.objs.size = hp.objs.size := by rw [r3.1, s3.1, r2.1, s2.1, r1.1, s1.1, s0.1, hs1.1]
    have hz3 : Zat q3 z ti to .ellipsis (.bool f1) := r3.extBut _ _ D.toz.symm (s3.extBut _ _ D.z3.symm (r2.extBut _ _ D.toz.symm (s2.extBut _ _ D.z2.symm (r1.extBut _ _ D.toz.symm (s1.extBut _ _ D.z1.symm z0)))))
    have kk : ∀ c o, c ≠ z → c ≠ to → c ≠ i1 → c ≠ i2 → c ≠ i3 → hp.get? c = some o → q3.get? c = some o := fun c o c0 ct c1 c2 c3 e =>
      r3.extBut _ _ ct (s3.extBut _ _ c3 (r2.extBut _ _ ct (s2.extBut _ _ c2 (r1.extBut _ _ ct (s1.extBut _ _ c1 (s0.extBut _ _ c0 (hs1.extBut _ _ c0 e)))))))
    have zlt : z < q3.objs.size := Heap.lt_size hz3
    show wpAny _ _ (Builtin.SmallTypes.ownedTupleHandOut (.ref z) (.ref q3.objs.size) >>= _) _ _ ⟨q3.push { cls := .type "tuple", data := .seq #[x1, x2, x3] }, gg, dd, tk, os⟩
    refine wpAny_bind ?_
    unfold Builtin.SmallTypes.ownedTupleHandOut
    have z5 : Zat (q3.push { cls := .type "tuple", data := .seq #[x1, x2, x3] }) z ti to .ellipsis (.bool f1) := Heap.get?_push_of_some _ hz3
    refine wpAny_bind (wpAny_setField_rec z5 (by simp) fun h7 z7 s7 => ?_)
    replace z7 : Zat h7 z ti to (rawInt q3.objs.size) (.bool f1) := z7
    replace s7 : Heap.SameBut z (q3.push { cls := .type "tuple", data := .seq #[x1, x2, x3] }) h7 := s7
    refine wpAny_setField_rec z7 (by simp) fun h8 z8 s8 => ?_
    replace z8 : Zat h8 z ti to (rawInt q3.objs.size) (.bool false) := z8
    replace s8 : Heap.SameBut z h7 h8 := s8
    have up : ∀ c o, c ≠ z → q3.get? c = some o → h8.get? c = some o := fun c o c1 e => s8.extBut _ _ c1 (s7.extBut _ _ c1 (Heap.get?_push_of_some _ e))
    have nw : IsTupOf3 h8 q3.objs.size x1 x2 x3 := s8.extBut _ _ (Nat.ne_of_gt zlt) (s7.extBut _ _ (Nat.ne_of_gt zlt) (Heap.get?_push_size _ rfl))
    have zw : h8.objs.size = q3.objs.size + 1 := by rw [s8.1, s7.1, Heap.size_push]
    have fin : ∀ {it l : Addr} {k : Nat} {vs : Array Value}, (q3.IsTupleIter it l k ∧ q3.IsTuple l vs) → it ≠ z → l ≠ z → h8.IsTupleIter it l k ∧ h8.IsTuple l vs := fun {it l k vs} st n1 n2 =>
      keepIt (keepIt ⟨st.1.at fun o e => Heap.get?_push_of_some _ e, st.2.push _⟩ s7 n1 n2) s8 n1 n2
    refine wpAny_pure ⟨_, rfl, ?_⟩
    show Q (.ref q3.objs.size) _
    rw [sz] at nw zw z8 ⊢
    exact hQ h8 _ false x1 x2 x3 (.inr ⟨_, rfl⟩) z8 (up _ _ D.toz u3) ⟨fin ta6 D.z1 D.l1n.1, fin tb6 D.z2 D.l2n.1, fin tc6 D.z3 D.l3n.1⟩ nw zw
      fun c o c0 ct c1 c2 c3 e => up c o c0 (kk c o c0 ct c1 c2 c3 e)

theorem end3 {Q : Fin → Shared → Prop} (hh : A.handled = none) (D : Far3 z ti to i1 i2 i3 l1 l2 l3) (ho : Out a) (hz : Zat s.heap z ti to a (.bool f))
    (hI : IsTupOf3 s.heap ti (.ref i1) (.ref i2) (.ref i3)) (st : s.heap.IsTupleIter i1 l1 i ∧ s.heap.IsTuple l1 xs) (hx : xs[i]? = none)
    (hE : ∀ h' e, (∀ c o, c ≠ z → c ≠ to → c ≠ i1 → c ≠ i2 → c ≠ i3 → s.heap.get? c = some o → h'.get? c = some o) → (∃ o, h'.get? e = some o ∧ o.cls = .type "StopIteration") → E (.ref e) { s with heap := h' }) :
    wpAny (model prog w) A (Builtin.«zip.__next__» ⟨[.ref z], []⟩) Q E s := by
  obtain ⟨hp, gg, dd, tk, os⟩ := s
  show wpAny _ _ (field (.ref z) 2 >>= _) _ _ _
  refine wpAny_bind (wpAny_field hz rfl (x := .bool false) rfl ?_)
  show wpAny _ _ (field (.ref z) 3 >>= _) _ _ _
  refine wpAny_bind (wpAny_field hz rfl (x := .ref ti) rfl ?_)
  refine wpAny_bind (wpAny_seqItems hI rfl ?_)
  show wpAny _ _ (Builtin.SmallTypes.ownedTupleIsFree (.ref z) >>= _) _ _ _
  refine wpAny_bind (freeOr ho hz fun b h1 f1 hz1 hs1 => ?_)
  replace hs1 : Heap.SameBut z hp h1 := hs1
  have sa1 := keepIt st hs1 D.z1 D.l1n.1
  cases b with
  | false =>
    simp only [Bool.false_eq_true, if_false]
    refine wpAny_bind ?_
    rw [← Array.forIn_toList]
    simp only [List.forIn_cons, List.forIn_nil]
    refine wpAny_bind (wpAny_bind (wpAny_holding ?_))
    show wpAny _ _ (Builtin.SmallTypes.nextOf (.ref i1) >>= _) _ _ ⟨h1, gg, dd, tk, os⟩
    refine wpAny_bind (RZ.nextOf_tuple_end (s := ⟨h1, gg, dd, tk, os⟩) hh sa1.1 sa1.2 hx fun h2 e hs2 he => ?_)
    exact hE h2 e (fun c o c0 _ c1 _ _ q => hs2 _ _ c1 (hs1.extBut _ _ c0 q)) he
  | true =>
    simp only [if_true]
    refine wpAny_bind (wpAny_rule ?_)
    refine wpAny_bind (wpAny_field (s := ⟨h1, gg, dd, tk, os⟩) hz1 rfl (x := .ref to) rfl ?_)
    refine wpAny_bind (wpAny_setField_rec (s := ⟨h1, gg, dd, tk, os⟩) hz1 (by simp) fun g0 z0 s0 => ?_)
    replace z0 : Zat g0 z ti to .ellipsis (.bool f1) := z0
    replace s0 : Heap.SameBut z h1 g0 := s0
    have ta0 := keepIt sa1 s0 D.z1 D.l1n.1
    refine wpAny_bind ?_
    simp only [List.zipIdx_cons, List.zipIdx_nil, List.forIn_cons, List.forIn_nil]
    refine wpAny_bind (wpAny_bind (wpAny_onRaise ?_))
    show wpAny _ _ (Builtin.SmallTypes.nextOf (.ref i1) >>= _) _ _ ⟨g0, gg, dd, tk, os⟩
    refine wpAny_bind (RZ.nextOf_tuple_end (s := ⟨g0, gg, dd, tk, os⟩) hh ta0.1 ta0.2 hx fun h2 e hs2 he => ?_)
    obtain ⟨oe, hoe, hce⟩ := he
    replace hs2 : Heap.ExtBut i1 g0 h2 := hs2
    replace hoe : h2.get? e = some oe := hoe
    have z2 : Zat h2 z ti to .ellipsis (.bool f1) := hs2 _ _ D.z1.symm z0
    have ne : e ≠ z := fun q => by subst q; rw [z2] at hoe; cases hoe; simp at hce
    refine wpAny_setField_rec (s := ⟨h2, gg, dd, tk, os⟩) z2 (by simp) fun h3 _ s3 => ?_
    replace s3 : Heap.SameBut z h2 h3 := s3
    exact hE h3 e (fun c o c0 _ c1 _ _ q => s3.extBut _ _ c0 (hs2 _ _ c1 (s0.extBut _ _ c0 (hs1.extBut _ _ c0 q)))) ⟨oe, s3.extBut _ _ ne hoe, hce⟩
end
end NB

set_option Elab.async false
set_option linter.all false
set_option maxRecDepth 100000
set_option maxHeartbeats 1000000
namespace NB
open PySem PySem.Spec PyProof.Rows L2

section
variable {prog : Program} {w : World} {A : Around} {E : Value → Shared → Prop} {s : Shared} {z ti to i1 i2 i3 l1 l2 l3 : Addr} {a a1 a2 a3 : Value} {f : Bool} {xs ys zs : Array Value} {i : Nat}

theorem pyNext3 {x1 x2 x3 : Value} {Q : Option Value → Shared → Prop} (D : Far3 z ti to i1 i2 i3 l1 l2 l3) (ho : Out a) (hz : Zat s.heap z ti to a (.bool f))
    (hI : IsTupOf3 s.heap ti (.ref i1) (.ref i2) (.ref i3)) (hO : IsTupOf3 s.heap to a1 a2 a3) (st : St3 s.heap i1 i2 i3 l1 l2 l3 xs ys zs i)
    (hx : xs[i]? = some x1) (hy : ys[i]? = some x2) (hw : zs[i]? = some x3)
    (hQ : ∀ (h' : Heap) (a' : Value) (g : Bool) (b1 b2 b3 : Value), Out a' → Zat h' z ti to a' (.bool g) → IsTupOf3 h' to b1 b2 b3 → St3 h' i1 i2 i3 l1 l2 l3 xs ys zs (i + 1) → IsTupOf3 h' s.heap.objs.size x1 x2 x3 → h'.objs.size = s.heap.objs.size + 1 →
      (∀ c o, c ≠ z → c ≠ to → c ≠ i1 → c ≠ i2 → c ≠ i3 → s.heap.get? c = some o → h'.get? c = some o) → Q (some (.ref s.heap.objs.size)) { s with heap := h' }) :
    wpAny (model prog w) A (pyNext (.ref z)) Q E s := by
  have ty : s.TypeIs (.ref z) "zip" := ⟨_, hz, rfl⟩
  unfold pyNext
  refine wpAny_bind (wpAny_attempt (wpAny_callSpecial?_slot (name := Str.ofString "__next__") ty F.slot_zip_next ?_))
  refine wpAny_call_entry F.slot_zip_next ty F.entry_zip_next ?_ (F.args_zip_next_1 _)
  exact next3 D ho hz hI hO st hx hy hw fun h' a' g b1 b2 b3 c1 c2 c3 c4 c5 c6 c7 => wpAny_pure (hQ h' a' g b1 b2 b3 c1 c2 c3 c4 c5 c6 c7)

theorem pyEnd3 {Q : Option Value → Shared → Prop} (hh : A.handled = none) (D : Far3 z ti to i1 i2 i3 l1 l2 l3) (ho : Out a) (hz : Zat s.heap z ti to a (.bool f))
    (hI : IsTupOf3 s.heap ti (.ref i1) (.ref i2) (.ref i3)) (st : s.heap.IsTupleIter i1 l1 i ∧ s.heap.IsTuple l1 xs) (hx : xs[i]? = none)
    (hQ : ∀ h', (∀ c o, c ≠ z → c ≠ to → c ≠ i1 → c ≠ i2 → c ≠ i3 → s.heap.get? c = some o → h'.get? c = some o) → Q none { s with heap := h' }) :
    wpAny (model prog w) A (pyNext (.ref z)) Q E s := by
  have ty : s.TypeIs (.ref z) "zip" := ⟨_, hz, rfl⟩
  unfold pyNext
  refine wpAny_bind (wpAny_attempt (wpAny_callSpecial?_slot (name := Str.ofString "__next__") ty F.slot_zip_next ?_))
  refine wpAny_call_entry F.slot_zip_next ty F.entry_zip_next (end3 hh D ho hz hI st hx fun h' e hk he => ?_) (F.args_zip_next_1 _)
  obtain ⟨o, h1, h2⟩ := he
  exact wpAny_bind (wpAny_isInstance (T := "StopIteration") (b := true) ⟨o, h1, h2⟩ isSubtype_stop (wpAny_pure (hQ _ hk)))

/-- ahead of the target's store: a target of several names lets the tuple go -/
theorem letGo3 {tg : Expr} {T : Addr} {Q : Unit → Shared → Prop} (ho : Out a) (hz : Zat s.heap z ti to a (.bool f))
    (h : ∀ (h' : Heap) (a' : Value), Out a' → Zat h' z ti to a' (.bool f) → Heap.SameBut z s.heap h' → Q () { s with heap := h' }) :
    wpAny (model prog w) A (letOwnedTupleGo tg (.ref z) (.ref T)) Q E s := by
  have same : Q () s := h s.heap a ho hz (Heap.SameBut.refl _ _)
  have main : wpAny (model prog w) A (do
      let o ← load z
      match o.cls, o.data with
      | .type n, .fields vs =>
        if ["enumerate", "zip", "dict_itemiterator", "dict_reverseitemiterator", "odict_iterator", "itertools.zip_longest", "itertools.pairwise"].contains n && vs[0]? == some (rawInt T) then
          rule "for.unpacks-the-owned-tuple"
          updateField z 0 .none
      | _, _ => pure ()) Q E s := by
    refine wpAny_bind (wpAny_load hz ?_)
    dsimp only
    split
    · refine wpAny_bind (wpAny_rule ?_)
      show wpAny _ _ (setField (.ref z) 0 .none) Q E s
      exact wpAny_setField_rec hz (by simp) fun h' z' s' => h h' .none (.inl rfl) z' s'
    · exact wpAny_pure same
  unfold letOwnedTupleGo
  cases tg <;> first
    | exact wpAny_pure same
    | exact main

theorem iter3 {Q : Value → Shared → Prop} (hz : Zat s.heap z ti to a (.bool f)) (h : Q (.ref z) s) : wpAny (model prog w) A (pyIter (.ref z)) Q E s := by
  have ty : s.TypeIs (.ref z) "zip" := ⟨_, hz, rfl⟩
  refine wpAny_pyIter_slot ty F.slot_zip_iter (wpAny_call_entry F.slot_zip_iter ty F.entry_zip_iter ?_ (F.args_zip_iter_1 _))
  show wpAny _ _ (ret (.ref z)) _ _ s
  exact wpAny_pure ⟨_, rfl, "zip", _, ty, F.slot_zip_next.lookup, h⟩
end

/-- three tuples of one length, turn by turn: a new tuple of the three items -/
def It3 (K : PySem.W.Frag) (a b c : Addr) : It :=
  ⟨fun i H => ∃ (xs ys zs : List V) (x y z : V), SqT K H a xs ∧ SqT K H b ys ∧ SqT K H c zs ∧ xs[i]? = some x ∧ ys[i]? = some y ∧ zs[i]? = some z,
    fun i H v H' => ∃ T x y z, v = .ref T ∧ H T = none ∧ H' = upd H T (.tup [x, y, z]) ∧ (∀ xs, SqT K H a xs → xs[i]? = some x) ∧ (∀ ys, SqT K H b ys → ys[i]? = some y) ∧ ∀ zs, SqT K H c zs → zs[i]? = some z,
    fun i H => ∃ xs : List V, SqT K H a xs ∧ xs.length ≤ i⟩

theorem turn3 {P : Program} {w : World} {K : PySem.W.Frag} {tg : Expr} {a b c z ti to i1 i2 i3 : Addr} (D : Far3 z ti to i1 i2 i3 a b c) :
    Turn P w K tg (It3 K a b c) [z, ti, to, i1, i2, i3] z (fun i h => (∃ v f, Out v ∧ Zat h z ti to v (.bool f)) ∧ IsTupOf3 h ti (.ref i1) (.ref i2) (.ref i3) ∧ (∃ b1 b2 b3, IsTupOf3 h to b1 b2 b3) ∧
      h.IsTupleIter i1 a i ∧ h.IsTupleIter i2 b i ∧ h.IsTupleIter i3 c i) where
  mem := by simp
  obj := fun i h st q hq => by
    obtain ⟨⟨v, f, _, hz⟩, hI, ⟨b1, b2, b3, hO⟩, ⟨o1, e1, _, d1⟩, ⟨o2, e2, _, d2⟩, ⟨o3, e3, _, d3⟩⟩ := st
    have e' : q = z ∨ q = ti ∨ q = to ∨ q = i1 ∨ q = i2 ∨ q = i3 := by simpa using hq
    rcases e' with r | r | r | r | r | r
    · rw [r]; exact ⟨_, hz, fun v q => nomatch q⟩
    · rw [r]; exact ⟨_, hI, fun v q => nomatch q⟩
    · rw [r]; exact ⟨_, hO, fun v q => nomatch q⟩
    · rw [r]; exact ⟨o1, e1, fun v q => by rw [d1] at q; cases q⟩
    · rw [r]; exact ⟨o2, e2, fun v q => by rw [d2] at q; cases q⟩
    · rw [r]; exact ⟨o3, e3, fun v q => by rw [d3] at q; cases q⟩
  keep := fun i h h' st k => by
    obtain ⟨⟨v, f, ho, hz⟩, hI, ⟨b1, b2, b3, hO⟩, h1, h2, h3⟩ := st
    exact ⟨⟨v, f, ho, k z (by simp) _ hz⟩, k ti (by simp) _ hI, ⟨b1, b2, b3, k to (by simp) _ hO⟩, h1.at fun o q => k i1 (by simp) o q, h2.at fun o q => k i2 (by simp) o q, h3.at fun o q => k i3 (by simp) o q⟩
  item := by
    intro X hP hw hK hc i pins s σ H E I hf st hg
    subst hP hw hK
    obtain ⟨⟨v, f, ho, hz⟩, hI, ⟨b1, b2, b3, hO⟩, h1, h2, h3⟩ := st
    obtain ⟨xs, ys, zs, x, y, u, qx, qy, qu, hx, hy, hu⟩ := hg
    obtain ⟨t1, r1, p1, _⟩ := I.tuple qx
    obtain ⟨t2, r2, p2, _⟩ := I.tuple qy
    obtain ⟨t3, r3, p3, _⟩ := I.tuple qu
    obtain ⟨v1, g1, rv1⟩ := r1.get hx
    obtain ⟨v2, g2, rv2⟩ := r2.get hy
    obtain ⟨v3, g3, rv3⟩ := r3.get hu
    have zl : z < s.heap.objs.size := Heap.lt_size hz
    refine pyNext3 D ho hz hI hO ⟨⟨h1, p1⟩, ⟨h2, p2⟩, ⟨h3, p3⟩⟩ (x1 := v1) (x2 := v2) (x3 := v3) (by simpa using g1) (by simpa using g2) (by simpa using g3) fun h' v' f' c1 c2 c3 ho' hz' hO' st' hT hsz hk => ?_
    refine ⟨_, rfl, letGo3 (s := { s with heap := h' }) ho' hz' fun h'' v'' ho'' hz'' sb => ?_⟩
    have hT2 : h''.get? s.heap.objs.size = some { cls := .type "tuple", data := .seq #[v1, v2, v3] } := (sb.2 _ (Nat.ne_of_gt zl)).trans hT
    have new : ObjOk X.prog X.w (upd H s.heap.objs.size (.tup [x, y, u])) h'' s.heap.objs.size (.tup [x, y, u]) :=
      ⟨by show 3 ≤ sizeLine; decide, [v1, v2, v3], .cons rv1 (.cons rv2 (.cons rv3 .nil)), ⟨_, hT2, rfl, _, rfl⟩⟩
    have I1 : Inv X pins σ (upd H s.heap.objs.size (.tup [x, y, u])) { s with heap := h'' } :=
      I.turnedNew (t' := s.toks) (ch := [z, ti, to, i1, i2, i3]) (fun q o hb e => (sb.2 q (fun q' => hb (by simp [q']))).trans
        (hk q o (fun q' => hb (by simp [q'])) (fun q' => hb (by simp [q'])) (fun q' => hb (by simp [q'])) (fun q' => hb (by simp [q'])) (fun q' => hb (by simp [q'])) e)) hf (Nat.le_refl _) new
    refine ⟨.ref s.heap.objs.size, _, I1, rfl, ⟨_, x, y, u, rfl, I.hok.fresh (Nat.le_refl _), rfl, fun l hl => by rw [I.tuple_inj hl qx]; exact hx, fun l hl => by rw [I.tuple_inj hl qy]; exact hy, fun l hl => by rw [I.tuple_inj hl qu]; exact hu⟩,
      ⟨⟨v'', f', ho'', hz''⟩, ?_, ⟨c1, c2, c3, (sb.2 _ D.toz).trans hO'⟩, st'.1.1.at fun o q => (sb.2 _ D.z1).trans q, st'.2.1.1.at fun o q => (sb.2 _ D.z2).trans q, st'.2.2.1.at fun o q => (sb.2 _ D.z3).trans q⟩, fun q hq => ?_⟩
    · exact (sb.2 _ D.tiz).trans (hk _ _ D.tiz D.tito D.ti1 D.ti2 D.ti3 hI)
    · have lt : q < s.heap.objs.size := by
        have e' : q = z ∨ q = ti ∨ q = to ∨ q = i1 ∨ q = i2 ∨ q = i3 := by simpa using hq
        rcases e' with r | r | r | r | r | r
        · rw [r]; exact zl
        · rw [r]; exact Heap.lt_size hI
        · rw [r]; exact Heap.lt_size hO
        · rw [r]; obtain ⟨_, e1, _⟩ := h1; exact Heap.lt_size e1
        · rw [r]; obtain ⟨_, e1, _⟩ := h2; exact Heap.lt_size e1
        · rw [r]; obtain ⟨_, e1, _⟩ := h3; exact Heap.lt_size e1
      rw [upd_ne (Nat.ne_of_lt lt)]
      exact (hf q hq).1
  done := by
    intro X hP hw hK hc i pins s σ H E I hf st hg
    subst hP hw hK
    obtain ⟨⟨v, f, ho, hz⟩, hI, ⟨b1, b2, b3, hO⟩, h1, h2, h3⟩ := st
    obtain ⟨xs, qx, hlen⟩ := hg
    obtain ⟨t1, r1, p1, _⟩ := I.tuple qx
    have le := r1.length
    refine pyEnd3 (I.ok.hd hc) D ho hz hI ⟨h1, p1⟩ (by simp; omega) fun h' hk => ⟨rfl, I.turnedL (t' := s.toks) (ch := [z, ti, to, i1, i2, i3]) (fun q o hb e => ?_) hf⟩
    exact hk q o (fun q' => hb (by simp [q'])) (fun q' => hb (by simp [q'])) (fun q' => hb (by simp [q'])) (fun q' => hb (by simp [q'])) (fun q' => hb (by simp [q'])) e
  self := fun A i s Q E st h => by
    obtain ⟨⟨v, f, _, hz⟩, _⟩ := st
    exact iter3 hz h

theorem far_at (n a b c : Nat) (ha : a < n) (hb : b < n) (hc : c < n) : Far3 (n + 5) (n + 3) (n + 4) n (n + 1) (n + 2) a b c := by
  constructor <;> first | (show (_ : Nat) ≠ _; omega) | (refine ⟨?_, ?_, ?_, ?_, ?_⟩ <;> (show (_ : Nat) ≠ _; omega))

def iZip3 (K : PySem.W.Frag) (ta : TA) : TI := fun σ H R => ta σ H fun vs H1 => ∃ a b c xs ys zs, vs = [.ref a, .ref b, .ref c] ∧ SqT K H1 a xs ∧ SqT K H1 b ys ∧ SqT K H1 c zs ∧ R (It3 K a b c) H1
/-- zip(e, e2, e3), tuples of one length; any target -/
theorem pi_zip3 {X : Cx} {tg e e2 e3 : Expr} {ta : TA} {p pos : Pos} (hg : Gl X "zip") (hm : X.mg "zip" = none) (ha : PA X [e, e2, e3] ta)
    (hs : starEach [e, e2, e3] X.env = (false, eval e X.env) :: starEach [e2, e3] X.env := by rfl) (hpl : (backTo pos (starEach [e2, e3] X.env)).any (·.1) = false := by rfl) :
    PI X tg (.Call (.Name "zip" p) [e, e2, e3] [] pos) (iZip3 X.K ta) := by
  refine ⟨fun pins s σ H R I h => ?_⟩
  refine Call_ (ld_blt I hg hm PyProof.Rows.boot_zip (PyProof.Rows.callWith_type1 (thn (ha.run pos pins s σ H _ I h) fun us s1 q => ?_) hs hpl))
  obtain ⟨vs, H1, I1, r1, a, b, c, xs, ys, zs, ex, q1, q2, q3, q⟩ := q
  subst ex
  cases r1 with
  | cons ra rr =>
    cases rr with
    | cons rb rr =>
      cases rr with
      | cons rc rr =>
        cases rr
        cases ra
        cases rb
        cases rc
        obtain ⟨t1, r1, p1, _⟩ := I1.tuple q1
        obtain ⟨t2, r2, p2, _⟩ := I1.tuple q2
        obtain ⟨t3, r3, p3, _⟩ := I1.tuple q3
        obtain ⟨o1, g1, _⟩ := id p1
        obtain ⟨o2, g2, _⟩ := id p2
        obtain ⟨o3, g3, _⟩ := id p3
        refine zip_begins3 (begins_tuple a t1.toArray) (begins_tuple b t2.toArray) (begins_tuple c t3.toArray) p1 p2 p3 fun h' hz hI hO e1 e2 e3 hsz hk => iter3 hz ?_
        have I2 : Inv X pins σ H1 { s1 with heap := h' } := I1.kept (t' := s1.toks) hk
        refine ⟨s1.heap.objs.size + 5, [s1.heap.objs.size + 5, s1.heap.objs.size + 3, s1.heap.objs.size + 4, s1.heap.objs.size, s1.heap.objs.size + 1, s1.heap.objs.size + 2], _, _, H1, rfl, I2, turn3 (far_at s1.heap.objs.size a b c (Heap.lt_size g1) (Heap.lt_size g2) (Heap.lt_size g3)),
          ⟨⟨.none, false, .inl rfl, hz⟩, hI, ⟨_, _, _, hO⟩, ⟨_, e1, rfl, rfl⟩, ⟨_, e2, rfl, rfl⟩, ⟨_, e3, rfl, rfl⟩⟩, fun q hq => ?_, q⟩
        have le : s1.heap.objs.size ≤ q := by
          have e' : q = s1.heap.objs.size + 5 ∨ q = s1.heap.objs.size + 3 ∨ q = s1.heap.objs.size + 4 ∨ q = s1.heap.objs.size ∨ q = s1.heap.objs.size + 1 ∨ q = s1.heap.objs.size + 2 := by simpa using hq
          rcases e' with r | r | r | r | r | r <;> rw [r] <;> first | exact Nat.le_add_right _ _ | exact Nat.le_refl _
        exact I1.fpOk le (I1.hok.fresh le)

/-- a new triple of the i-th ones -/
def Y3 (xs ys zs : List V) : Nat → Hp → V → Hp → Prop := fun i H v H' => ∃ T x y z, v = .ref T ∧ H T = none ∧ H' = upd H T (.tup [x, y, z]) ∧ xs[i]? = some x ∧ ys[i]? = some y ∧ zs[i]? = some z
theorem walk_zip3 {K : PySem.W.Frag} {a b c : Addr} {xs ys zs : List V} (h2 : ys.length = xs.length) (h3 : zs.length = xs.length) :
    Walk (It3 K a b c) xs.length (fun H => SqT K H a xs ∧ SqT K H b ys ∧ SqT K H c zs) (Y3 xs ys zs) := by
  refine ⟨fun i _ hi q => ?_, fun _ q => ⟨xs, q.1, Nat.le_refl _⟩, fun i H v H' _ q y => ?_⟩
  · exact ⟨xs, ys, zs, xs[i], ys[i]'(by omega), zs[i]'(by omega), q.1, q.2.1, q.2.2, by simp [hi], by simp [show i < ys.length by omega], by simp [show i < zs.length by omega]⟩
  · obtain ⟨T, x, y, z, e1, e2, e3, f1, f2, f3⟩ := y
    exact ⟨T, x, y, z, e1, e2, e3, f1 xs q.1, f2 ys q.2.1, f3 zs q.2.2⟩
theorem walk_zipT {K : PySem.W.Frag} {a b : Addr} {xs ys : List V} (h2 : ys.length = xs.length) :
    Walk (RZ.ItzT K a b) xs.length (fun H => SqT K H a xs ∧ SqT K H b ys) (YPair (fun i => xs[i]?) (fun i => ys[i]?)) := by
  refine ⟨fun i _ hi q => ?_, fun _ q => ⟨xs, ys, q.1, q.2, by omega⟩, fun i H v H' _ q y => ?_⟩
  · exact ⟨xs, ys, xs[i], ys[i]'(by omega), q.1, q.2, by simp [hi], by simp [show i < ys.length by omega]⟩
  · obtain ⟨T, x, u, e1, e2, e3, f1, f2⟩ := y
    exact ⟨T, x, u, e1, e2, e3, f1 xs q.1, f2 ys q.2⟩
end NB

set_option Elab.async false
set_option linter.all false
set_option maxRecDepth 100000
set_option maxHeartbeats 1000000
namespace NB
open PySem PySem.Spec PyProof.Rows L2

/-- the law's own call, its def kept to its promise where nothing is being shown -/
theorem law_end {P : Program} {w : World} {K : PySem.W.Frag} {mg mb : Str → Option Value} {k : Nat} {fa a : Addr} {fd : FuncData} {x : Str} {sp : Sp} {s : Shared} {vs : List Value} {ns : List Int}
    (hK : K.In s.heap) (hN : s.heap.Ns mainGlobals mg) (hB : s.heap.Ns builtinsNs mb) (hbb : ∀ x : Str, x ≠ "__name__" → mb x = bootBuiltins x) (lim : s.heap.NoLimit) (hg : s.gens = #[])
    (ha : s.heap.get? a = some { cls := .type "list", data := .seq vs.toArray }) (hi : IntsAre vs ns) (hl : ns.length ≤ sizeLine) (hr : Room k callerA)
    (F : ∀ base : Heap, K.In base → base.Ns mainGlobals mg → FnG P w K mg base k fa fd [x] sp) (hb : ∀ (s : Shared) (u : Value), BindsTo s fd ⟨[u], []⟩ [(x, u)])
    (hsp : ∀ H : Hp, SqL K H a (ns.map V.int) → sp [.ref a] H (fun v _ => v = .bl true) E0) :
    codeAny (model P w) callerA (.call (.ref fa) ⟨[.ref a], []⟩) (fun r s' => r = .ok (.ret (.bool true)) ∧ OldK s.heap s'.heap ∧ s'.os = s.os ∧ AllBare s'.gens) s := by
  have rv := vals_ints hi
  have lv := hi.length
  -- H: the script alone is tracked, or nothing
  suffices go : ∀ H : Hp, (∀ b, H b ≠ none → b = a ∧ K.lookup a = none ∧ ∃ o xs, H b = some (.frz o (.lst xs))) → SqL K H a (ns.map V.int) → HOk P w H s.heap →
      codeAny (model P w) callerA (.call (.ref fa) ⟨[.ref a], []⟩) (fun r s' => r = .ok (.ret (.bool true)) ∧ OldK s.heap s'.heap ∧ s'.os = s.os ∧ AllBare s'.gens) s by
    cases hk : K.lookup a with
    | some o =>
      have e := hK a o hk
      rw [ha] at e
      cases e
      refine go (fun _ => none) (fun b q => absurd rfl q) (.inr ⟨_, vs.toArray, _, hk, rfl, rfl, rfl, ?_, by simpa using rv⟩) (fun b u q => by cases (show (none : Option HO) = some u from q))
      rw [List.size_toArray, lv]
      exact hl
    | none =>
      refine go (fun b => if b = a then some (.frz { cls := .type "list", data := .seq vs.toArray } (.lst (ns.map V.int))) else none) (fun b q => ?_) (.inl (.inr ⟨_, if_pos rfl⟩)) (fun b u q => ?_)
      · by_cases h : b = a
        · exact ⟨h, hk, _, _, if_pos h⟩
        · exact absurd (if_neg h) q
      · by_cases h : b = a
        · have q' := (if_pos h).symm.trans q
          cases q'
          subst h
          exact ⟨ha, by rw [List.length_map]; exact hl, vs, _, rv, ha⟩
        · have q' := (if_neg h).symm.trans q
          cases q'
  intro H hO hS ok
  have dictFree : ∀ {b : Addr} {o : Obj} {es : Array DictEntry} {ep : Nat}, s.heap.get? b = some o → o.data = .dict es ep → H b = none := by
    intro b o es ep e d
    cases q : H b with
    | none => rfl
    | some u =>
      obtain ⟨e', _⟩ := hO b (by rw [q]; simp)
      subst e'
      rw [ha] at e
      cases e
      cases (show Data.seq vs.toArray _ = Data.dict es ep from d)
  have ns' : ∀ {b : Addr} {m : Str → Option Value}, s.heap.Ns b m → (hidT s.heap H).Ns b m := by
    rintro b m ⟨o, es, ep, e, d, r⟩
    exact ⟨o, es, ep, hidT_get e (dictFree e d), d, r⟩
  have kB : K.In (hidT s.heap H) := by
    intro b o e
    refine hidT_get (hK b o e) ?_
    cases q : H b with
    | none => rfl
    | some u =>
      obtain ⟨e', n, _⟩ := hO b (by rw [q]; simp)
      subst e'
      rw [n] at e
      cases e
  have md : Mod K mg (hidT s.heap H) := by
    obtain ⟨mc, h1, h2⟩ := lim
    exact ⟨kB, ns' hN, ⟨mb, ns' hB, hbb⟩, ⟨mc, ns' h1, h2⟩⟩
  have e0 : Env0 P w K mg (hidT s.heap H) callerA [] s H :=
    ⟨rfl, md, fun b o e => of_hidT e, Nat.le_of_eq (hidT_size _ _), trivial, fun b q => absurd (show b ∈ ([] : List Addr) from q) (by simp), ok, .of_eq hg⟩
  refine codeAny_mono ((F _ kB (ns' hN)).go callerA [] s H ⟨[.ref a], []⟩ [.ref a] [.ref a] _ _ rfl hr e0 (hb s (.ref a)) (.cons rfl .nil) (hsp H hS)) ?_
  intro r s' q
  cases r with
  | error e => exact False.elim q
  | ok fl =>
    cases fl with
    | next => exact False.elim q
    | brk => exact False.elim q
    | cont => exact False.elim q
    | ret u =>
      obtain ⟨v, H', os, bare, un, ok', r', q'⟩ := q
      have q2 : v = .bl true := q'
      subst q2
      obtain rfl : u = Value.bool true := r'
      refine ⟨rfl, OldK.of_keep fun b o e => ?_, os, bare⟩
      cases q : H b with
      | none => exact un.keep b o e q (fun z => absurd (show b ∈ ([] : List Addr) from z) (by simp)) (by simp)
      | some u =>
        obtain ⟨_, _, ob, xs, z⟩ := hO b (by rw [q]; simp)
        obtain ⟨e1, _⟩ := ok b _ z
        obtain ⟨e2, _⟩ := ok' b _ (un.frzs b ob _ z)
        rw [e] at e1
        cases e1
        exact e2

/-- what k_head leaves, from the promise of the law's def -/
theorem walkG {l : PySem.W.OpenLaw} {n k : Nat} {q : Program} {loose : List Str} {XP : (Str → Option Value) → Heap → Prop} {YP : World → Heap → Prop} {d : DefRec} {K : Params → PySem.W.Frag} {sp : World → Sp} {x : Str}
    (hn : l.most = some n) (hn2 : n ≤ sizeLine) (hdf : d.params.defaults = []) (hr : Room k callerA) (hY : ∀ (w : World) (h : Heap), YP w h → (K w.params).In h)
    (F : ∀ (w : World) (mg : Str → Option Value) (fa : Addr) (h : Heap), (K w.params).In h → h.Ns mainGlobals mg → mg d.name = some (.ref fa) →
      ∃ fd : FuncData, (∀ (s : Shared) (u : Value), BindsTo s fd ⟨[u], []⟩ [(x, u)]) ∧
        ∀ base : Heap, (K w.params).In base → base.Ns mainGlobals mg → FnG l.prog w (K w.params) mg base k fa fd [x] (sp w))
    (hsp : ∀ (w : World) (H : Hp) (a : Addr) (ns : List Int), ns.length ≤ n → SqL (K w.params) H a (ns.map V.int) → sp w [.ref a] H (fun v _ => v = .bl true) E0) :
    PySem.W.WalkO q loose XP YP l.row.toRowW d [] (fun f vs => PySem.call f vs) := by
  refine Att.attach_call hn hdf ?_
  intro w s₀ s₁ mg mb fa o pm cd doc a vs ns G Y ho hd hcd hmg hobj hints hlen hg
  have kX := hY w _ Y
  obtain ⟨fd, hb, hF⟩ := F w mg fa _ kX G.T.g hmg
  exact law_end kX G.T.g G.T.b G.T.builtins G.T.nolimit hg hobj hints (Nat.le_trans hlen hn2) hr hF hb fun H hS => hsp w H a ns hlen hS
end NB

set_option Elab.async false
set_option linter.all false
set_option maxRecDepth 100000
set_option maxHeartbeats 1000000
namespace NB
open PySem PySem.Spec PyProof.Rows L2
section
variable {prog : Program} {w : World} {A : Around} {E : Value → Shared → Prop} {s : Shared}
theorem sortedTuple {t : Addr} {vs : List Value} {ns : List Int} {Q : Value → Shared → Prop} (hl : s.heap.IsTuple t vs.toArray) (hI : IntsAre vs ns) (h64 : vs.length < 64)
    (h : ∀ (h1 h' : Heap) (p : Addr) (out : Array Value) (ep : Nat) (ns' : List Int), IntsAre out.toList ns' → ns'.Perm ns → ns'.Pairwise (· ≤ ·) → (∀ b o, s.heap.get? b = some o → h1.get? b = some o) → (∀ b o, h1.get? b = some o → h'.get? b = some o) → h1.objs.size ≤ p →
      h'.get? p = some (seqObj "list" out ep) → Q (.ref p) { s with heap := h' }) :
    wpAny (model prog w) A (call (.builtin "sorted") [.ref t]) Q E s := by
  obtain ⟨o, ho, hc, n, hd⟩ := hl
  refine Calls.call_function_entry kind_sorted plain_sorted entry_sorted (args_sorted1 _) ?_
  unfold Builtin.«sorted»
  refine wpAny_bind (m := checkCount "sorted" 1 1 _) (wpAny_pure ?_)
  refine wpAny_bind (wpAny_collect_seq t (.inr rfl) ho hc hd (fun h1 hk => ?_) (by rw [List.size_toArray, sizeLine_eq]; omega))
  refine wpAny_bind (wpAny_newList ?_)
  have e0 : (vs.toArray.toList) = vs := rfl
  have hoL : (h1.push (seqObj "list" vs.toArray 0)).get? h1.objs.size = some (seqObj "list" vs.toArray 0) := Heap.get?_push_size _ rfl
  show wpAny _ _ _ _ _ { s with heap := h1.push (seqObj "list" vs.toArray 0) }
  refine wpAny_bind (wpAny_holding (wpAny_call_entry slot_list_sort ⟨_, hoL, rfl⟩ entry_list_sort (list_sort_tree hoL hI h64 fun out ns' q1 q2 q3 => ⟨_, rfl, ?_⟩) (args_list_sort _)))
  refine wpAny_pure ⟨_, rfl, ?_⟩
  obtain ⟨ep, hat⟩ := sortedHeap_at (vs := vs) (out := out) hoL
  refine h h1 _ h1.objs.size out ep ns' q1 q2 q3 hk (fun b o q => ?_) (Nat.le_refl _) hat
  have lt := Heap.lt_size q
  rw [sortedHeap_old (Nat.ne_of_lt lt) (by rw [size_push']; exact Nat.lt_succ_of_lt lt)]
  exact Heap.get?_push_of_some _ q
end
section
variable {X : Cx}
/-- sorted(t), t a tuple of few ints -/
def rSortT (K : PySem.W.Frag) : List V → Hp → VK → Prop := fun vs H Q => ∃ (a : Addr) (ns : List Int), vs = [V.ref a] ∧ SqT K H a (ns.map V.int) ∧ ns.length < 64 ∧
  ∀ (ns' : List Int) (p : Addr), ns'.Perm ns → ns'.Pairwise (· ≤ ·) → H p = none → Q (.ref p) (upd H p (.lst (ns'.map V.int)))
theorem cr_sortT : CallR X (.builtin "sorted") (rSortT X.K) := by
  intro pins s σ H vs us Q I r h
  obtain ⟨a, ns, rfl, hs, h64, q⟩ := h
  obtain ⟨its, rv, hl, _⟩ := I.tuple hs
  rw [Vals.ref1 r]
  have hi := rv.ints
  refine sortedTuple hl hi (by rw [hi.length]; exact h64) fun h1 h' p out ep ns' q1 q2 q3 k1 k2 hp hat => ?_
  have I1 : Inv X pins σ H { s with heap := h1 } := I.kept (t' := s.toks) k1
  have hlen : (ns'.map V.int).length ≤ sizeLine := by rw [List.length_map, q2.length_eq]; exact small64 h64
  exact ⟨.ref p, upd H p (.lst (ns'.map V.int)), I1.laid (t' := s.toks) k2 hp ⟨hlen, out.toList, ep, vals_of_ints q1, hat⟩, rfl, q ns' p q2 q3 (I1.hok.fresh hp)⟩

theorem perm_sum {l l' : List Int} (h : l.Perm l') : l.sum = l'.sum := by
  induction h with
  | nil => rfl
  | cons x _ ih => simp only [List.sum_cons, ih]
  | swap x y l => simp only [List.sum_cons]; omega
  | trans _ _ i1 i2 => exact i1.trans i2
/-- the middle one of three -/
def mid3 (a b c : Int) : Int := if a ≤ b then (if b ≤ c then b else if a ≤ c then c else a) else (if a ≤ c then a else if b ≤ c then c else b)
theorem mid_of_sorted {a b c x y z : Int} (p : [x, y, z].Perm [a, b, c]) (s : [x, y, z].Pairwise (· ≤ ·)) : y = mid3 a b c := by
  have h1 : x ≤ y ∧ y ≤ z := by
    rw [List.pairwise_cons, List.pairwise_cons] at s
    exact ⟨s.1 y (by simp), s.2.1 z (by simp)⟩
  have ha : a ∈ [x, y, z] := p.symm.subset (by simp)
  have hb : b ∈ [x, y, z] := p.symm.subset (by simp)
  have hc : c ∈ [x, y, z] := p.symm.subset (by simp)
  have hs : x + y + z = a + b + c := by
    have e := perm_sum p
    simp only [List.sum_cons, List.sum_nil] at e
    omega
  simp only [List.mem_cons, List.not_mem_nil, or_false] at ha hb hc
  unfold mid3
  rcases ha with e | e | e <;> rcases hb with f | f | f <;> rcases hc with g | g | g <;> split <;> split <;> (try split) <;> omega
theorem max3 (hc : X.calm = true) : CallR X (.builtin "max") (fun xs H Q => ∃ i j k : Int, xs = [.int i, .int j, .int k] ∧ Q (.int (max (max i j) k)) H) := by
  intro pins s σ H xs us Q I r h
  obtain ⟨i, j, k, rfl, q⟩ := h
  refine call_max3Nu hc pins s σ H _ us Q I r ⟨_, _, _, _, rfl, ?_, q⟩
  have two : ∀ a b : Int, nuMax2 (.int a) (.int b) = some (.int (max a b)) := fun a b => by
    show some (if decide (a < b) = true then V.int b else V.int a) = _
    by_cases h : a < b
    · rw [if_pos (decide_eq_true h), Int.max_eq_right (Int.le_of_lt h)]
    · rw [if_neg (by simpa using h), Int.max_eq_left (by omega)]
  show (nuMax2 (.int i) (.int j)).bind (fun m => nuMax2 m (.int k)) = _
  rw [two]
  exact two _ _
theorem min3 (hc : X.calm = true) : CallR X (.builtin "min") (fun xs H Q => ∃ i j k : Int, xs = [.int i, .int j, .int k] ∧ Q (.int (min (min i j) k)) H) := by
  intro pins s σ H xs us Q I r h
  obtain ⟨i, j, k, rfl, q⟩ := h
  refine call_min3Nu hc pins s σ H _ us Q I r ⟨_, _, _, _, rfl, ?_, q⟩
  have two : ∀ a b : Int, nuMin2 (.int a) (.int b) = some (.int (min a b)) := fun a b => by
    show some (if decide (b < a) = true then V.int b else V.int a) = _
    by_cases h : b < a
    · rw [if_pos (decide_eq_true h), Int.min_eq_right (Int.le_of_lt h)]
    · rw [if_neg (by simpa using h), Int.min_eq_left (by omega)]
  show (nuMin2 (.int i) (.int j)).bind (fun m => nuMin2 m (.int k)) = _
  rw [two]
  exact two _ _
/-- a ** b: the result within 2 ^ 27 bits -/
def CPowW (i j : Int) : Prop := 0 ≤ j ∧ (Builtin.Int.intBits i : Int) * j ≤ 2 ^ 27
theorem op_powW : OpR X (binaryOp .Pow) (rI CPowW fun i j => .int (i ^ j.toNat)) := opI fun _ _ _ _ _ _ _ hc q => pow_int hc.1 hc.2 q
end
end NB

set_option Elab.async false
set_option linter.all false
set_option maxRecDepth 100000
set_option maxHeartbeats 1000000
/-! enumerate of a tuple -/
namespace NB
open PySem PySem.Spec PyProof.Rows L2

theorem enumNewT (l : Addr) (items : Array Value) : Meets (Builtin.«enumerate.__new__» ⟨[.type "enumerate", .ref l], []⟩) (fun _ R s => s.heap.IsTuple l items ∧
      R (.ok (.ret (.ref (s.heap.push { cls := .type "tuple_iterator", data := .fields #[.ref l, .int 0 0] }).objs.size)))
        { s with heap := (s.heap.push { cls := .type "tuple_iterator", data := .fields #[.ref l, .int 0 0] }).push { cls := .type "enumerate", data := .fields #[.none, .bool false, .ref s.heap.objs.size, rawInt 0, .none, .none] } }) :=
  .of_wp fun prog w A R s h => by
    obtain ⟨hp, g, d, tk, os⟩ := s
    obtain ⟨hl, h⟩ := h
    have hsub := sub_enumerate
    have hL : Heap.IsTuple (Shared.heap ⟨hp, g, d, tk, os⟩) l items := hl
    wp_walk
    refine wpAny_stack_any fun st => wpAny_pure ?_
    split
    · rename_i c _ _ _ _ _
      cases (c == Value.type "enumerate")
      · wp_walk using wpAny_pyIter_tuple hL
        exact ⟨_, rfl, h⟩
      · wp_walk using wpAny_pyIter_tuple hL
        exact ⟨_, rfl, h⟩
    · wp_walk using wpAny_pyIter_tuple hL
      exact ⟨_, rfl, h⟩
section
variable {prog : Program} {w : World} {A : Around} {E : Value → Shared → Prop} {s : Shared}
theorem enumT {l : Addr} {items : Array Value} {Q : Value → Shared → Prop} (hL : s.heap.IsTuple l items)
    (h : ∀ h', IsEnum h' (s.heap.objs.size + 1) s.heap.objs.size 0 .none → h'.IsTupleIter s.heap.objs.size l 0 → (∀ b o, s.heap.get? b = some o → h'.get? b = some o) → Q (.ref (s.heap.objs.size + 1)) { s with heap := h' }) :
    wpAny (model prog w) A (call (.type "enumerate") [.ref l]) Q E s := by
  refine callType_new F.called_enumerate (by decide) (F.typeCall_enumerate_1 _) (F.newCall_enumerate_1 _) (fun obj => F.args_object_init_2 obj _) F.entry_enumerate_new (enumNewT l items) ⟨hL, ?_⟩
  have z : (s.heap.push { cls := .type "tuple_iterator", data := .fields #[.ref l, .int 0 0] }).objs.size = s.heap.objs.size + 1 := Heap.size_push ..
  have he := Heap.get?_push_size (s.heap.push { cls := .type "tuple_iterator", data := .fields #[.ref l, .int 0 0] }) (o := { cls := .type "enumerate", data := .fields #[.none, .bool false, .ref s.heap.objs.size, rawInt 0, .none, .none] }) rfl
  show _ ∧ _
  rw [z] at he ⊢
  exact ⟨⟨_, he, rfl⟩, h _ he ⟨_, Heap.get?_push_of_some _ (Heap.get?_push_size _ rfl), rfl, rfl⟩ fun b o x => Heap.get?_push_of_some _ (Heap.get?_push_of_some _ x)⟩
end
/-- a tuple's items with their numbers, in new pairs -/
def ItE (K : PySem.W.Frag) (a : Addr) : It :=
  ⟨fun i H => ∃ (xs : List V) (x : V), SqT K H a xs ∧ xs[i]? = some x,
    fun i H v H' => ∃ T x, v = .ref T ∧ H T = none ∧ H' = upd H T (.tup [.int (i : Nat), x]) ∧ ∀ xs, SqT K H a xs → xs[i]? = some x,
    fun i H => ∃ xs : List V, SqT K H a xs ∧ xs.length = i⟩
theorem turnE {P : Program} {w : World} {K : PySem.W.Frag} {elts : List Expr} {kk : Nat} {tpos : Pos} (a e it : Addr) (n1 : e ≠ it) (n2 : a ≠ it) (n3 : e ≠ a) :
    Turn P w K (.Tuple elts kk tpos) (ItE K a) [e, it] e (fun i h => (∃ old, IsEnum h e it ((i : Nat) : Int) old) ∧ h.IsTupleIter it a i) where
  mem := by simp
  obj := fun i h st b hb => by
    obtain ⟨⟨old, he⟩, ⟨o, ho, hc, hd⟩⟩ := st
    have e' : b = e ∨ b = it := by simpa using hb
    rcases e' with z | z
    · rw [z]; exact ⟨_, he, fun v q => nomatch q⟩
    · rw [z]; exact ⟨o, ho, fun v q => by rw [hd] at q; cases q⟩
  keep := fun i h h' st k => by
    obtain ⟨⟨old, he⟩, hi⟩ := st
    exact ⟨⟨old, k e (by simp) _ he⟩, hi.at fun o q => k it (by simp) o q⟩
  item := by
    intro X hP hw hK hc i pins s σ H E I hf st hg
    subst hP hw hK
    obtain ⟨⟨old, he⟩, hit⟩ := st
    obtain ⟨xs, x, hq, hx⟩ := hg
    obtain ⟨its, rv, p, hz⟩ := I.tuple hq
    obtain ⟨u, hu, ru⟩ := rv.get hx
    have hel : e < s.heap.objs.size := Heap.lt_size he
    have hil : it < s.heap.objs.size := by obtain ⟨_, q, _⟩ := hit; exact Heap.lt_size q
    have lt : i < its.toArray.size := by
      have : i < its.length := by
        rcases Nat.lt_or_ge i its.length with q | q
        · exact q
        · rw [List.getElem?_eq_none q] at hu
          cases hu
      simpa using this
    have hD := I.ok.hd hc
    refine wpAny_pyNext_enum_itemD (Draws.tuple (A := X.A.in1) hD it a n2 its.toArray) he ⟨hit, p⟩ lt n1 (by simp; exact ⟨n1, n3⟩) fun y h' tk hy ho st' hT hsz hk => ?_
    have ey : y = u := by
      have q : its.toArray[i]? = some u := by simpa using hu
      exact Option.some.inj (hy.symm.trans q)
    subst ey
    refine ⟨_, rfl, wpAny_letOwnedTupleGo_enum (s := { s with heap := h', toks := tk + 1 }) ho fun h'' he' sb => ?_⟩
    have hT2 : h''.get? s.heap.objs.size = some { cls := .type "tuple", data := .seq #[.int i tk, y] } := (sb.2 _ (Nat.ne_of_gt hel)).trans hT
    have new : ObjOk X.prog X.w (upd H s.heap.objs.size (.tup [.int (i : Nat), x])) h'' s.heap.objs.size (.tup [.int (i : Nat), x]) :=
      ⟨by show 2 ≤ sizeLine; decide, [.int i tk, y], .cons ⟨_, rfl⟩ (.cons ru .nil), ⟨_, hT2, rfl, _, rfl⟩⟩
    have I1 : Inv X pins σ (upd H s.heap.objs.size (.tup [.int (i : Nat), x])) { s with heap := h'', toks := tk + 1 } :=
      I.turnedNew (ch := [e, it]) (fun b ob hb q => (sb.2 b (fun z => hb (by simp [z]))).trans (hk b ob (fun z => hb (by simp [z])) (fun z => hb (by simp [z])) q)) hf (Nat.le_refl _) new
    refine ⟨.ref s.heap.objs.size, _, I1, rfl, ⟨_, x, rfl, I.hok.fresh (Nat.le_refl _), rfl, fun ys hy => by rw [I.tuple_inj hy hq]; exact hx⟩, ⟨⟨y, ?_⟩, st'.1.at fun o q => (sb.2 it n1.symm).trans q⟩, fun b hb => ?_⟩
    · rw [show ((i + 1 : Nat) : Int) = (i : Int) + 1 by omega]
      exact he'
    · have hb' : b < s.heap.objs.size := by
        have e' : b = e ∨ b = it := by simpa using hb
        rcases e' with z | z
        · rw [z]; exact hel
        · rw [z]; exact hil
      rw [upd_ne (Nat.ne_of_lt hb')]
      exact (hf b hb).1
  done := by
    intro X hP hw hK hc i pins s σ H E I hf st hg
    subst hP hw hK
    obtain ⟨⟨old, he⟩, hit⟩ := st
    obtain ⟨xs, hq, hx⟩ := hg
    obtain ⟨its, rv, p, hz⟩ := I.tuple hq
    obtain ⟨f0, f1, f2, f3, f4, f5⟩ := hf it (by simp)
    have le : i = its.toArray.size := by
      have := rv.length
      simp
      omega
    subst le
    exact wpAny_pyNext_enum_endD (Draws.tuple (A := X.A.in1) (I.ok.hd hc) it a n2 its.toArray) he ⟨hit, p⟩ fun h' eb => ⟨rfl, I.turned (t' := s.toks) (fun b o hb q => eb b o hb q) f0 f1 f3 f4 f5⟩
  self := fun A i s Q E st h => by
    obtain ⟨⟨_, he⟩, _⟩ := st
    exact wpAny_pyIter_enum he h
def iEnumT (K : PySem.W.Frag) (ta : TA) : TI := fun σ H R => ta σ H fun vs H1 => ∃ a xs, vs = [.ref a] ∧ SqT K H1 a xs ∧ R (ItE K a) H1
theorem pi_enumT {X : Cx} {e : Expr} {ta : TA} {p pos tpos : Pos} {elts : List Expr} {kk : Nat} (hg : Gl X "enumerate") (hm : X.mg "enumerate" = none) (ha : PA X [e] ta) (hs : starEach [e] X.env = [(false, eval e X.env)] := by rfl) :
    PI X (.Tuple elts kk tpos) (.Call (.Name "enumerate" p) [e] [] pos) (iEnumT X.K ta) := by
  refine ⟨fun pins s σ H R I h => ?_⟩
  refine Call_ (ld_blt I hg hm boot_enumerate (PyProof.Rows.callWith_type1 (thn (ha.run pos pins s σ H _ I h) ?_) hs rfl))
  rintro us s1 ⟨vs, H1, I1, r1, a, xs, ex, hq, q⟩
  subst ex
  cases r1 with
  | cons r rr =>
    cases rr
    cases r
    obtain ⟨its, rv, p', hz⟩ := I1.tuple hq
    obtain ⟨o, g, _⟩ := id p'
    have la : a < s1.heap.objs.size := Heap.lt_size g
    refine enumT (items := its.toArray) p' fun h' he hit hk => wpAny_pyIter_enum he ?_
    have I2 : Inv X pins σ H1 { s1 with heap := h' } := I1.kept (t' := s1.toks) hk
    refine ⟨s1.heap.objs.size + 1, [s1.heap.objs.size + 1, s1.heap.objs.size], _, _, H1, rfl, I2, turnE a (s1.heap.objs.size + 1) s1.heap.objs.size (Nat.succ_ne_self _) (Nat.ne_of_lt la) (Nat.ne_of_gt (Nat.lt_succ_of_lt la)), ⟨⟨.none, he⟩, hit⟩, fun b hb => ?_, q⟩
    have e' : b = s1.heap.objs.size + 1 ∨ b = s1.heap.objs.size := by simpa using hb
    have hle : s1.heap.objs.size ≤ b := by
      rcases e' with z | z
      · rw [z]; exact Nat.le_add_right _ _
      · rw [z]; exact Nat.le_refl _
    exact I1.fpOk hle (I1.hok.fresh hle)
theorem walk_enumT {K : PySem.W.Frag} {a : Addr} {xs : List V} : Walk (ItE K a) xs.length (fun H => SqT K H a xs) (YPair (fun i => some (.int (i : Nat))) (fun i => xs[i]?)) := by
  refine ⟨fun i _ hi q => ⟨xs, xs[i], q, by simp [hi]⟩, fun _ q => ⟨xs, q, rfl⟩, fun i H v H' _ q y => ?_⟩
  obtain ⟨T, x, h1, h2, h3, h4⟩ := y
  exact ⟨T, .int (i : Nat), x, h1, h2, h3, rfl, h4 xs q⟩
end NB

set_option Elab.async false
set_option linter.all false
set_option maxRecDepth 100000
/-! t[::-1] of a tuple; repr of a truth. -/
namespace NB
open PySem PySem.Spec PyProof.Rows L2 HT

section
variable {prog : Program} {w : World} {A : Around} {E : Value → Shared → Prop} {s : Shared}
theorem adjust_back (n : Nat) : Builtin.Slice.sliceAdjust none none (-1) (n : Int) = ((n : Int) - 1, -1) := by
  unfold Builtin.Slice.sliceAdjust
  first
  | rfl
  | simp
theorem places_back (n : Nat) : Builtin.Slice.slicePlaces ((n : Int) - 1) (-1) (-1) = n := by
  unfold Builtin.Slice.slicePlaces
  have h1 : ¬ ((-1 : Int) > 0) := by decide
  simp only [h1, if_false]
  split <;> simp <;> omega
theorem sliceBack {sl : Addr} {vl vu vk : Value} {n : Nat} {Q : Int × Int × Nat → Shared → Prop} (hs : s.heap.IsSliceOf sl vl vu vk) (pl : IsPart vl none) (pu : IsPart vu none) (pk : IsPart vk (some (-1)))
    (h : Q ((n : Int) - 1, -1, n) s) : wpAny (model prog w) A (Builtin.Slice.sliceApplied (.ref sl) (pure (n : Int))) Q E s := by
  obtain ⟨os, hos, hcs, hds⟩ := id hs
  unfold Builtin.Slice.sliceApplied Builtin.Slice.sliceFields
  refine wpAny_bind (wpAny_bind (wpAny_field hos hds (x := vl) rfl (wpAny_bind (wpAny_field hos hds (x := vu) rfl (wpAny_bind (wpAny_field hos hds (x := vk) rfl (wpAny_pure ?_)))))))
  refine wpAny_bind (slicePart_ pk ?_)
  show wpAny _ _ (if ((-1 : Int) == 0) = true then _ else _) _ _ s
  rw [if_neg (by decide)]
  refine wpAny_bind (slicePart_ pl (wpAny_bind (slicePart_ pu (wpAny_bind (wpAny_pure ?_)))))
  show wpAny _ _ (match Builtin.Slice.sliceAdjust none none (-1) (n : Int) with | (lo, hi) => pure (lo, (-1 : Int), Builtin.Slice.slicePlaces lo hi (-1))) _ _ s
  rw [adjust_back n]
  show wpAny _ _ (pure ((n : Int) - 1, (-1 : Int), Builtin.Slice.slicePlaces ((n : Int) - 1) (-1) (-1))) _ _ s
  rw [places_back]
  exact wpAny_pure h
theorem pick_back (xs : Array Value) : ((List.range xs.size).filterMap fun (m : Nat) => xs[(((xs.size : Int) - 1) + (m : Int) * -1).toNat]?).toArray = xs.toList.reverse.toArray := by
  have e : ((List.range xs.size).filterMap fun (m : Nat) => xs[(((xs.size : Int) - 1) + (m : Int) * -1).toNat]?) = ((List.range xs.size).map fun k => xs.size - 1 - k).filterMap (xs[·]?) := by
    rw [List.filterMap_map]
    congr 1
    funext m
    have : (((xs.size : Int) - 1) + (m : Int) * -1).toNat = xs.size - 1 - m := by omega
    rw [this]
    rfl
  rw [e, PySem.W.krv_range, List.filterMap_reverse, PySem.W.krv_all]
theorem getItem_tuple_back {t sl : Addr} {items : Array Value} {vl vu vk : Value} {Q : Value → Shared → Prop} (ht : IsTup s.heap t items) (hs : s.heap.IsSliceOf sl vl vu vk) (pl : IsPart vl none) (pu : IsPart vu none) (pk : IsPart vk (some (-1)))
    (h : Q (.ref s.heap.objs.size) { s with heap := s.heap.push { cls := .type "tuple", data := .seq items.toList.reverse.toArray } })
    (hsz : items.size ≤ sizeLine) : wpAny (model prog w) A (getItem (.ref t) (.ref sl)) Q E s := by
  have htake : sizeOk (.seq items.toList.reverse.toArray) := by
    show items.toList.reverse.toArray.size ≤ sizeLine
    rw [List.size_toArray, List.length_reverse, Array.length_toList]
    exact hsz
  obtain ⟨os, hos, hcs, hds⟩ := id hs
  have hTs : s.TypeIs (.ref sl) "slice" := ⟨os, hos, hcs⟩
  unfold getItem
  try with_reducible refine wpAny_holding ?_
  first | refine wpAny_bind (wpAny_pure ?_) | skip
  refine wpAny_bind (wpAny_sequenceKey ht.typeIs (by decide) ?_)
  refine wpAny_bind (wpAny_callSpecial?_slot (name := Str.ofString "__getitem__") ht.typeIs PyProof.Rows.slot_tuple_getitem
    (wpAny_call_entry PyProof.Rows.slot_tuple_getitem ht.typeIs entry_tuple_getitem ?_ (args_tuple_getitem _ _)))
  show wpAny _ _ (Builtin.Tuple.tupleItemsOf (.ref t) >>= _) _ _ s
  refine wpAny_bind (tupleItemsOf_ ht ?_)
  refine wpAny_bind (wpAny_typeOf hTs ?_)
  rw [if_pos (by decide)]
  refine wpAny_bind (sliceBack hs pl pu pk ?_)
  have hno : ¬ ((((items.size : Int) - 1) == 0 && (-1 : Int) == 1 && items.size == items.size) = true) := by
    intro q
    rw [Bool.and_eq_true, Bool.and_eq_true] at q
    exact absurd q.1.2 (by decide)
  show wpAny _ _ (if (((items.size : Int) - 1) == 0 && (-1 : Int) == 1 && items.size == items.size) = true then _ else _) _ _ s
  rw [if_neg hno, pick_back]
  first
    | exact wpAny_bind (m := Builtin.Tuple.tupleExact _) (wpAny_newObj_type (wpAny_pure ⟨_, rfl, wpAny_pure h⟩) htake)
    | exact wpAny_bind (m := Builtin.Tuple.tupleExact _) (wpAny_newObj_type (wpAny_bind (wpAny_pure (wpAny_pure ⟨_, rfl, wpAny_pure h⟩))) htake)
    | exact wpAny_bind (wpAny_bind (m := Builtin.Tuple.tupleExact _) (wpAny_newObj_type (wpAny_pure (wpAny_pure ⟨_, rfl, wpAny_pure h⟩)) htake))
    | exact wpAny_bind (wpAny_bind (m := Builtin.Tuple.tupleExact _) (wpAny_newObj_type (wpAny_pure ⟨_, rfl, wpAny_pure h⟩) htake))
end

section
variable {X : Cx}
def tRevT (K : PySem.W.Frag) (te : TE) : TE := fun σ H Q => te σ H fun x H1 => ∃ a xs, x = .ref a ∧ SqT K H1 a xs ∧ ∀ p, H1 p = none → Q (.ref p) (upd H1 p (.tup xs.reverse))
theorem pe_revT {e : Expr} {te : TE} {k : Nat} {p1 p2 p3 pos : Pos} (he : PE X e te) : PE X (.Subscript e (.Slice none none (some (.UnaryOp .USub (.Constant (.int 1) k p1) p2)) p3) pos) (tRevT X.K te) := by
  refine ⟨fun pins s σ H Q I h => ?_⟩
  refine Subscript_ (thn (he.run pins s σ H _ I h) fun v s1 ⟨x, H1, I1, r1, q1⟩ => ?_)
  obtain ⟨a, xs, ex, hx, q⟩ := q1
  subst ex
  cases r1
  have hst : PO X (some (.UnaryOp .USub (.Constant (.int 1) k p1) p2)) (tPart (tUn (rU fun i => .int (-i)) (tC (.int 1)))) := po_some (pe_un un_neg pe_int)
  refine wpAny_Slice (thn (po_none.run pins s1 σ H1 (fun o H2 => o = none ∧ H2 = H1) I1 ⟨rfl, rfl⟩) fun vl s2 ⟨l, H2, I2, pl, el, e2⟩ => ?_)
  subst el e2
  refine thn (po_none.run pins s2 σ H2 (fun o H3 => o = none ∧ H3 = H2) I2 ⟨rfl, rfl⟩) fun vu s3 ⟨u, H3, I3, pu, eu, e3⟩ => ?_
  subst eu e3
  refine thn (hst.run pins s3 σ H3 (fun o H4 => o = some (-1) ∧ H4 = H3) I3 ⟨1, rfl, -1, rfl, rfl, rfl⟩) fun vs s4 ⟨o, H4, I4, ps, eo, e4⟩ => ?_
  subst eo e4
  have I5 : Inv X pins σ H4 { s4 with heap := s4.heap.push { cls := .type "slice", data := .fields #[vl, vu, vs] } } := I4.kept (t' := s4.toks) fun b ob q => Heap.get?_push_of_some _ q
  obtain ⟨its, r, ht, hz⟩ := I5.tuple hx
  have hlen := r.length
  show wpAny (model X.prog X.w) X.A (subscriptTail e (.Slice none none (some (.UnaryOp .USub (.Constant (.int 1) k p1) p2)) p3) (.ref a) (.ref s4.heap.objs.size)) (EP X pins σ Q) X.xe { s4 with heap := s4.heap.push { cls := .type "slice", data := .fields #[vl, vu, vs] } }
  refine tail_any (ops := [.ref a, .ref s4.heap.objs.size]) ht.typeIs (PyProof.Rows.slot_tuple_getitem.lookup) ?_ (by with_unfolding_all rfl)
  refine getItem_tuple_back ht (Heap.IsSliceOf.new _ vl vu vs) pl pu ps ?_ (by rw [List.size_toArray]; omega)
  refine ⟨.ref _, _, I5.laid (t' := s4.toks) (o := .tup xs.reverse) (fun b ob q => Heap.get?_push_of_some _ q) (Nat.le_refl _) ?_, rfl, q _ (I5.hok.fresh (Nat.le_refl _))⟩
  exact ⟨by rw [List.length_reverse]; exact hz, _, r.reverse, IsTup.new _ _⟩

/-- how a truth is written -/
def shB (b : Bool) : Str := if b then "True" else "False"
/-- repr(b), b a truth -/
theorem call_reprB : CallR X (.builtin "repr") (fun xs H Q => ∃ b, xs = [.bl b] ∧ Q (.str (shB b)) H) := by
  intro pins s σ H xs us Q I r h
  obtain ⟨b, rfl, q⟩ := h
  obtain ⟨u, rfl, r1⟩ := vals1 r
  cases r1
  exact P.repr_of_bool ⟨.str (shB b), H, I.tok _, ⟨_, rfl⟩, q⟩
end
end NB

set_option Elab.async false
set_option linter.all false
set_option maxRecDepth 100000
namespace NB
open PySem PySem.Spec PyProof.Rows L2
/-- data that repr writes: at most w by weight, nested at most n deep -/
structure Small (d : PyData) (w n : Nat) : Prop where
  sh : d.showable = true
  nd : d.hasDict = false
  dp : d.depth ≤ n
  lv : d.leavesShort 100 = true
  wt : d.weight ≤ w
structure SmallAll (ds : List PyData) (w n : Nat) : Prop where
  sh : PyData.showableAll ds = true
  nd : PyData.hasDictAll ds = false
  dp : PyData.depthAll ds ≤ n
  lv : PyData.leavesShortAll 100 ds = true
  wt : PyData.weightAll ds ≤ w
theorem Small.int {i : Int} (h : i.natAbs < 10 ^ 90) : Small (.int i) 310 0 := by
  have lg : i.natAbs.log2 < 300 := by
    have h2 : i.natAbs < 2 ^ 300 := Nat.lt_of_lt_of_le h (by decide)
    by_cases e : i.natAbs = 0
    · rw [e]; decide
    · exact (Nat.log2_lt e).mpr h2
  refine ⟨?_, rfl, Nat.le_refl _, ?_, ?_⟩
  · simp only [PyData.showable, decide_eq_true_eq]
    omega
  · simp only [PyData.leavesShort, decide_eq_true_eq]
    have e := int_text_length_le10 (k := 90) (by decide) h
    show (Str.ofString (toString i)).length ≤ 100
    rw [PySem.ofString_length]
    omega
  · show (if i == 0 then 0 else i.natAbs.log2 + 1) ≤ 310
    split <;> omega
theorem Small.bool (b : Bool) : Small (.bool b) 0 0 := ⟨rfl, rfl, Nat.le_refl _, rfl, Nat.le_refl _⟩
theorem Small.none : Small .none 0 0 := ⟨rfl, rfl, Nat.le_refl _, rfl, Nat.le_refl _⟩
theorem SmallAll.nil : SmallAll [] 0 0 := ⟨rfl, rfl, Nat.le_refl _, rfl, Nat.le_refl _⟩
theorem SmallAll.cons {d : PyData} {ds : List PyData} {w v n m : Nat} (h : Small d w n) (h' : SmallAll ds v m) : SmallAll (d :: ds) (w + 1 + v) (max n m) := by
  obtain ⟨a1, a2, a3, a4, a5⟩ := h
  obtain ⟨b1, b2, b3, b4, b5⟩ := h'
  refine ⟨?_, ?_, ?_, ?_, ?_⟩
  · simp only [PyData.showableAll, a1, b1, Bool.and_self]
  · simp only [PyData.hasDictAll, a2, b2, Bool.or_self]
  · simp only [PyData.depthAll]
    omega
  · simp only [PyData.leavesShortAll, a4, b4, Bool.and_self]
  · simp only [PyData.weightAll]
    omega
theorem Small.list {ds : List PyData} {w n : Nat} (h : SmallAll ds w n) : Small (.list ds) w (n + 1) := by
  obtain ⟨a1, a2, a3, a4, a5⟩ := h
  refine ⟨?_, ?_, ?_, ?_, ?_⟩
  · simpa only [PyData.showable] using a1
  · simpa only [PyData.hasDict] using a2
  · simp only [PyData.depth]
    omega
  · simpa only [PyData.leavesShort] using a4
  · simpa only [PyData.weight] using a5
theorem Small.tuple {ds : List PyData} {w n : Nat} (h : SmallAll ds w n) : Small (.tuple ds) w (n + 1) := by
  obtain ⟨a1, a2, a3, a4, a5⟩ := h
  refine ⟨?_, ?_, ?_, ?_, ?_⟩
  · simpa only [PyData.showable] using a1
  · simpa only [PyData.hasDict] using a2
  · simp only [PyData.depth]
    omega
  · simpa only [PyData.leavesShort] using a4
  · simpa only [PyData.weight] using a5
theorem SmallAll.ints : ∀ {xs : List Int}, (∀ x ∈ xs, x.natAbs < 10 ^ 90) → SmallAll (xs.map PyData.int) (311 * xs.length) 0
  | [], _ => .nil
  | x :: xs, h => by
    have c := SmallAll.cons (Small.int (h x List.mem_cons_self)) (SmallAll.ints fun y hy => h y (List.mem_cons_of_mem _ hy))
    refine ⟨c.sh, c.nd, c.dp, c.lv, Nat.le_trans c.wt ?_⟩
    rw [List.length_cons]
    omega
theorem Small.ok {d : PyData} {w n : Nat} (h : Small d w n) (hw : w ≤ 150000) (hn : n ≤ 60) : Showable d := by
  refine ⟨h.sh, h.nd, Nat.le_trans h.dp hn, ?_⟩
  have e := PyData.shown_le 100 (by decide) d h.lv
  have := h.wt
  rw [sizeLine_eq]
  have : (100 + 2) * d.weight ≤ (100 + 2) * 150000 := Nat.mul_le_mul_left _ (Nat.le_trans h.wt hw)
  omega
/-- what Dp reads of a tuple of ints -/
theorem dp_ints {K : PySem.W.Frag} {H : Hp} : ∀ xs : List Int, DpAll K H (xs.map V.int) (xs.map PyData.int)
  | [] => .nil
  | x :: xs => .cons (.int x) (dp_ints xs)
theorem dp_tup {K : PySem.W.Frag} {H : Hp} {p : Addr} {xs : List Int} (h : SqT K H p (xs.map V.int)) : Dp K H (.ref p) (.tuple (xs.map PyData.int)) := .tup h (dp_ints xs)
end NB

set_option Elab.async false
set_option linter.all false
set_option maxRecDepth 100000
set_option maxHeartbeats 1000000
/-! Data of any kind: None, truths, whole numbers, texts, lists, tuples, dicts. -/
namespace NB
open PySem PySem.Spec PyProof.Rows L2

def kD : Key → PyData
  | .inl i => .int i
  | .inr x => .str x
mutual
/-- the value v is the data d; its lists stand apart from n -/
inductive Da (n : Addr) (H : Hp) : V → PyData → Prop
  | non : Da n H .non .none
  | bl (b : Bool) : Da n H (.bl b) (.bool b)
  | int (i : Int) : Da n H (.int i) (.int i)
  | str (x : Str) : Da n H (.str x) (.str x)
  | lst {a : Addr} {xs : List V} {ds : List PyData} : H a = some (.lst xs) → a ≠ sysModules → a ≠ n → DaAll n H xs ds → Da n H (.ref a) (.list ds)
  | tup {a : Addr} {xs : List V} {ds : List PyData} : H a = some (.tup xs) → DaAll n H xs ds → Da n H (.ref a) (.tuple ds)
  | dct {a : Addr} {kvs : List (Key × V)} {ds : List (PyData × PyData)} : H a = some (.dK kvs) → DaKv n H kvs ds → Da n H (.ref a) (.dict ds)
inductive DaAll (n : Addr) (H : Hp) : List V → List PyData → Prop
  | nil : DaAll n H [] []
  | cons {v : V} {vs : List V} {d : PyData} {ds : List PyData} : Da n H v d → DaAll n H vs ds → DaAll n H (v :: vs) (d :: ds)
inductive DaKv (n : Addr) (H : Hp) : List (Key × V) → List (PyData × PyData) → Prop
  | nil : DaKv n H [] []
  | cons {k : Key} {v : V} {kvs : List (Key × V)} {d : PyData} {ds : List (PyData × PyData)} : Da n H v d → DaKv n H kvs ds → DaKv n H ((k, v) :: kvs) ((kD k, d) :: ds)
end
mutual
theorem Da.keep {n : Addr} {H H' : Hp} (hn : ∃ zs, H n = some (.lst zs)) (k : ∀ b o, b ≠ n → H b = some o → H' b = some o) : ∀ (d : PyData) (v : V), Da n H v d → Da n H' v d
  | .none, _, h => by cases h; exact .non
  | .bool b, _, h => by cases h; exact .bl b
  | .int i, _, h => by cases h; exact .int i
  | .str x, _, h => by cases h; exact .str x
  | .list ds, _, h => by
    cases h with
    | lst e n1 n2 ha => exact .lst (k _ _ n2 e) n1 n2 (DaAll.keep hn k ds _ ha)
  | .tuple ds, _, h => by
    cases h with
    | tup e ha =>
      refine .tup (k _ _ (fun z => ?_) e) (DaAll.keep hn k ds _ ha)
      obtain ⟨zs, q⟩ := hn
      rw [z, q] at e
      cases e
  | .dict ds, _, h => by
    cases h with
    | dct e ha =>
      refine .dct (k _ _ (fun z => ?_) e) (DaKv.keep hn k ds _ ha)
      obtain ⟨zs, q⟩ := hn
      rw [z, q] at e
      cases e
theorem DaAll.keep {n : Addr} {H H' : Hp} (hn : ∃ zs, H n = some (.lst zs)) (k : ∀ b o, b ≠ n → H b = some o → H' b = some o) : ∀ (ds : List PyData) (vs : List V), DaAll n H vs ds → DaAll n H' vs ds
  | [], _, h => by cases h; exact .nil
  | d :: ds, _, h => by
    cases h with
    | cons h1 h2 => exact .cons (Da.keep hn k d _ h1) (DaAll.keep hn k ds _ h2)
theorem DaKv.keep {n : Addr} {H H' : Hp} (hn : ∃ zs, H n = some (.lst zs)) (k : ∀ b o, b ≠ n → H b = some o → H' b = some o) : ∀ (ds : List (PyData × PyData)) (kvs : List (Key × V)), DaKv n H kvs ds → DaKv n H' kvs ds
  | [], _, h => by cases h; exact .nil
  | (_, d) :: ds, _, h => by
    cases h with
    | cons h1 h2 => exact .cons (Da.keep hn k d _ h1) (DaKv.keep hn k ds _ h2)
end
mutual
theorem Da.sameD {n : Addr} {H H' : Hp} (k : Same H H') : ∀ (d : PyData) (v : V), Da n H v d → Da n H' v d
  | .none, _, h => by cases h; exact .non
  | .bool b, _, h => by cases h; exact .bl b
  | .int i, _, h => by cases h; exact .int i
  | .str x, _, h => by cases h; exact .str x
  | .list ds, _, h => by
    cases h with
    | lst e n1 n2 ha => exact .lst (k _ _ e) n1 n2 (DaAll.sameD k ds _ ha)
  | .tuple ds, _, h => by
    cases h with
    | tup e ha => exact .tup (k _ _ e) (DaAll.sameD k ds _ ha)
  | .dict ds, _, h => by
    cases h with
    | dct e ha => exact .dct (k _ _ e) (DaKv.sameD k ds _ ha)
theorem DaAll.sameD {n : Addr} {H H' : Hp} (k : Same H H') : ∀ (ds : List PyData) (vs : List V), DaAll n H vs ds → DaAll n H' vs ds
  | [], _, h => by cases h; exact .nil
  | d :: ds, _, h => by
    cases h with
    | cons h1 h2 => exact .cons (Da.sameD k d _ h1) (DaAll.sameD k ds _ h2)
theorem DaKv.sameD {n : Addr} {H H' : Hp} (k : Same H H') : ∀ (ds : List (PyData × PyData)) (kvs : List (Key × V)), DaKv n H kvs ds → DaKv n H' kvs ds
  | [], _, h => by cases h; exact .nil
  | (_, d) :: ds, _, h => by
    cases h with
    | cons h1 h2 => exact .cons (Da.sameD k d _ h1) (DaKv.sameD k ds _ h2)
end
theorem Da.same {n : Addr} {H H' : Hp} {v : V} {d : PyData} (h : Da n H v d) (k : Same H H') : Da n H' v d := Da.sameD k d v h
theorem DaAll.same {n : Addr} {H H' : Hp} {vs : List V} {ds : List PyData} (h : DaAll n H vs ds) (k : Same H H') : DaAll n H' vs ds := DaAll.sameD k ds vs h
theorem DaAll.len {n : Addr} {H : Hp} {vs : List V} {ds : List PyData} (h : DaAll n H vs ds) : vs.length = ds.length := by
  induction ds generalizing vs with
  | nil => cases h; rfl
  | cons d ds ih =>
    cases h with
    | cons h1 h2 => rw [List.length_cons, List.length_cons, ih h2]
theorem DaAll.get {n : Addr} {H : Hp} {vs : List V} {ds : List PyData} (h : DaAll n H vs ds) (i : Nat) (v : V) (e : vs[i]? = some v) : ∃ d, ds[i]? = some d ∧ Da n H v d := by
  induction ds generalizing vs i with
  | nil => cases h; simp at e
  | cons d ds ih =>
    cases h with
    | cons h1 h2 =>
      cases i with
      | zero => exact ⟨d, rfl, by cases e; exact h1⟩
      | succ i => exact ih h2 i e
theorem DaAll.mem {n : Addr} {H : Hp} {vs : List V} {ds : List PyData} (h : DaAll n H vs ds) {v : V} (hv : v ∈ vs) : ∃ d ∈ ds, Da n H v d := by
  obtain ⟨i, hi, e⟩ := List.getElem_of_mem hv
  obtain ⟨d, e1, e2⟩ := h.get i v (by rw [List.getElem?_eq_getElem hi, e])
  exact ⟨d, List.mem_of_getElem? e1, e2⟩
theorem DaAll.app {n : Addr} {H : Hp} {vs us : List V} {ds es : List PyData} (h : DaAll n H vs ds) (h' : DaAll n H us es) : DaAll n H (vs ++ us) (ds ++ es) := by
  induction ds generalizing vs with
  | nil => cases h; exact h'
  | cons d ds ih =>
    cases h with
    | cons h1 h2 => exact .cons h1 (ih h2)
theorem DaAll.take {n : Addr} {H : Hp} {vs : List V} {ds : List PyData} (h : DaAll n H vs ds) (i : Nat) : DaAll n H (vs.take i) (ds.take i) := by
  induction ds generalizing vs i with
  | nil => cases h; simp only [List.take_nil]; exact .nil
  | cons d ds ih =>
    cases h with
    | cons h1 h2 =>
      cases i with
      | zero => simp only [List.take_zero]; exact .nil
      | succ i => simp only [List.take_succ_cons]; exact .cons h1 (ih h2 i)
theorem DaAll.drop {n : Addr} {H : Hp} {vs : List V} {ds : List PyData} (h : DaAll n H vs ds) (i : Nat) : DaAll n H (vs.drop i) (ds.drop i) := by
  induction ds generalizing vs i with
  | nil => cases h; simp only [List.drop_nil]; exact .nil
  | cons d ds ih =>
    cases h with
    | cons h1 h2 =>
      cases i with
      | zero => simp only [List.drop_zero]; exact .cons h1 h2
      | succ i => simp only [List.drop_succ_cons]; exact ih h2 i
theorem DaAll.ints {n : Addr} {H : Hp} : ∀ xs : List Int, DaAll n H (xs.map V.int) (xs.map PyData.int)
  | [] => .nil
  | x :: xs => .cons (.int x) (DaAll.ints xs)
/-- of which kind it is -/
def tyD : PyData → String
  | .none => "NoneType"
  | .bool _ => "bool"
  | .int _ => "int"
  | .str _ => "str"
  | .list _ => "list"
  | .tuple _ => "tuple"
  | .dict _ => "dict"
theorem Da.ty {K : PySem.W.Frag} {n : Addr} {H : Hp} {v : V} {d : PyData} (h : Da n H v d) : TyX K H v (.type (tyD d)) := by
  cases h with
  | non => exact .base .non
  | bl b => exact .base (.bl b)
  | int i => exact .base (.int i)
  | str x => exact .base (.str x)
  | lst e _ _ _ => exact .base (.lst e)
  | tup e _ => exact .base (.tup e)
  | dct e _ => exact .base (.dK e)
def isTupD : PyData → Bool
  | .tuple _ => true
  | _ => false
def isIntD : PyData → Bool
  | .int _ => true
  | .bool _ => true
  | _ => false
def isBoolD : PyData → Bool
  | .bool _ => true
  | _ => false
def isStrD : PyData → Bool
  | .str _ => true
  | _ => false
theorem kit_tup (d : PyData) : kitB (tyD d) "tuple" = some (isTupD d) := by cases d <;> (simp only [tyD, isTupD, isIntD, isBoolD, isStrD]; decide +kernel)
theorem kit_int (d : PyData) : kitB (tyD d) "int" = some (isIntD d) := by cases d <;> (simp only [tyD, isTupD, isIntD, isBoolD, isStrD]; decide +kernel)
theorem kit_bool (d : PyData) : kitB (tyD d) "bool" = some (isBoolD d) := by cases d <;> (simp only [tyD, isTupD, isIntD, isBoolD, isStrD]; decide +kernel)
theorem kit_str (d : PyData) : kitB (tyD d) "str" = some (isStrD d) := by cases d <;> (simp only [tyD, isTupD, isIntD, isBoolD, isStrD]; decide +kernel)
section
variable {X : Cx} {pins : List (Addr × Obj)} {σ : L2.St} {H : Hp} {s : Shared}
theorem key_reads {h : Heap} {k : Key} {u : Value} (e : keyIs k u = true) : Reads h u (kD k) [] := by
  rcases keyIs_shape e with ⟨i, t, rfl, rfl⟩ | ⟨x, t, rfl, rfl⟩
  · exact .int i t
  · exact .str x t
mutual
theorem Da.reads {n : Addr} (I : Inv X pins σ H s) : ∀ (d : PyData) (v : V) (u : Value), Da n H v d → RelV v u → ∃ as, Reads s.heap u d as ∧ sysModules ∉ as
  | .none, _, _, h, r => by
    cases h
    cases r
    exact ⟨_, Reads.none, List.not_mem_nil⟩
  | .bool b, _, _, h, r => by
    cases h
    cases r
    exact ⟨_, Reads.bool b, List.not_mem_nil⟩
  | .int i, _, _, h, r => by
    cases h
    obtain ⟨t, rfl⟩ := r
    exact ⟨_, Reads.int i t, List.not_mem_nil⟩
  | .str x, _, _, h, r => by
    cases h
    obtain ⟨t, rfl⟩ := r
    exact ⟨_, Reads.str x t, List.not_mem_nil⟩
  | .list ds, _, _, h, r => by
    cases h with
    | lst e n1 n2 ha =>
      cases r
      obtain ⟨its, rv, ⟨o, m, ho, hc, _, hd⟩, _⟩ := I.list (.inl (.inl e))
      obtain ⟨as, hr, hm⟩ := Da.readsAll I ds _ its ha rv
      refine ⟨_, Reads.list ho hc hd hr, fun z => ?_⟩
      rcases List.mem_cons.mp z with q | q
      · exact n1 q.symm
      · exact hm q
  | .tuple ds, _, _, h, r => by
    cases h with
    | tup e ha =>
      cases r
      obtain ⟨its, rv, ⟨o, ho, hc, m, hd⟩, _⟩ := I.tuple (.inl (.inl e))
      obtain ⟨as, hr, hm⟩ := Da.readsAll I ds _ its ha rv
      exact ⟨_, Reads.tuple ho hc hd hr, hm⟩
  | .dict ds, _, _, h, r => by
    cases h with
    | dct e ha =>
      rename_i a kvs
      cases r
      obtain ⟨_, hsys, vs, rel, o, es, ep, h1, h2, h3, _, pr, _⟩ := (show ObjOk X.prog X.w H s.heap a (.dK kvs) from I.hok a _ e)
      obtain ⟨as, bs, q1, m1, q2, m2⟩ := Da.readsKv I ds kvs vs es.toList ha rel pr
      refine ⟨_, Reads.dict h1 h2.1 h3 q1 q2, fun z => ?_⟩
      rw [List.cons_append] at z
      rcases List.mem_cons.mp z with q | q
      · exact beq_eq_false_iff_ne.mp hsys q.symm
      · rcases List.mem_append.mp q with q | q
        · exact m1 q
        · exact m2 q
theorem Da.readsAll {n : Addr} (I : Inv X pins σ H s) : ∀ (ds : List PyData) (vs : List V) (us : List Value), DaAll n H vs ds → Vals vs us → ∃ as, ReadsAll s.heap us ds as ∧ sysModules ∉ as
  | [], _, _, h, r => by
    cases h
    cases r
    exact ⟨_, ReadsAll.nil, List.not_mem_nil⟩
  | d :: ds, _, _, h, r => by
    cases h with
    | cons h1 h2 =>
      cases r with
      | cons r1 r2 =>
        obtain ⟨as, q1, m1⟩ := Da.reads I d _ _ h1 r1
        obtain ⟨bs, q2, m2⟩ := Da.readsAll I ds _ _ h2 r2
        refine ⟨_, ReadsAll.cons q1 q2, fun z => ?_⟩
        rcases List.mem_append.mp z with q | q
        · exact m1 q
        · exact m2 q
theorem Da.readsKv {n : Addr} (I : Inv X pins σ H s) : ∀ (ds : List (PyData × PyData)) (kvs : List (Key × V)) (vs : List (Key × Value)) (es : List DictEntry), DaKv n H kvs ds → KV kvs vs → Pairs (mixKind X.prog X.w) es vs →
    ∃ as bs, ReadsAll s.heap (es.map (·.key)) (ds.map (·.1)) as ∧ sysModules ∉ as ∧ ReadsAll s.heap (es.map (·.val)) (ds.map (·.2)) bs ∧ sysModules ∉ bs
  | [], _, _, _, h, r, p => by
    cases h
    cases r
    cases p
    exact ⟨_, _, ReadsAll.nil, List.not_mem_nil, ReadsAll.nil, List.not_mem_nil⟩
  | (_, d) :: ds, _, _, _, h, r, p => by
    cases h with
    | cons h1 h2 =>
      cases r with
      | cons r1 r2 =>
        cases p with
        | cons p1 p2 p3 =>
          obtain ⟨as, bs, q1, m1, q2, m2⟩ := Da.readsKv I ds _ _ _ h2 r2 p3
          obtain ⟨cs, q3, m3⟩ := Da.reads I d _ _ h1 r1.2
          refine ⟨_, _, ReadsAll.cons (key_reads (by have e := r1.1; simp only at e; show keyIs _ _ = true; rw [e]; exact p1)) q1, ?_, ReadsAll.cons (by show Reads s.heap (DictEntry.val _) d _; rw [p2]; exact q3) q2, fun z => ?_⟩
          · rw [List.nil_append]
            exact m1
          · rcases List.mem_append.mp z with q | q
            · exact m3 q
            · exact m2 q
end
end
/-- data that repr writes: at most w by weight, nested at most k deep -/
structure Sm (d : PyData) (w k : Nat) : Prop where
  sh : d.showable = true
  dp : d.depth ≤ k
  lv : d.leavesShort 100 = true
  wt : d.weight ≤ w
theorem Sm.mono {d : PyData} {w v k m : Nat} (h : Sm d w k) (hw : w ≤ v) (hk : k ≤ m) : Sm d v m := ⟨h.sh, Nat.le_trans h.dp hk, h.lv, Nat.le_trans h.wt hw⟩
/-- each of them -/
def SmE (ds : List PyData) (k : Nat) : Prop := ∀ d ∈ ds, d.showable = true ∧ d.depth ≤ k ∧ d.leavesShort 100 = true
theorem smE_iff : ∀ (ds : List PyData) (k : Nat), SmE ds k ↔ PyData.showableAll ds = true ∧ PyData.depthAll ds ≤ k ∧ PyData.leavesShortAll 100 ds = true
  | [], k => by
    refine ⟨fun _ => ⟨rfl, Nat.zero_le _, rfl⟩, fun _ d h => absurd h List.not_mem_nil⟩
  | d :: ds, k => by
    have ih := smE_iff ds k
    constructor
    · intro h
      have h1 := h d List.mem_cons_self
      have h2 := ih.mp fun e he => h e (List.mem_cons_of_mem _ he)
      refine ⟨?_, ?_, ?_⟩
      · simp only [PyData.showableAll, h1.1, h2.1, Bool.and_self]
      · simp only [PyData.depthAll]
        omega
      · simp only [PyData.leavesShortAll, h1.2.2, h2.2.2, Bool.and_self]
    · rintro ⟨h1, h2, h3⟩ e he
      simp only [PyData.showableAll, Bool.and_eq_true] at h1
      simp only [PyData.depthAll] at h2
      simp only [PyData.leavesShortAll, Bool.and_eq_true] at h3
      rcases List.mem_cons.mp he with rfl | he
      · exact ⟨h1.1, by omega, h3.1⟩
      · exact ih.mpr ⟨h1.2, by omega, h3.2⟩ e he
theorem smE_iff_depth : ∀ (ds : List PyData) (k : Nat), PyData.depthAll ds ≤ k ↔ ∀ d ∈ ds, d.depth ≤ k
  | [], k => ⟨fun _ d h => absurd h List.not_mem_nil, fun _ => Nat.zero_le _⟩
  | d :: ds, k => by
    have ih := smE_iff_depth ds k
    simp only [PyData.depthAll]
    constructor
    · intro h e he
      rcases List.mem_cons.mp he with rfl | he
      · omega
      · exact ih.mp (by omega) e he
    · intro h
      have h1 := h d List.mem_cons_self
      have h2 := ih.mpr fun e he => h e (List.mem_cons_of_mem _ he)
      omega
theorem wt_app : ∀ xs ys : List PyData, PyData.weightAll (xs ++ ys) = PyData.weightAll xs + PyData.weightAll ys
  | [], ys => by simp [PyData.weightAll]
  | x :: xs, ys => by
    rw [List.cons_append]
    simp only [PyData.weightAll, wt_app xs ys]
    omega
theorem wt_len : ∀ xs : List PyData, xs.length ≤ PyData.weightAll xs
  | [] => by simp [PyData.weightAll]
  | x :: xs => by
    have := wt_len xs
    simp only [PyData.weightAll, List.length_cons]
    omega
theorem wt_mem : ∀ {xs : List PyData} {d : PyData}, d ∈ xs → d.weight + 1 ≤ PyData.weightAll xs
  | [], d, h => absurd h List.not_mem_nil
  | x :: xs, d, h => by
    simp only [PyData.weightAll]
    rcases List.mem_cons.mp h with rfl | h
    · omega
    · have := wt_mem h
      omega
theorem Sm.tup {ds : List PyData} {w k : Nat} (h : SmE ds k) (hw : PyData.weightAll ds ≤ w) : Sm (.tuple ds) w (k + 1) := by
  obtain ⟨a, b, c⟩ := (smE_iff ds k).mp h
  refine ⟨?_, ?_, ?_, ?_⟩
  · simpa only [PyData.showable] using a
  · simp only [PyData.depth]
    omega
  · simpa only [PyData.leavesShort] using c
  · simpa only [PyData.weight] using hw
theorem Sm.lst {ds : List PyData} {w k : Nat} (h : SmE ds k) (hw : PyData.weightAll ds ≤ w) : Sm (.list ds) w (k + 1) := by
  obtain ⟨a, b, c⟩ := (smE_iff ds k).mp h
  refine ⟨?_, ?_, ?_, ?_⟩
  · simpa only [PyData.showable] using a
  · simp only [PyData.depth]
    omega
  · simpa only [PyData.leavesShort] using c
  · simpa only [PyData.weight] using hw
theorem Sm.of_tup {ds : List PyData} {w k : Nat} (h : Sm (.tuple ds) w k) : ∃ j, k = j + 1 ∧ SmE ds j ∧ PyData.weightAll ds ≤ w := by
  obtain ⟨a, b, c, e⟩ := h
  simp only [PyData.showable] at a
  simp only [PyData.depth] at b
  simp only [PyData.leavesShort] at c
  simp only [PyData.weight] at e
  refine ⟨k - 1, by omega, (smE_iff ds _).mpr ⟨a, by omega, c⟩, e⟩
theorem Sm.int {i : Int} (h : i.natAbs < 10 ^ 90) : Sm (.int i) 310 0 := by
  have s := Small.int h
  exact ⟨s.sh, s.dp, s.lv, s.wt⟩
theorem Sm.bool (b : Bool) : Sm (.bool b) 0 0 := ⟨rfl, Nat.le_refl _, rfl, Nat.le_refl _⟩
theorem Sm.none : Sm .none 0 0 := ⟨rfl, Nat.le_refl _, rfl, Nat.le_refl _⟩
theorem Sm.e {d : PyData} {w k : Nat} (h : Sm d w k) : d.showable = true ∧ d.depth ≤ k ∧ d.leavesShort 100 = true := ⟨h.sh, h.dp, h.lv⟩
theorem Sm.dict0 : Sm (.dict []) 0 1 := ⟨rfl, by decide, rfl, Nat.le_refl _⟩
theorem Sm.dict1 {x : Str} {d : PyData} {w v k : Nat} (hx : Sm (.str x) v k) (h : Sm d w k) : Sm (.dict [(.str x, d)]) (v + w + 2) (k + 1) := by
  have a := hx.wt
  have b := h.wt
  have c := hx.dp
  have e := h.dp
  refine ⟨?_, ?_, ?_, ?_⟩
  · simp only [PyData.showable, PyData.showableKv, h.sh, Bool.and_self]
  · simp only [PyData.depth, PyData.depthKv]
    omega
  · have e1 := hx.lv
    simp only [PyData.leavesShort, PyData.leavesShortKv] at e1 ⊢
    rw [e1, h.lv]
    rfl
  · simp only [PyData.weight, PyData.weightKv] at a ⊢
    omega
theorem Sm.long {d : PyData} {w k : Nat} (h : Sm d w k) (hw : w ≤ 150000) : d.shown.length ≤ sizeLine := by
  have e := PyData.shown_le 100 (by decide) d h.lv
  have := h.wt
  rw [sizeLine_eq]
  have : (100 + 2) * d.weight ≤ (100 + 2) * 150000 := Nat.mul_le_mul_left _ (Nat.le_trans h.wt hw)
  omega
section
variable {X : Cx}
/-- isinstance(x, T), x data -/
theorem call_isiD : CallR X (.builtin "isinstance") (fun xs H Q => ∃ n v d T b, xs = [v, .ty T] ∧ Da n H v d ∧ kitB (tyD d) T = some b ∧ Q (.bl b) H) := by
  intro pins s σ H xs us Q I r h
  obtain ⟨n, v, d, T, b, rfl, hd, hk, q⟩ := h
  exact call_isi pins s σ H _ us Q I r ⟨v, .ty T, _, _, b, rfl, .ty T, hd.ty, kit_ty hk, q⟩
/-- repr(x), x data -/
theorem call_reprA (hG : X.A.guards = some []) (hu : X.A.units + 64 < cLine) : CallR X (.builtin "repr") (fun xs H Q => ∃ n v d w k, xs = [v] ∧ Da n H v d ∧ Sm d w k ∧ w ≤ 150000 ∧ k ≤ 60 ∧ Q (.str d.shown) H) := by
  intro pins s σ H xs us Q I r h
  obtain ⟨n, v, d, w, k, rfl, hd, S, hw, hk, q⟩ := h
  obtain ⟨u, rfl, ru⟩ := vals1 r
  have hz := S.long hw
  have hsh := S.sh
  cases v with
  | ref a =>
    obtain ⟨as, rd, nm⟩ := Da.reads I d _ u hd ru
    cases ru
    have hn := S.dp
    exact repr_of_reads' rd S.sh (fun _ => nm) hG (by omega) (fun _ _ z => z) (fun h' u tk hk => ⟨.str _, H, I.kept hk, ⟨_, rfl⟩, q⟩) hz
  | non =>
    cases hd
    cases ru
    exact P.repr_of_none ⟨.str "None", H, I.tok _, ⟨_, rfl⟩, q⟩
  | bl b =>
    cases hd
    cases ru
    exact P.repr_of_bool ⟨.str (if b then "True" else "False"), H, I.tok _, ⟨_, rfl⟩, q⟩
  | int i =>
    cases hd
    obtain ⟨t, rfl⟩ := ru
    simp only [PyData.showable, decide_eq_true_eq] at hsh
    exact P.repr_of_int hsh ⟨.str (toString i), H, I.tok _, ⟨_, rfl⟩, q⟩
  | str x =>
    cases hd
    obtain ⟨t, rfl⟩ := ru
    exact P.repr_of_str ⟨.str (reprText x), H, I.tok _, ⟨_, rfl⟩, q⟩ hz
  | _ => cases hd
/-- t == (), t any tuple -/
theorem op_eq0 (hu : X.A.units < cLine) : OpR X (compareOp .Eq) (fun x y H Q => ∃ a b xs, x = .ref a ∧ y = .ref b ∧ SqT X.K H a xs ∧ SqT X.K H b [] ∧ Q (.bl xs.isEmpty) H) := by
  intro pins s σ H x y v u Q I rx ry h
  obtain ⟨a, b, xs, rfl, rfl, ha, hb, q⟩ := h
  cases rx
  cases ry
  obtain ⟨i1, r1, p1, _⟩ := I.tuple ha
  obtain ⟨i2, r2, p2, _⟩ := I.tuple hb
  cases r2
  refine SeqAt.eq_tupleAt (e := fun _ => true) p1 p2 hu (fun j h1 h2 => absurd h2 (by simp)) ?_
  refine ⟨.bl xs.isEmpty, H, I, ?_, q⟩
  have e := r1.length
  cases xs with
  | nil =>
    cases r1
    rfl
  | cons z zs =>
    cases r1
    simp [L2.RelV]
/-- x is y, x is not y, of truths -/
theorem op_isB : OpR X (compareOp .Is) (fun x y H Q => ∃ a b, x = .bl a ∧ y = .bl b ∧ Q (.bl (a == b)) H) := by
  intro pins s σ H x y v u Q I rx ry h
  obtain ⟨a, b, rfl, rfl, q⟩ := h
  cases rx
  cases ry
  exact wpAny_pure ⟨.bl (a == b), H, I, by cases a <;> cases b <;> rfl, q⟩
theorem op_isnotB : OpR X (compareOp .IsNot) (fun x y H Q => ∃ a b, x = .bl a ∧ y = .bl b ∧ Q (.bl (!(a == b))) H) := by
  intro pins s σ H x y v u Q I rx ry h
  obtain ⟨a, b, rfl, rfl, q⟩ := h
  cases rx
  cases ry
  exact wpAny_pure ⟨.bl (!(a == b)), H, I, by cases a <;> cases b <;> rfl, q⟩
/-- t != (), t any tuple -/
theorem op_ne0 (hu : X.A.units < cLine) : OpR X (compareOp .NotEq) (fun x y H Q => ∃ a b xs, x = .ref a ∧ y = .ref b ∧ SqT X.K H a xs ∧ SqT X.K H b [] ∧ Q (.bl (!xs.isEmpty)) H) := by
  intro pins s σ H x y v u Q I rx ry h
  obtain ⟨a, b, xs, rfl, rfl, ha, hb, q⟩ := h
  cases rx
  cases ry
  obtain ⟨i1, r1, p1, _⟩ := I.tuple ha
  obtain ⟨i2, r2, p2, _⟩ := I.tuple hb
  cases r2
  refine SeqAt.RcNeAt.tuples (e := fun _ => true) p1 p2 hu (fun j h1 h2 => absurd h2 (by simp)) X.prog X.w X.xe _ ?_
  refine ⟨.bl (!xs.isEmpty), H, I, ?_, q⟩
  cases xs with
  | nil =>
    cases r1
    rfl
  | cons z zs =>
    cases r1
    simp [L2.RelV]
/-- a written list stands apart from what the machine keeps by itself -/
def tLstN (t : TA) : TE := fun σ H Q => t σ H fun xs H1 => xs.length ≤ sizeLine ∧ ∀ p, H1 p = none → p ≠ sysModules → Q (.ref p) (upd H1 p (.lst xs))
theorem pe_lstN {es : List Expr} {pos : Pos} {t : TA} (h : PA X es t) : PE X (.List es pos) (tLstN t) := by
  refine ⟨fun pins s σ H Q I hq => ?_⟩
  refine wpAny_List_spliced (thn (h.run pos pins s σ H _ I hq) fun us s1 ⟨xs, H1, I1, r, z, q⟩ => ⟨by rw [← r.length]; exact z, ?_⟩)
  have hf : H1 s1.heap.objs.size = none := I1.hok.fresh (Nat.le_refl _)
  refine ⟨.ref s1.heap.objs.size, upd H1 s1.heap.objs.size (.lst xs), I1.laid (t' := s1.toks) (fun b u e => Heap.get?_push_of_some _ e) (Nat.le_refl _) ?_, rfl, q _ hf (Nat.ne_of_gt I1.big)⟩
  exact ⟨z, us, 0, r, Heap.get?_push_size _ rfl⟩
/-- list(t), t a tuple -/
theorem call_list_ofN : CallR X (.type "list") (fun xs H Q => ∃ p ys, xs = [.ref p] ∧ SqT X.K H p ys ∧ ∀ l, H l = none → l ≠ sysModules → Q (.ref l) (upd H l (.lst ys))) := by
  intro pins s σ H xs us Q I r h
  obtain ⟨p, ys, rfl, hq, q⟩ := h
  obtain ⟨u, rfl, rx⟩ := vals1 r
  cases rx
  have fin : ∀ (its : List Value), Vals ys its → ys.length ≤ sizeLine → ∀ (h' : Heap) (c' : Nat), (∀ b o', s.heap.get? b = some o' → h'.get? b = some o') →
      h'.get? s.heap.objs.size = some { cls := .type "list", dict := none, data := .seq its.toArray c', slots := #[] } → EP X pins σ Q (.ref s.heap.objs.size) { s with heap := h' } := fun its r' hz h' c' kp e =>
    ⟨.ref s.heap.objs.size, _, I.laid (t' := s.toks) kp (Nat.le_refl _) (show ObjOk X.prog X.w _ h' _ (.lst ys) from ⟨hz, its, c', r', e⟩), rfl, q _ (I.hok.fresh (Nat.le_refl _)) (Nat.ne_of_gt I.big)⟩
  obtain ⟨its, r', pl, hz⟩ := I.tuple hq
  have hlen := r'.length
  obtain ⟨o, ho, hc, n, hd⟩ := pl
  exact call_list_seq p (.inr rfl) ho hc hd (fun h' c' kp e => fin its r' hz h' c' kp e) (by simp only [List.size_toArray] <;> omega)
end
/-- two ways that come to the same -/
theorem join2 {c : Bool} {A B : VK → Prop} {Q : VK} (R : V → Hp → Prop) (hA : ∀ Q' : VK, (∀ v H, R v H → Q' v H) → A Q') (hB : ∀ Q' : VK, (∀ v H, R v H → Q' v H) → B Q') (hQ : ∀ v H, R v H → Q v H) : if c = true then A Q else B Q := by
  cases c
  · exact iteF (hB Q hQ)
  · exact iteT (hA Q hQ)
theorem inV_int2 (i j k : Int) : inV (V.int i) [V.int j, V.int k] = (decide (i = j) || decide (i = k)) := by
  rw [Bool.eq_iff_iff]
  simp only [inV, eqV, List.any_cons, List.any_nil, Bool.or_false, Bool.or_eq_true, beq_iff_eq, decide_eq_true_eq]
  constructor
  · rintro (h | h)
    · exact .inl h.symm
    · exact .inr h.symm
  · rintro (h | h)
    · exact .inl h.symm
    · exact .inr h.symm
theorem inV_str2 (z x y : Str) : inV (V.str z) [V.str x, V.str y] = (decide (z = x) || decide (z = y)) := by
  rw [Bool.eq_iff_iff]
  simp only [inV, eqV, List.any_cons, List.any_nil, Bool.or_false, Bool.or_eq_true, beq_iff_eq, decide_eq_true_eq]
  constructor
  · rintro (h | h)
    · exact .inl h.symm
    · exact .inr h.symm
  · rintro (h | h)
    · exact .inl h.symm
    · exact .inr h.symm
theorem wipe1 {σ : L2.St} {k : Nat} {v : Option V} {n : Str} : wipe ((wipe σ ([(n, k)].map (·.2))).set k v) ([(n, k)].map (·.2)) = wipe σ ([(n, k)].map (·.2)) := by
  show ((σ.set k none).set k v).set k none = σ.set k none
  rw [List.set_set, List.set_set]
end NB

set_option Elab.async false
set_option linter.all false
set_option maxRecDepth 100000
namespace K11
open PySem PySem.Spec PyProof.Rows L2 NB
def topS (i : Nat) : Stmt := PySem.Challenge.pw_notbothout_k11_wants_and_what_follows.main.body.getD i (.Pass ⟨0, 0, 0, 0⟩)

/-- all that was tracked stands, but for what is at a -/
def But (a : Addr) (H H' : Hp) : Prop := ∀ b o, b ≠ a → H b = some o → H' b = some o
theorem But.of {a : Addr} {H H' : Hp} (h : Same H H') : But a H H' := fun b o _ e => h b o e
theorem But.trans {a : Addr} {H H1 H2 : Hp} (h : But a H H1) (h' : But a H1 H2) : But a H H2 := fun b o n e => h' b o n (h b o n e)
theorem But.seq {K : PySem.W.Frag} {a l : Addr} {H H' : Hp} {xs : List V} (h : But a H H') (n : l ≠ a) (q : SqL K H l xs) : SqL K H' l xs := by
  rcases q with (q | ⟨o, q⟩) | q
  · exact .inl (.inl (h _ _ n q))
  · exact .inl (.inr ⟨o, h _ _ n q⟩)
  · exact .inr q
theorem But.tup {K : PySem.W.Frag} {a l : Addr} {H H' : Hp} {xs : List V} (h : But a H H') (n : l ≠ a) (q : SqT K H l xs) : SqT K H' l xs := by
  rcases q with (q | ⟨o, q⟩) | q
  · exact .inl (.inl (h _ _ n q))
  · exact .inl (.inr ⟨o, h _ _ n q⟩)
  · exact .inr q
theorem sameT {K : PySem.W.Frag} {l : Addr} {H H' : Hp} {xs : List V} (h : Same H H') (q : SqT K H l xs) : SqT K H' l xs := by
  rcases q with (q | ⟨o, q⟩) | q
  · exact .inl (.inl (h _ _ q))
  · exact .inl (.inr ⟨o, h _ _ q⟩)
  · exact .inr q
theorem same_new {H : Hp} {p : Addr} {o : HO} (h : H p = none) : Same H (upd H p o) := fun b x e => by
  rw [upd_ne (ne_of_none e h)]
  exact e
/-- a cell that was free and is written stands apart from what was -/
theorem same_over {H H' : Hp} {p : Addr} {o : HO} (h : Same H H') (n : H p = none) : Same H (upd H' p o) := fun b x e => by
  rw [upd_ne (ne_of_none e n)]
  exact h b x e

theorem mapGet {α β : Type} {f : α → β} {xs : List α} {i : Nat} {y : β} (h : (xs.map f)[i]? = some y) : ∃ x, xs[i]? = some x ∧ y = f x := by
  rw [List.getElem?_map] at h
  cases e : xs[i]? with
  | none => rw [e] at h; cases h
  | some x => rw [e] at h; exact ⟨x, rfl, (Option.some.inj h).symm⟩

theorem take_map {α β : Type} (f : α → β) (xs : List α) (i : Nat) (y : α) (h : xs[i]? = some y) : (xs.take (i + 1)).map f = (xs.take i).map f ++ [f y] := by
  rw [List.take_add_one, h, List.map_append]
  rfl
theorem take_small {α : Type} {xs : List α} {i : Nat} (h : xs.length ≤ 1000) {β : Type} (f : α → β) : ((xs.take i).map f).length < sizeLine := by
  rw [List.length_map, List.length_take]
  exact Nat.lt_of_le_of_lt (Nat.min_le_right _ _) (small1000 h)

abbrev sPot : Stmt := topS 35
abbrev sTake : Stmt := topS 36
abbrev sOf : Stmt := topS 37
abbrev sStand : Stmt := topS 38
theorem scPot : FnScope ["_law_script", "_law_k", "_law_cell", "_law_great"] ["_law_script", "_law_k"] (defScope sPot) := ⟨rfl, rfl, rfl, by decide +kernel, rfl, by decide +kernel, by decide +kernel⟩
theorem scTake : FnScope ["_law_pot_here", "_law_many", "_law_digit", "_law_prime", "_law_mixed"] ["_law_pot_here", "_law_many"] (defScope sTake) := ⟨rfl, rfl, rfl, by decide +kernel, rfl, by decide +kernel, by decide +kernel⟩
theorem scOf : FnScope ["_law_pot_here", "_law_some"] ["_law_pot_here", "_law_some"] (defScope sOf) := ⟨rfl, rfl, rfl, by decide +kernel, rfl, by decide +kernel, by decide +kernel⟩
theorem scStand : FnScope ["_law_pot_here", "_law_tops_here", "_law_top"] ["_law_pot_here", "_law_tops_here"] (defScope sStand) := ⟨rfl, rfl, rfl, by decide +kernel, rfl, by decide +kernel, by decide +kernel⟩

/-- a pot out of which at most c numbers were taken by reckoning -/
def PotAt (H : Hp) (a : Addr) (c : Nat) : Prop := ∃ p q r : Int, H a = some (.lst [.int p, .int q, .int r]) ∧ 0 ≤ p ∧ 0 ≤ r ∧ r ≤ c
theorem PotAt.mono {H : Hp} {a : Addr} {c d : Nat} (h : PotAt H a c) (le : c ≤ d) : PotAt H a d := by
  obtain ⟨p, q, r, e, h1, h2, h3⟩ := h
  exact ⟨p, q, r, e, h1, h2, by omega⟩
theorem PotAt.keep {H H' : Hp} {a : Addr} {c : Nat} (h : PotAt H a c) (s : Same H H') : PotAt H' a c := by
  obtain ⟨p, q, r, e, h1, h2, h3⟩ := h
  exact ⟨p, q, r, s _ _ e, h1, h2, h3⟩
theorem PotAt.ne {H : Hp} {a b : Addr} {c : Nat} (h : PotAt H a c) (n : H b = none) : b ≠ a := by
  obtain ⟨p, q, r, e, _⟩ := h
  exact (ne_of_none e n).symm
theorem But.free {a b : Addr} {H H' : Hp} (h : But a H H') (ne : b ≠ a) (n : H' b = none) : H b = none := by
  cases e : H b with
  | none => rfl
  | some o =>
    rw [h b o ne e] at n
    cases n
theorem but_new {a p : Addr} {H H' : Hp} {o : HO} (h : But a H H') (n : H p = none) : But a H (upd H' p o) := fun b x ne e => by
  rw [upd_ne (ne_of_none e n)]
  exact h b x ne e
theorem but_at {a : Addr} {H H' : Hp} {o : HO} (h : But a H H') : But a H (upd H' a o) := fun b x ne e => by
  rw [upd_ne ne]
  exact h b x ne e

theorem prime_at (j : Int) (h0 : 0 ≤ j) (h4 : j < 4) : ∃ pr : Int, atI [V.int 2305843009213693951, V.int 999999999989, V.int 1000000000039, V.int 67280421310721] j = some (.int pr) ∧ 0 < pr ∧ pr < 2 ^ 62 := by
  have : j = 0 ∨ j = 1 ∨ j = 2 ∨ j = 3 := by omega
  rcases this with rfl | rfl | rfl | rfl
  · exact ⟨_, atI_nat (j := 0) rfl, by decide, by decide⟩
  · exact ⟨_, atI_nat (j := 1) rfl, by decide, by decide⟩
  · exact ⟨_, atI_nat (j := 2) rfl, by decide, by decide⟩
  · exact ⟨_, atI_nat (j := 3) rfl, by decide, by decide⟩

section
variable {P : Program} {w : World} {K : PySem.W.Frag} {mg : Str → Option Value} {base : Heap}

def spPot (K : PySem.W.Frag) : Sp := fun vs H Q _ => ∃ (a : Addr) (ns : List Int) (k : Nat), vs = [.ref a, .int k] ∧ SqL K H a (ns.map V.int) ∧ k ≤ 1000 ∧
  ∀ H' p, Same H H' → H p = none → PotAt H' p 0 → Q (.ref p) H'
theorem ok_pot {f : Addr} {fd : FuncData} {k : Nat} (F : Fun K "_law_pot" "_law_pot" sPot f fd) (ml : mg "len" = none) (ma : mg "abs" = none) (mi : mg "int" = none) : FnOk P w K mg base CX0 (k + 1) f fd ["_law_script", "_law_k"] (spPot K) := by
  refine F.ok scPot (fun vs H Q E h => ?_) (fun cdv A outer s H vs Q E hr h => ?_)
  · obtain ⟨a, ns, k, rfl, _⟩ := h
    rfl
  · obtain ⟨a, ns, k, rfl, hS, hk, q⟩ := h
    refine ⟨_, pss_cons (ps_set (i := 2) scPot.nd rfl (.inl rfl) (pe_ifExp (pt_cmpR op_lt (pv 1) (pe_callB call_len_seq (by rfl) ml PySem.boot_len (pa_cons (pv 0) pa_nil)) (nomark _)) (pe_ix ix_list (pv 0) (pv 1) (fun _ _ => rfl)) (pe_op op_add (pe_op op_mul pe_int (pv 1)) pe_int)))
      (pss_cons (ps_set (i := 3) scPot.nd rfl (.inl rfl) (pe_op op_mul (pe_op op_mod (pe_callB call_abs (by rfl) ma (by decide +kernel) (pa_cons (pv 2) pa_nil)) (pe_op op_powW (pe_op op_pow pe_int pe_int) pe_int))
          (pe_callTy call_int1 (by rfl) mi (by decide +kernel) (pa_cons (pe_cmpR op_ge (pe_callB call_abs (by rfl) ma (by decide +kernel) (pa_cons (pv 2) pa_nil)) (pe_op op_pow pe_int pe_int) (nomark _)) pa_nil))))
      (pss_one (ps_ret (pe_lst (pa_cons (pv 3) (pa_cons (pe_op op_mod (pe_op op_mul (pe_op op_add (pe_op op_add (pe_op op_mod (pv 2) pe_int) (pe_op op_mul (pe_op op_mul pe_int (pv 1)) (pv 1))) pe_int) pe_int) pe_int) (pa_cons pe_int pa_nil))))))), ?_⟩
    have k1 : -(2 ^ 64) < (k : Int) ∧ (k : Int) < 2 ^ 64 := by omega
    have big : (0 : Int) < (10 ^ (60 : Int).toNat) ^ (5 : Int).toNat := by decide +kernel
    have one : ∀ b : Bool, -(2 ^ 64) < (if b = true then (1 : Int) else 0) ∧ (if b = true then (1 : Int) else 0) < 2 ^ 64 := fun b => by cases b <;> decide
    have nn : ∀ (x : Int) (b : Bool), 0 ≤ x % (10 ^ (60 : Int).toNat) ^ (5 : Int).toNat * (if b = true then (1 : Int) else 0) := fun x b => Int.mul_nonneg (Int.emod_nonneg _ (Int.ne_of_gt big)) (by cases b <;> decide)
    refine ⟨.int k, rfl, .ref a, rfl, a, _, rfl, .inl hS, _, _, rfl, rfl, _, rfl, ite2 (fun c => ?_) (fun c => ?_)⟩
    · have c' := of_decide_eq_true c
      rw [List.length_map] at c'
      have lt : k < ns.length := by omega
      refine ⟨.ref a, rfl, .int k, rfl, a, _, k, .int ns[k], rfl, rfl, hS, atI_nat (by rw [List.getElem?_map, List.getElem?_eq_getElem lt]; rfl), ?_⟩
      refine ⟨.int ns[k], rfl, _, rfl, 10, 60, rfl, rfl, ⟨by decide, by decide, by decide⟩, _, 5, rfl, rfl, ⟨by decide, by decide +kernel⟩, _, _, rfl, rfl, big, .int ns[k], rfl, _, rfl, 10, 18, rfl, rfl, ⟨by decide, by decide, by decide⟩, _, _, rfl, rfl, .inr ⟨_, rfl, _, _, rfl, rfl, .inr (one _), ?_⟩⟩
      refine ⟨_, rfl, .int ns[k], rfl, _, 2305843009213693951, rfl, rfl, (show (0 : Int) < 2305843009213693951 by decide), .int k, rfl, 7919, k, rfl, rfl, .inl ⟨by decide, by decide⟩, .int k, rfl, _, k, rfl, rfl, .inr k1, _, _, rfl, rfl, _, 17, rfl, rfl, _, 48271, rfl, rfl, .inr ⟨by decide, by decide⟩, _, 2305843009213693921, rfl, rfl, (show (0 : Int) < 2305843009213693921 by decide), (show 3 ≤ sizeLine by decide), fun p np => ?_⟩
      exact q _ p (same_new np) np ⟨_, _, 0, upd_same, nn _ _, Int.le_refl _, Int.le_refl _⟩
    · refine ⟨.int k, rfl, 7, _, rfl, rfl, .inl ⟨by decide, by decide⟩, _, 3, rfl, rfl, ?_⟩
      refine ⟨_, rfl, _, rfl, 10, 60, rfl, rfl, ⟨by decide, by decide, by decide⟩, _, 5, rfl, rfl, ⟨by decide, by decide +kernel⟩, _, _, rfl, rfl, big, _, rfl, _, rfl, 10, 18, rfl, rfl, ⟨by decide, by decide, by decide⟩, _, _, rfl, rfl, .inr ⟨_, rfl, _, _, rfl, rfl, .inr (one _), ?_⟩⟩
      refine ⟨_, rfl, _, rfl, _, 2305843009213693951, rfl, rfl, (show (0 : Int) < 2305843009213693951 by decide), .int k, rfl, 7919, k, rfl, rfl, .inl ⟨by decide, by decide⟩, .int k, rfl, _, k, rfl, rfl, .inr k1, _, _, rfl, rfl, _, 17, rfl, rfl, _, 48271, rfl, rfl, .inr ⟨by decide, by decide⟩, _, 2305843009213693921, rfl, rfl, (show (0 : Int) < 2305843009213693921 by decide), (show 3 ≤ sizeLine by decide), fun p np => ?_⟩
      exact q _ p (same_new np) np ⟨_, _, 0, upd_same, nn _ _, Int.le_refl _, Int.le_refl _⟩

/-- a drawn number -/
def spTake : Sp := fun vs H Q _ => ∃ (a : Addr) (m : Int) (c : Nat), vs = [.ref a, .int m] ∧ PotAt H a c ∧ 1 ≤ m ∧ m < 2 ^ 200 ∧ c < 1000000 ∧
  ∀ (d : Int) H', But a H H' → PotAt H' a (c + 1) → 0 ≤ d → d < m → Q (.int d) H'
theorem ok_take {f : Addr} {fd : FuncData} {k : Nat} (F : Fun K "_law_take" "_law_take" sTake f fd) : FnOk P w K mg base CX0 (k + 1) f fd ["_law_pot_here", "_law_many"] spTake := by
  refine F.ok scTake (fun vs H Q E h => ?_) (fun cdv A outer s H vs Q E hr h => ?_)
  · obtain ⟨a, m, c, rfl, _⟩ := h
    rfl
  · obtain ⟨a, m, c, rfl, ⟨p0, p1, p2, ea, n0, n2, l2⟩, m1, m2, hc, q⟩ := h
    refine ⟨_, pss_cons (ps_if (pt_cmpR op_gt (pe_ix ix_list (pv 0) pe_int (fun _ _ => rfl)) pe_int (nomark _))
        (pss_cons (ps_set (i := 2) scTake.nd rfl (.inl rfl) (pe_op op_mod (pe_ix ix_list (pv 0) pe_int (fun _ _ => rfl)) (pv 1)))
        (pss_cons (ps_asg (pe_op op_fdivW (pe_ix ix_list (pv 0) pe_int (fun _ _ => rfl)) (pv 1)) (pg_sub (pv 0) pe_int set_list))
        (pss_one (ps_ret (pv 2))))) pss_nil)
      (pss_cons (ps_asg (pe_op op_add (pe_ix ix_list (pv 0) pe_int (fun _ _ => rfl)) pe_int) (pg_sub (pv 0) pe_int set_list))
      (pss_cons (ps_set (i := 3) scTake.nd rfl (.inl rfl) (pe_ix ix_list (pe_lst (pa_cons pe_int (pa_cons pe_int (pa_cons pe_int (pa_cons pe_int pa_nil))))) (pe_op op_mod (pe_ix ix_list (pv 0) pe_int (fun _ _ => rfl)) pe_int) (fun _ _ => rfl)))
      (pss_cons (ps_set (i := 4) scTake.nd rfl (.inl rfl) (pe_op op_mod (pe_op op_add (pe_op op_add (pe_ix ix_list (pv 0) pe_int (fun _ _ => rfl)) (pe_op op_mul (pe_op op_mul pe_int (pe_ix ix_list (pv 0) pe_int (fun _ _ => rfl))) (pe_ix ix_list (pv 0) pe_int (fun _ _ => rfl)))) (pe_op op_mul pe_int (pe_ix ix_list (pv 0) pe_int (fun _ _ => rfl)))) (pv 3)))
      (pss_cons (ps_set (i := 4) scTake.nd rfl (.inl rfl) (pe_op op_mod (pe_op op_pow (pv 4) pe_int) (pv 3)))
      (pss_one (ps_ret (pe_op op_mod (pe_op op_add (pe_op op_fdiv (pv 4) pe_int) (pe_op op_mul (pe_op op_fdiv (pv 4) pe_int) pe_int)) (pv 1)))))))), ?_⟩
    have mpos : (0 : Int) < m := by omega
    refine ⟨.ref a, rfl, a, _, 0, .int p0, rfl, rfl, .inl (.inl ea), atI_nat (j := 0) rfl, _, 0, rfl, rfl, _, rfl, ite2 (fun _ => ?_) (fun _ => ?_)⟩
    · refine ⟨.ref a, rfl, a, _, 0, .int p0, rfl, rfl, .inl (.inl ea), atI_nat (j := 0) rfl, .int m, rfl, p0, m, rfl, rfl, mpos, ?_⟩
      refine ⟨.ref a, rfl, a, _, 0, .int p0, rfl, rfl, .inl (.inl ea), atI_nat (j := 0) rfl, .int m, rfl, p0, m, rfl, rfl, wide_div (b := 200) mpos (by omega) (by decide) (by decide), ?_⟩
      refine ⟨.ref a, rfl, a, _, 0, 0, rfl, rfl, ea, rfl, ?_⟩
      refine ⟨.int (p0 % m), rfl, ?_⟩
      refine q _ _ (but_at (fun _ _ _ e => e)) ⟨p0 / m, p1, p2, upd_same, Int.ediv_nonneg n0 (by omega), n2, by omega⟩ (Int.emod_nonneg _ (by omega)) (Int.emod_lt_of_pos _ mpos)
    · refine ⟨.ref a, rfl, a, _, 2, .int p2, rfl, rfl, .inl (.inl ea), atI_nat (j := 2) rfl, p2, 1, rfl, rfl, ?_⟩
      refine ⟨.ref a, rfl, a, _, 2, 2, rfl, rfl, ea, rfl, ?_⟩
      obtain ⟨pr, epr, pp, pl⟩ := prime_at ((p2 + 1) % 4) (Int.emod_nonneg _ (by decide)) (Int.emod_lt_of_pos _ (by decide))
      have ea2 : (upd H a (.lst [.int p0, .int p1, .int (p2 + 1)])) a = some (.lst [.int p0, .int p1, .int (p2 + 1)]) := upd_same
      refine ⟨(show 4 ≤ sizeLine by decide), fun l nl => ?_⟩
      have nla : a ≠ l := ne_of_none ea2 nl
      have ea3 : (upd (upd H a (.lst [.int p0, .int p1, .int (p2 + 1)])) l (.lst [V.int 2305843009213693951, V.int 999999999989, V.int 1000000000039, V.int 67280421310721])) a = some (.lst [.int p0, .int p1, .int (p2 + 1)]) := (upd_ne nla).trans ea2
      refine ⟨.ref a, rfl, a, _, 2, .int (p2 + 1), rfl, rfl, .inl (.inl ea3), atI_nat (j := 2) rfl, p2 + 1, 4, rfl, rfl, (show (0 : Int) < 4 by decide), l, _, (p2 + 1) % 4, .int pr, rfl, rfl, .inl (.inl upd_same), epr, ?_⟩
      have b2 : -(2 ^ 64) < p2 + 1 ∧ p2 + 1 < 2 ^ 64 := by omega
      refine ⟨.ref a, rfl, a, _, 1, .int p1, rfl, rfl, .inl (.inl ea3), atI_nat (j := 1) rfl, .ref a, rfl, a, _, 2, .int (p2 + 1), rfl, rfl, .inl (.inl ea3), atI_nat (j := 2) rfl, 7919, p2 + 1, rfl, rfl, .inl ⟨by decide, by decide⟩, .ref a, rfl, a, _, 2, .int (p2 + 1), rfl, rfl, .inl (.inl ea3), atI_nat (j := 2) rfl, _, p2 + 1, rfl, rfl, .inr b2, _, _, rfl, rfl,
        .ref a, rfl, a, _, 2, .int (p2 + 1), rfl, rfl, .inl (.inl ea3), atI_nat (j := 2) rfl, 65537, p2 + 1, rfl, rfl, .inl ⟨by decide, by decide⟩, _, _, rfl, rfl, .int pr, rfl, _, pr, rfl, rfl, pp, ?_⟩
      have mx : ∀ e : Int, (e % pr).natAbs < 2 ^ 64 := fun e => by
        have h1 := Int.emod_nonneg e (Int.ne_of_gt pp)
        have h2 := Int.emod_lt_of_pos e pp
        omega
      refine ⟨_, rfl, _, 5, rfl, rfl, ⟨by decide, by decide, mx _⟩, .int pr, rfl, _, pr, rfl, rfl, pp, ?_⟩
      refine ⟨_, rfl, _, 4099, rfl, rfl, ⟨by decide, by decide⟩, _, rfl, _, 1000003, rfl, rfl, ⟨by decide, by decide⟩, _, 7, rfl, rfl, .inr ⟨by decide, by decide⟩, _, _, rfl, rfl, .int m, rfl, _, m, rfl, rfl, mpos, ?_⟩
      refine q _ _ ?_ ⟨p0, p1, p2 + 1, ea3, n0, by omega, by omega⟩ (Int.emod_nonneg _ (by omega)) (Int.emod_lt_of_pos _ mpos)
      exact but_new (but_at (fun _ _ _ e => e)) (by rw [upd_ne nla.symm] at nl; exact nl)
end

/-- a def that is known by its promise -/
structure Kn (P : Program) (w : World) (K : PySem.W.Frag) (mg : Str → Option Value) (base : Heap) (k : Nat) (x : Str) (ps : List Str) (sp : Sp) (f : Addr) (fd : FuncData) : Prop where
  ok : FnOk P w K mg base CX0 k f fd ps sp
  gl : mg x = some (.ref f)
  kp : PySem.W.keepIn K (.ref f) = true
  bi : Binds K fd ps []
theorem pe_kn {X : Cx} {k j : Nat} {x : Str} {ps : List Str} {sp : Sp} {f : Addr} {fd : FuncData} {p pos : Pos} {e : Expr} {es : List Expr} {t : TA} (C : Kn X.prog X.w X.K X.mg X.base k x ps sp f fd) (hr : Room j X.A) (hj : k ≤ j) (ha : PA X (e :: es) t) (hg : Gl X x := by rfl) (hdb : (x == ("__debug__" : Str)) = false := by decide)
    (he : starEach (e :: es) X.env = (false, eval e X.env) :: starEach es X.env := by rfl) (hpl : (backTo pos (starEach es X.env)).any (·.1) = false := by rfl) :
    PE X (.Call (.Name x p) (e :: es) [] pos) (tCall sp [] E0 t) := pe_call C.ok (hr.mono hj) hg C.gl C.kp C.bi .nil pass0 ha hdb he hpl

theorem But.tupP {K : PySem.W.Frag} {a t : Addr} {H H' : Hp} {c : Nat} {xs : List V} (b : But a H H') (p : PotAt H a c) (q : SqT K H t xs) : SqT K H' t xs := by
  obtain ⟨_, _, _, e, _⟩ := p
  rcases q with (q | ⟨o, q⟩) | q
  · exact .inl (.inl (b _ _ (ne_of q e (by intro z; cases z)) q))
  · exact .inl (.inr ⟨o, b _ _ (ne_of q e (by intro z; cases z)) q⟩)
  · exact .inr q
/-- places, or tops -/
def Pl (xs : List Int) : Prop := ∀ x ∈ xs, 0 ≤ x ∧ x < 10 ^ 30
theorem Pl.snoc {xs : List Int} {x : Int} (h : Pl xs) (h0 : 0 ≤ x) (h1 : x < 10 ^ 30) : Pl (xs ++ [x]) := fun y hy => by
  rcases List.mem_append.mp hy with q | q
  · exact h y q
  · rw [List.mem_singleton.mp q]
    exact ⟨h0, h1⟩

section
variable {P : Program} {w : World} {K : PySem.W.Frag} {mg : Str → Option Value} {base : Heap}

/-- one of some -/
def spOf (K : PySem.W.Frag) : Sp := fun vs H Q _ => ∃ (a l : Addr) (xs : List V) (c : Nat), vs = [.ref a, .ref l] ∧ PotAt H a c ∧ l ≠ a ∧ (SqL K H l xs ∨ SqT K H l xs) ∧ 1 ≤ xs.length ∧ xs.length ≤ 1000000 ∧ c < 1000000 ∧
  ∀ x H', x ∈ xs → But a H H' → PotAt H' a (c + 1) → Q x H'
theorem ok_of {f fT : Addr} {fd fdT : FuncData} {k : Nat} (F : Fun K "_law_of" "_law_of" sOf f fd) (T : Kn P w K mg base 1 "_law_take" ["_law_pot_here", "_law_many"] spTake fT fdT) (ml : mg "len" = none) : FnOk P w K mg base CX0 (k + 2) f fd ["_law_pot_here", "_law_some"] (spOf K) := by
  refine F.ok scOf (fun vs H Q E h => ?_) (fun cdv A outer s H vs Q E hr h => ?_)
  · obtain ⟨a, l, xs, c, rfl, _⟩ := h
    rfl
  · obtain ⟨a, l, xs, c, rfl, pa, ne, hl, l1, l2, hc, q⟩ := h
    refine ⟨_, pss_one (ps_ret (pe_ix ix_seq (pv 1) (pe_kn T hr (Nat.le_add_left 1 k) (pa_cons (pv 0) (pa_cons (pe_callB call_len_seq (by rfl) ml PySem.boot_len (pa_cons (pv 1) pa_nil)) pa_nil))) (fun _ _ => rfl))), ?_⟩
    refine ⟨.ref l, rfl, .ref a, rfl, .ref l, rfl, l, xs, rfl, hl, a, _, c, rfl, pa, by omega, ?_, hc, fun d H' b p' d0 dm => ?_⟩
    · have : (xs.length : Int) ≤ 1000000 := by omega
      exact Int.lt_of_le_of_lt this (by decide)
    have lt : d.toNat < xs.length := by omega
    have ei : atI xs d = some xs[d.toNat] := by
      have := atI_nat (xs := xs) (j := d.toNat) (List.getElem?_eq_getElem lt)
      rwa [Int.toNat_of_nonneg d0] at this
    have fin := q xs[d.toNat] H' (List.getElem_mem lt) b p'
    rcases hl with h | h
    · exact .inl ⟨l, xs, d, _, rfl, rfl, b.seq ne h, ei, fin⟩
    · exact .inr (.inl ⟨l, xs, d, _, rfl, rfl, b.tup ne h, ei, fin⟩)

/-- none beyond its top -/
def Le (st tops : List Int) : Prop := ∀ (i : Nat) (x t : Int), st[i]? = some x → tops[i]? = some t → x ≤ t
theorem Le.snoc {st tops : List Int} {x t : Int} (h : Le st tops) (e : tops[st.length]? = some t) (l : x ≤ t) : Le (st ++ [x]) tops := fun i y u h1 h2 => by
  rcases Nat.lt_or_ge i st.length with q | q
  · rw [List.getElem?_append_left q] at h1
    exact h i y u h1 h2
  · rw [List.getElem?_append_right q] at h1
    have e0 : i - st.length = 0 := by
      rcases Nat.eq_zero_or_pos (i - st.length) with z | z
      · exact z
      · rw [List.getElem?_eq_none (by simp only [List.length_cons, List.length_nil]; omega)] at h1
        cases h1
    have ei : i = st.length := by omega
    subst ei
    rw [e0] at h1
    cases h1
    rw [e] at h2
    cases h2
    exact l
/-- a standing -/
def spStand (K : PySem.W.Frag) : Sp := fun vs H Q _ => ∃ (a t : Addr) (tops : List Int) (c : Nat), vs = [.ref a, .ref t] ∧ PotAt H a c ∧ SqT K H t (tops.map V.int) ∧ Pl tops ∧ tops.length ≤ 12 ∧ c < 900000 ∧
  ∀ H' p st, But a H H' → PotAt H' a (c + 12) → H p = none → H' p = some (.tup (st.map V.int)) → st.length = tops.length → Pl st → Le st tops → Q (.ref p) H'
theorem ok_stand {f fT : Addr} {fd fdT : FuncData} {k : Nat} (F : Fun K "_law_standing" "_law_standing" sStand f fd) (T : Kn P w K mg base 1 "_law_take" ["_law_pot_here", "_law_many"] spTake fT fdT) (mt : mg "tuple" = none) : FnOk P w K mg base CX0 (k + 2) f fd ["_law_pot_here", "_law_tops_here"] (spStand K) := by
  refine F.ok scStand (fun vs H Q E h => ?_) (fun cdv A outer s H vs Q E hr h => ?_)
  · obtain ⟨a, t, tops, c, rfl, _⟩ := h
    rfl
  · obtain ⟨a, t, tops, c, rfl, pa, ht, pl, l12, hc, q⟩ := h
    refine ⟨_, pss_one (ps_ret (pe_callTy call_tuple_of (by rfl) mt (by decide +kernel) (pa_cons
      (pe_lc (own := [("_law_top", 2)]) (g := gName 2) (tt := tYes) rfl scStand.nd (pi_tup (pv 1)) (blkOk_by (N := ["_law_pot_here", "_law_tops_here", "_law_top"]) (sc := defScope sStand) (by decide +kernel))
        (fun _ _ _ _ _ => pg_name (i := 2) scStand.nd rfl (.inl rfl) (hf := .inr rfl)) (fun _ _ _ _ _ => pts_nil)
        (fun _ _ _ _ _ => pe_kn T hr (Nat.le_add_left 1 k) (pa_cons (pv 0) (pa_cons (pe_op op_add (pv 2) pe_int) pa_nil)))) pa_nil))), ?_⟩
    refine ⟨.ref t, rfl, t, rfl, ⟨_, ht⟩, fun D nD => lc_it (walk_tup (xs := tops.map V.int)) (fun i H' => But a H H' ∧ PotAt H' a (c + i) ∧ ∃ st : List Int, H' D = some (.lst (st.map V.int)) ∧ st.length = i ∧ Pl st ∧ Le st tops)
      ⟨but_new (fun _ _ _ e => e) nD, pa.keep (same_new nD), [], upd_same, rfl, fun _ h => absurd h List.not_mem_nil, fun i x t h => by simp at h⟩ (fun i H' _ p => p.1.tupP pa ht) (fun i v H1 H2 hi p y => ?_) (fun H' p => ?_)⟩
    · obtain ⟨b, p1, st, eD, sl, sp, sle⟩ := p
      obtain ⟨rfl, gv⟩ := y
      obtain ⟨x, ex, rfl⟩ := mapGet gv
      have hx := pl x (List.mem_of_getElem? ex)
      have hi' : i < tops.length := by simpa using hi
      refine ⟨rfl, .ref a, rfl, .int x, rfl, x, 1, rfl, rfl, a, x + 1, c + i, rfl, p1, by omega, ?_, by omega, fun d H3 b3 p3 d0 dm => ?_⟩
      · have : x + 1 ≤ 10 ^ 30 := by omega
        exact Int.lt_of_le_of_lt this (by decide)
      have nDa : D ≠ a := pa.ne nD
      refine ⟨_, b3 _ _ nDa eD, ?_, but_new (b.trans b3) nD, ?_, st ++ [d], ?_, ?_, sp.snoc d0 (by omega), sle.snoc (by rw [sl]; exact ex) (by omega)⟩
      · rw [List.length_map]
        exact small1000 (by omega)
      · obtain ⟨u, v, r, e, z⟩ := p3
        exact ⟨u, v, r, (upd_ne nDa.symm).trans e, z⟩
      · rw [upd_same, List.map_append]
        rfl
      · rw [List.length_append, sl]
        rfl
    · obtain ⟨b, p1, st, eD, sl, sp, sle⟩ := p
      rw [List.length_map] at p1 sl
      refine ⟨D, _, rfl, .inl ⟨.inl (.inl eD), fun l nl => ?_⟩⟩
      have nla : l ≠ a := p1.ne nl
      have nlH : H l = none := b.free nla nl
      refine q _ l st (but_new b nlH) (((p1.mono (by omega)).keep (same_new nl))) nlH upd_same sl sp sle
end

section
variable {P : Program} {w : World} {K : PySem.W.Frag} {mg : Str → Option Value} {base : Heap}

theorem pot_upd {H : Hp} {a p : Addr} {c : Nat} {o : HO} (h : PotAt H a c) (n : p ≠ a) : PotAt (upd H p o) a c := by
  obtain ⟨x, y, z, e, r⟩ := h
  exact ⟨x, y, z, (upd_ne n.symm).trans e, r⟩
theorem e15 : (10 : Int) ^ (15 : Int).toNat = 1000000000000000 := by decide
theorem e30 : (10 : Int) ^ (30 : Int).toNat = 10 ^ 30 := by decide

end
end K11

set_option Elab.async false
set_option linter.all false
set_option maxRecDepth 100000
namespace K11
open PySem PySem.Spec PyProof.Rows L2 NB

/-! ### kinds, of anything -/
def wholeD : PyData → Bool
  | .int _ => true
  | _ => false
def noneD : PyData → Bool
  | .none => true
  | _ => false
def strIs (z : Str) : PyData → Bool
  | .str x => decide (x = z)
  | _ => false
def placeD (t : Int) : PyData → Bool
  | .int i => decide (0 ≤ i) && decide (i ≤ t)
  | _ => false
def natD : PyData → Nat
  | .int i => i.toNat
  | _ => 0
def wordD (d : PyData) : Bool := strIs "from" d || strIs "to" d
def sideD (tops : List Int) : PyData → Bool
  | .tuple ds => decide (ds.length = 3) && (placeD ((tops.length : Int) - 1) (ds.getD 0 .none) && (wordD (ds.getD 1 .none) && placeD (tops.getD (natD (ds.getD 0 .none)) 0) (ds.getD 2 .none)))
  | _ => false
theorem tup_or (d : PyData) : (∃ ds, d = .tuple ds) ∨ isTupD d = false := by
  cases d with
  | tuple ds => exact .inl ⟨ds, rfl⟩
  | _ => exact .inr rfl
theorem str_or (d : PyData) : (∃ z, d = .str z) ∨ isStrD d = false := by
  cases d with
  | str z => exact .inl ⟨z, rfl⟩
  | _ => exact .inr rfl
theorem side_no {tops : List Int} {d : PyData} (h : isTupD d = false) : sideD tops d = false := by
  cases d with
  | tuple ds => cases h
  | _ => rfl
theorem word_no {d : PyData} (h : isStrD d = false) : wordD d = false := by
  cases d with
  | str z => cases h
  | _ => rfl
theorem place_int {t : Int} {d : PyData} (h : placeD t d = true) : ∃ i : Nat, d = .int i ∧ (i : Int) ≤ t := by
  cases d with
  | int i =>
    have h' : (decide (0 ≤ i) && decide (i ≤ t)) = true := h
    simp at h'
    exact ⟨i.toNat, by rw [Int.toNat_of_nonneg h'.1], by omega⟩
  | _ => cases h
theorem all_take {α : Type} (g : α → Bool) (xs : List α) (i : Nat) (y : α) (h : xs[i]? = some y) : ((xs.take (i + 1)).map g).map V.bl = ((xs.take i).map g).map V.bl ++ [V.bl (g y)] := by
  rw [List.take_add_one, h, List.map_append, List.map_append]
  rfl
theorem all_id {α : Type} (g : α → Bool) (xs : List α) : (xs.map g).all id = xs.all g := by
  rw [List.all_map]
  rfl
theorem getD_at {xs : List Int} {i : Nat} (h : i < xs.length) : xs.getD i 0 = xs[i] := by
  rw [List.getD_eq_getElem?_getD, List.getElem?_eq_getElem h]
  rfl
section
variable {P : Program} {w : World} {K : PySem.W.Frag} {mg : Str → Option Value} {base : Heap}
/-- a look at data that leaves all as it is -/
def spLook (g : PyData → Bool) : Sp := fun vs H Q _ => ∃ (n : Addr) (v : V) (d : PyData), vs = [v] ∧ Da n H v d ∧ ∀ H', Same H H' → Q (.bl (g d)) H'
def spLookI (g : Int → PyData → Bool) : Sp := fun vs H Q _ => ∃ (n : Addr) (t : Int) (v : V) (d : PyData), vs = [.int t, v] ∧ Da n H v d ∧ ∀ H', Same H H' → Q (.bl (g t d)) H'
def spLookT (g : List Int → PyData → Bool) : Sp := fun vs H Q _ => ∃ (n t : Addr) (tops : List Int) (v : V) (d : PyData), vs = [.ref t, v] ∧ H t = some (.tup (tops.map V.int)) ∧ Da n H v d ∧ ∀ H', Same H H' → Q (.bl (g tops d)) H'
abbrev a_is_whole : Stmt := topS 5
abbrev n_is_whole : List Str := ["thing"]
theorem sc_is_whole : FnScope n_is_whole ["thing"] (defScope a_is_whole) := ⟨rfl, rfl, rfl, by decide +kernel, rfl, by decide +kernel, by decide +kernel⟩
set_option maxHeartbeats 8000000 in
theorem ok_is_whole {f  : Addr} {fd  : FuncData} {k : Nat}  (F : Fun K "is_whole" "is_whole" a_is_whole f fd)   (m_bool : mg "bool" = none) (m_int : mg "int" = none) (m_isinstance : mg "isinstance" = none) : FnOk P w K mg base CX0 (k + 1) f fd ["thing"] (spLook wholeD) := by
  refine F.ok sc_is_whole (fun vs H Q E h => ?_) (fun cdv A outer s H vs Q E hr h => ?_)
  · obtain ⟨n, v, d, rfl, _⟩ := h
    rfl
  · obtain ⟨n, v, d, rfl, hd, q⟩ := h
    refine ⟨_, (pss_one (ps_ret (pe_and (pe_callB call_isiD (by rfl) m_isinstance (by decide +kernel) (pa_cons (pv 0) (pa_cons (pe_bltn (v := .ty "int") (u := .type "int") (by rfl) m_int (by decide +kernel) rfl) pa_nil))) (pe_one (pe_not (pe_callB call_isiD (by rfl) m_isinstance (by decide +kernel) (pa_cons (pv 0) (pa_cons (pe_bltn (v := .ty "bool") (u := .type "bool") (by rfl) m_bool (by decide +kernel) rfl) pa_nil)))))))), ?_⟩
    refine ⟨v, rfl, n, v, d, "int", _, rfl, hd, kit_int d, _, rfl, ?_⟩
    cases hd with
    | int i => exact iteT ⟨_, rfl, n, _, _, "bool", _, rfl, .int i, kit_bool _, _, rfl, q H (Same.refl H)⟩
    | bl b => exact iteT ⟨_, rfl, n, _, _, "bool", _, rfl, .bl b, kit_bool _, _, rfl, q H (Same.refl H)⟩
    | _ => exact iteF (q H (Same.refl H))
abbrev a_is_place : Stmt := topS 6
abbrev n_is_place : List Str := ["top", "thing"]
theorem sc_is_place : FnScope n_is_place ["top", "thing"] (defScope a_is_place) := ⟨rfl, rfl, rfl, by decide +kernel, rfl, by decide +kernel, by decide +kernel⟩
set_option maxHeartbeats 8000000 in
theorem ok_is_place {f fWh : Addr} {fd fdWh : FuncData} {k : Nat}  (F : Fun K "is_place" "is_place" a_is_place f fd) (Wh : Kn P w K mg base 1 "is_whole" ["thing"] (spLook wholeD) fWh fdWh)   : FnOk P w K mg base CX0 (k + 2) f fd ["top", "thing"] (spLookI placeD) := by
  refine F.ok sc_is_place (fun vs H Q E h => ?_) (fun cdv A outer s H vs Q E hr h => ?_)
  · obtain ⟨n, t, v, d, rfl, _⟩ := h
    rfl
  · obtain ⟨n, t, v, d, rfl, hd, q⟩ := h
    refine ⟨_, (pss_one (ps_ret (pe_and (pe_kn Wh hr (by omega) (pa_cons (pv 1) pa_nil)) (pe_one (pe_chain op_le op_le pe_int (pv 1) (pv 0)))))), ?_⟩
    refine ⟨v, rfl, n, v, d, rfl, hd, fun H1 s1 => ⟨_, rfl, ?_⟩⟩
    cases hd with
    | int i =>
      refine iteT ⟨_, rfl, 0, i, rfl, rfl, _, rfl, ite2 (fun c => ?_) (fun c => ?_)⟩
      · have := q H1 s1
        rw [show placeD t (.int i) = decide (i ≤ t) from by show (decide (0 ≤ i) && _) = _; rw [show decide (0 ≤ i) = true from c, Bool.true_and]] at this
        exact ⟨_, rfl, i, t, rfl, rfl, this⟩
      · have := q H1 s1
        rw [show placeD t (.int i) = false from by show (decide (0 ≤ i) && _) = _; rw [Bool.eq_false_iff.mpr c, Bool.false_and]] at this
        exact this
    | _ => exact iteF (q H1 s1)
abbrev a_is_side_of : Stmt := topS 8
abbrev n_is_side_of : List Str := ["tops", "thing", "number", "word", "place"]
theorem sc_is_side_of : FnScope n_is_side_of ["tops", "thing"] (defScope a_is_side_of) := ⟨rfl, rfl, rfl, by decide +kernel, rfl, by decide +kernel, by decide +kernel⟩
set_option maxHeartbeats 8000000 in
theorem ok_is_side_of {f fPc : Addr} {fd fdPc : FuncData} {k : Nat} {wa : Addr} (F : Fun K "is_side_of" "is_side_of" a_is_side_of f fd) (Pc : Kn P w K mg base 2 "is_place" ["top", "thing"] (spLookI placeD) fPc fdPc) (gv4 : mg "WORDS" = some (.ref wa)) (hW : ∀ H, SqT K H wa [.str "from", .str "to"]) (m_isinstance : mg "isinstance" = none) (m_len : mg "len" = none) (m_str : mg "str" = none) (m_tuple : mg "tuple" = none) : FnOk P w K mg base CX0 (k + 3) f fd ["tops", "thing"] (spLookT sideD) := by
  refine F.ok sc_is_side_of (fun vs H Q E h => ?_) (fun cdv A outer s H vs Q E hr h => ?_)
  · obtain ⟨n, t, tops, v, d, rfl, _⟩ := h
    rfl
  · obtain ⟨n, t, tops, v, d, rfl, et, hd, q⟩ := h
    refine ⟨_, (pss_cons (ps_if (PW.pt (pw_or (pt_not (pt_val (pe_callB call_isiD (by rfl) m_isinstance (by decide +kernel) (pa_cons (pv 1) (pa_cons (pe_bltn (v := .ty "tuple") (u := .type "tuple") (by rfl) m_tuple (by decide +kernel) rfl) pa_nil))))) (pw_or1 (pt_cmpR op_ne (pe_callB call_len_seq (by rfl) m_len (by decide +kernel) (pa_cons (pv 1) pa_nil)) pe_int (nomark _))))) (pss_one (ps_ret pe_bl)) pss_nil)
      (pss_cons (ps_asg (pv 1) (pg_tup rfl (pgs_cons (pg_name (i := 2) sc_is_side_of.nd rfl (.inl rfl)) (pgs_cons (pg_name (i := 3) sc_is_side_of.nd rfl (.inl rfl)) (pgs_cons (pg_name (i := 4) sc_is_side_of.nd rfl (.inl rfl)) pgs_nil)))))
      (pss_cons (ps_if (pt_not (pt_val (pe_kn Pc hr (by omega) (pa_cons (pe_op op_sub (pe_callB call_len_seq (by rfl) m_len (by decide +kernel) (pa_cons (pv 0) pa_nil)) pe_int) (pa_cons (pv 2) pa_nil))))) (pss_one (ps_ret pe_bl)) pss_nil)
      (pss_one (ps_ret (pe_and (pe_callB call_isiD (by rfl) m_isinstance (by decide +kernel) (pa_cons (pv 3) (pa_cons (pe_bltn (v := .ty "str") (u := .type "str") (by rfl) m_str (by decide +kernel) rfl) pa_nil))) (pe_and (pe_cmpR op_in_seq (pv 3) (pe_glob (v := .ref wa) rfl gv4 rfl) (by rfl)) (pe_one (pe_kn Pc hr (by omega) (pa_cons (pe_ix ix_tup (pv 0) (pv 2) (fun _ _ => rfl)) (pa_cons (pv 4) pa_nil))))))))))), ?_⟩
    rcases tup_or d with ⟨ds, rfl⟩ | hn
    · cases hd with
      | tup e ha =>
      rename_i a xs
      have ll := ha.len
      refine ⟨_, rfl, n, _, _, "tuple", _, rfl, .tup e ha, kit_tup _, _, rfl, iteF ⟨_, rfl, a, xs, rfl, .inr (.inl (.inl e)), rfl, _, rfl, ite2 (fun c => ?_) (fun c => ?_)⟩⟩
      · have c' : ¬ ds.length = 3 := fun z => by rw [ll, z] at c; exact absurd c (by decide)
        have : sideD tops (.tuple ds) = false := by simp [sideD, c']
        rw [this] at q
        exact q H (Same.refl H)
      · have c' : ds.length = 3 := Classical.byContradiction fun z => c (by
          have : ¬ ((xs.length : Int) = 3) := by omega
          simp [this])
        match ds, c', ha with
        | [d0, d1, d2], _, .cons h0 (.cons h1 (.cons h2 .nil)) =>
        rename_i v0 v1 v2
        have eW : sideD tops (.tuple [d0, d1, d2]) = (placeD ((tops.length : Int) - 1) d0 && (wordD d1 && placeD (tops.getD (natD d0) 0) d2)) := by simp [sideD]
        rw [eW] at q
        refine ⟨_, rfl, a, _, rfl, .inl (.inl e), rfl, _, _, rfl, _, _, rfl, _, _, rfl, rfl, ?_⟩
        refine ⟨_, rfl, t, _, rfl, .inr (.inl (.inl et)), _, 1, rfl, rfl, _, rfl, n, _, _, d0, rfl, h0, fun H1 s1 => ⟨_, rfl, ?_⟩⟩
        rw [List.length_map]
        cases hp : placeD ((tops.length : Int) - 1) d0 with
        | false =>
          rw [hp, Bool.false_and] at q
          exact iteT (q H1 s1)
        | true =>
        rw [hp, Bool.true_and] at q
        refine iteF ?_
        obtain ⟨i, rfl, hi⟩ := place_int hp
        cases h0
        have li : i < tops.length := by omega
        refine ⟨_, rfl, n, _, d1, "str", _, rfl, h1.same s1, kit_str d1, _, rfl, ?_⟩
        rcases str_or d1 with ⟨z, rfl⟩ | hs
        · refine iteT ?_
          cases h1
          have ew : wordD (.str z) = (decide (z = "from") || decide (z = "to")) := rfl
          rw [ew] at q
          refine ⟨_, rfl, wa, _, rfl, .inr (hW H1), rfl, by decide, _, rfl, ?_⟩
          show if inV (V.str z) [V.str "from", V.str "to"] = true then _ else _
          rw [inV_str2]
          cases hz : (decide (z = "from") || decide (z = "to")) with
          | false =>
            rw [hz, Bool.false_and] at q
            exact iteF (q H1 s1)
          | true =>
            rw [hz, Bool.true_and] at q
            refine iteT ⟨_, rfl, .int i, rfl, t, _, i, _, rfl, rfl, .inl (.inl (s1 _ _ et)), atI_nat (by rw [List.getElem?_map, List.getElem?_eq_getElem li]; rfl), _, rfl, n, _, _, d2, rfl, h2.same s1, fun H2 s2 => ?_⟩
            have := q H2 (s1.trans s2)
            rw [show natD (.int (i : Int)) = i from Int.toNat_natCast i, getD_at li] at this
            exact this
        · rw [hs]
          rw [word_no hs, Bool.false_and] at q
          exact iteF (q H1 s1)
    · refine ⟨_, rfl, n, _, d, "tuple", _, rfl, hd, kit_tup d, _, rfl, ?_⟩
      rw [hn]
      rw [side_no hn] at q
      exact iteT (q H (Same.refl H))
end
end K11

set_option Elab.async false
set_option linter.all false
set_option maxRecDepth 100000
namespace K11
open PySem PySem.Spec PyProof.Rows L2 NB

/-! ### what stands though lists change -/
/-- all but lists stands -/
def Keep (H H' : Hp) : Prop := ∀ b o, (∀ xs, o ≠ .lst xs) → H b = some o → H' b = some o
theorem Keep.refl (H : Hp) : Keep H H := fun _ _ _ e => e
theorem Keep.trans {H H1 H2 : Hp} (a : Keep H H1) (b : Keep H1 H2) : Keep H H2 := fun c o n e => b c o n (a c o n e)
theorem Keep.same {H H' : Hp} (h : Same H H') : Keep H H' := fun b o _ e => h b o e
theorem Keep.but {a : Addr} {H H' : Hp} {c : Nat} (h : But a H H') (p : PotAt H a c) : Keep H H' := fun b o n e => by
  obtain ⟨x, y, z, ea, _⟩ := p
  exact h b o (fun q => n _ (by rw [q, ea] at e; exact (Option.some.inj e).symm)) e
theorem Keep.upd {H : Hp} {l : Addr} {o : HO} {xs : List V} (e : H l = some (.lst xs)) : Keep H (upd H l o) := fun b x n q => by
  rw [upd_ne (fun z => n xs (by rw [z, e] at q; exact (Option.some.inj q).symm))]
  exact q
theorem Keep.tup {H H' : Hp} {p : Addr} {xs : List V} (k : Keep H H') (e : H p = some (.tup xs)) : H' p = some (.tup xs) := k _ _ (fun _ q => by cases q) e
theorem Keep.sq {K : PySem.W.Frag} {H H' : Hp} {p : Addr} {xs : List V} (k : Keep H H') (e : SqT K H p xs) : SqT K H' p xs := by
  rcases e with (q | ⟨o, q⟩) | q
  · exact .inl (.inl (k _ _ (fun _ q => by cases q) q))
  · exact .inl (.inr ⟨o, k _ _ (fun _ q => by cases q) q⟩)
  · exact .inr q

/-! ### sides, rules, plans as data and as objects -/
abbrev Sd := Nat × Bool × Int
abbrev Rl := Sd × Sd
def word (b : Bool) : Str := if b then "from" else "to"
def SideAt (H : Hp) (p : Addr) (s : Sd) : Prop := H p = some (.tup [.int s.1, .str (word s.2.1), .int s.2.2])
def RuleAt (H : Hp) (r : Addr) (q : Rl) : Prop := ∃ p1 p2, H r = some (.tup [.ref p1, .ref p2]) ∧ SideAt H p1 q.1 ∧ SideAt H p2 q.2
def RulesAt (H : Hp) (R : Addr) (rs : List Rl) : Prop := ∃ as : List Addr, H R = some (.tup (as.map V.ref)) ∧ as.length = rs.length ∧ ∀ (i : Nat) (r : Addr) (q : Rl), as[i]? = some r → rs[i]? = some q → RuleAt H r q
def PlanAt (C : Addr) (H : Hp) (x : Addr) (tops : List Int) (rs : List Rl) : Prop := ∃ dx t R, H x = some (.ins C dx [("tops", .ref t), ("rules", .ref R)]) ∧ H t = some (.tup (tops.map V.int)) ∧ RulesAt H R rs
theorem SideAt.keep {H H' : Hp} {p : Addr} {s : Sd} (h : SideAt H p s) (k : Keep H H') : SideAt H' p s := k.tup h
theorem RuleAt.keep {H H' : Hp} {p : Addr} {q : Rl} (h : RuleAt H p q) (k : Keep H H') : RuleAt H' p q := by
  obtain ⟨p1, p2, e, h1, h2⟩ := h
  exact ⟨p1, p2, k.tup e, h1.keep k, h2.keep k⟩
theorem RulesAt.keep {H H' : Hp} {R : Addr} {rs : List Rl} (h : RulesAt H R rs) (k : Keep H H') : RulesAt H' R rs := by
  obtain ⟨as, e, l, a⟩ := h
  exact ⟨as, k.tup e, l, fun i r q h1 h2 => (a i r q h1 h2).keep k⟩
theorem PlanAt.keep {C : Addr} {H H' : Hp} {x : Addr} {tops : List Int} {rs : List Rl} (h : PlanAt C H x tops rs) (k : Keep H H') : PlanAt C H' x tops rs := by
  obtain ⟨dx, t, R, e, et, er⟩ := h
  exact ⟨dx, t, R, k _ _ (fun _ q => by cases q) e, k.tup et, er.keep k⟩
/-- a side of the plan -/
def SideOk (tops : List Int) (s : Sd) : Prop := ∃ t, tops[s.1]? = some t ∧ 0 ≤ s.2.2 ∧ s.2.2 ≤ t
def RuleOk (tops : List Int) (q : Rl) : Prop := SideOk tops q.1 ∧ SideOk tops q.2
theorem word_in (b : Bool) : inV (.str (word b)) [.str "from", .str "to"] = true := by cases b <;> decide +kernel
theorem word_from : word true = "from" := rfl

abbrev kWhole : Stmt := topS 5
abbrev kPlace : Stmt := topS 6
abbrev kTops : Stmt := topS 7
abbrev kSide : Stmt := topS 8
abbrev kSides : Stmt := topS 9
abbrev kRule : Stmt := topS 10
abbrev kRules : Stmt := topS 11
abbrev kInit : Stmt := inClass (topS 33) 0
theorem scWhole : FnScope ["thing"] ["thing"] (defScope kWhole) := ⟨rfl, rfl, rfl, by decide +kernel, rfl, by decide +kernel, by decide +kernel⟩
theorem scPlace : FnScope ["top", "thing"] ["top", "thing"] (defScope kPlace) := ⟨rfl, rfl, rfl, by decide +kernel, rfl, by decide +kernel, by decide +kernel⟩
theorem scTops : FnScope ["thing", "top"] ["thing"] (defScope kTops) := ⟨rfl, rfl, rfl, by decide +kernel, rfl, by decide +kernel, by decide +kernel⟩
theorem scSide : FnScope ["tops", "thing", "number", "word", "place"] ["tops", "thing"] (defScope kSide) := ⟨rfl, rfl, rfl, by decide +kernel, rfl, by decide +kernel, by decide +kernel⟩
theorem scSides : FnScope ["tops", "thing", "side"] ["tops", "thing"] (defScope kSides) := ⟨rfl, rfl, rfl, by decide +kernel, rfl, by decide +kernel, by decide +kernel⟩
theorem scRule : FnScope ["tops", "thing"] ["tops", "thing"] (defScope kRule) := ⟨rfl, rfl, rfl, by decide +kernel, rfl, by decide +kernel, by decide +kernel⟩
theorem scRules : FnScope ["tops", "thing", "rule"] ["tops", "thing"] (defScope kRules) := ⟨rfl, rfl, rfl, by decide +kernel, rfl, by decide +kernel, by decide +kernel⟩
theorem scInit : FnScope ["self", "tops", "rules"] ["self", "tops", "rules"] (defScope kInit) := ⟨rfl, rfl, rfl, by decide +kernel, rfl, by decide +kernel, by decide +kernel⟩

section
variable {P : Program} {w : World} {K : PySem.W.Frag} {mg : Str → Option Value} {base : Heap}

def spWhole : Sp := fun vs H Q _ => ∃ i : Int, vs = [.int i] ∧ Q (.bl true) H
theorem ok_whole {f : Addr} {fd : FuncData} {k : Nat} (F : Fun K "is_whole" "is_whole" kWhole f fd) (ms : mg "isinstance" = none) (mi : mg "int" = none) (mb : mg "bool" = none) : FnOk P w K mg base CX0 (k + 1) f fd ["thing"] spWhole := by
  refine F.ok scWhole (fun vs H Q E h => ?_) (fun cdv A outer s H vs Q E hr h => ?_)
  · obtain ⟨i, rfl, _⟩ := h
    rfl
  · obtain ⟨i, rfl, q⟩ := h
    refine ⟨_, pss_one (ps_ret (pe_and (pe_callB call_isi (by rfl) ms (by decide +kernel) (pa_cons (pv 0) (pa_cons (pe_bltn (v := .ty "int") (u := .type "int") (by rfl) mi (by decide +kernel) rfl) pa_nil)))
      (pe_one (pe_not (pe_callB call_isi (by rfl) ms (by decide +kernel) (pa_cons (pv 0) (pa_cons (pe_bltn (v := .ty "bool") (u := .type "bool") (by rfl) mb (by decide +kernel) rfl) pa_nil))))))), ?_⟩
    refine ⟨.int i, rfl, _, _, _, _, true, rfl, .ty "int", .base (.int i), kit_ty (by decide +kernel), true, rfl, iteT ?_⟩
    exact ⟨.int i, rfl, _, _, _, _, false, rfl, .ty "bool", .base (.int i), kit_ty (by decide +kernel), false, rfl, q⟩

def spPlace : Sp := fun vs H Q _ => ∃ t i : Int, vs = [.int t, .int i] ∧ Q (.bl (decide (0 ≤ i) && decide (i ≤ t))) H
theorem ok_place {f fW : Addr} {fd fdW : FuncData} {k : Nat} (F : Fun K "is_place" "is_place" kPlace f fd) (W : Kn P w K mg base 1 "is_whole" ["thing"] spWhole fW fdW) : FnOk P w K mg base CX0 (k + 2) f fd ["top", "thing"] spPlace := by
  refine F.ok scPlace (fun vs H Q E h => ?_) (fun cdv A outer s H vs Q E hr h => ?_)
  · obtain ⟨t, i, rfl, _⟩ := h
    rfl
  · obtain ⟨t, i, rfl, q⟩ := h
    refine ⟨_, pss_one (ps_ret (pe_and (pe_kn W hr (by omega) (pa_cons (pv 1) pa_nil)) (pe_one (pe_chain op_le op_le pe_int (pv 1) (pv 0))))), ?_⟩
    refine ⟨.int i, rfl, i, rfl, true, rfl, iteT ?_⟩
    refine ⟨.int i, rfl, 0, i, rfl, rfl, _, rfl, ite2 (fun c => ?_) (fun c => ?_)⟩
    · rw [show decide (0 ≤ i) = true from c, Bool.true_and] at q
      exact ⟨.int t, rfl, i, t, rfl, rfl, q⟩
    · rw [Bool.eq_false_iff.mpr c, Bool.false_and] at q
      exact q

def spTops (K : PySem.W.Frag) : Sp := fun vs H Q _ => ∃ (a : Addr) (tops : List Int), vs = [.ref a] ∧ H a = some (.tup (tops.map V.int)) ∧ 1 ≤ tops.length ∧ tops.length ≤ 12 ∧ Pl tops ∧ ∀ H', Same H H' → Q (.bl true) H'
theorem ok_tops {f fP : Addr} {fd fdP : FuncData} {k : Nat} {t1 t2 : Tok} (F : Fun K "are_tops" "are_tops" kTops f fd) (Pc : Kn P w K mg base 2 "is_place" ["top", "thing"] spPlace fP fdP) (ms : mg "isinstance" = none) (mt : mg "tuple" = none) (ml : mg "len" = none) (ma : mg "all" = none)
    (g1 : mg "MOST_THINGS" = some (.int 12 t1)) (g2 : mg "BEYOND_THIRTY_FIGURES" = some (.int 1000000000000000000000000000000 t2)) : FnOk P w K mg base CX0 (k + 3) f fd ["thing"] (spTops K) := by
  refine F.ok scTops (fun vs H Q E h => ?_) (fun cdv A outer s H vs Q E hr h => ?_)
  · obtain ⟨a, tops, rfl, _⟩ := h
    rfl
  · obtain ⟨a, tops, rfl, ea, l1, l12, pl, q⟩ := h
    refine ⟨_, pss_cons (ps_if (PW.pt (pw_or (pt_not (pt_val (pe_callB call_isi (by rfl) ms (by decide +kernel) (pa_cons (pv 0) (pa_cons (pe_bltn (v := .ty "tuple") (u := .type "tuple") (by rfl) mt (by decide +kernel) rfl) pa_nil)))))
        (pw_or1 (pt_not (pt_chain op_le op_le pe_int (pe_callB call_len_seq (by rfl) ml PySem.boot_len (pa_cons (pv 0) pa_nil)) (pe_glob (v := .int 12) rfl g1 ⟨_, rfl⟩)))))) (pss_one (ps_ret pe_bl)) pss_nil)
      (pss_one (ps_ret (pe_callB (cr_all rfl) (by rfl) ma (by decide +kernel) (pa_cons
        (pe_lc (own := [("top", 1)]) (g := gName 1) (tt := tYes) (te := tCall spPlace [] E0 (tCons (tOp (rI0 fun i j => .int (i - j)) (tC (.int 1000000000000000000000000000000)) (tC (.int 1))) (tCons (tVar 1) tNil))) rfl scTops.nd (pi_tup (pv 0)) (blkOk_by (N := ["thing", "top"]) (sc := defScope kTops) (by decide +kernel))
          (fun _ _ _ _ _ => pg_name (i := 1) scTops.nd rfl (.inl rfl) (hf := .inr rfl)) (fun _ _ _ _ _ => pts_nil)
          (fun _ _ _ _ _ => pe_kn Pc hr (by omega) (pa_cons (pe_op op_sub (pe_glob (v := .int 1000000000000000000000000000000) rfl g2 ⟨_, rfl⟩) pe_int) (pa_cons (pv 1) pa_nil)))) pa_nil)))), ?_⟩
    refine ⟨.ref a, rfl, _, _, _, _, true, rfl, .ty "tuple", .base (.tup ea), kit_ty (by decide +kernel), true, rfl, iteF ?_⟩
    refine ⟨.ref a, rfl, a, _, rfl, .inr (.inl (.inl ea)), 1, _, rfl, rfl, true, ?_, iteT ⟨_, 12, rfl, rfl, true, ?_, iteF ?_⟩⟩
    · rw [List.length_map]
      exact congrArg V.bl (decide_eq_true (by omega))
    · rw [List.length_map]
      exact congrArg V.bl (decide_eq_true (by omega))
    refine ⟨.ref a, rfl, a, rfl, ⟨_, .inl (.inl ea)⟩, fun D nD => lc_it (walk_tup (xs := tops.map V.int)) (fun i H' => Same H H' ∧ H' D = some (.lst ((List.replicate i true).map V.bl))) ⟨same_new nD, upd_same⟩ (fun i H' _ p => .inl (.inl (p.1 _ _ ea))) (fun i v H1 H2 hi p y => ?_) (fun H' p => ?_)⟩
    · obtain ⟨sm, eD⟩ := p
      obtain ⟨rfl, gv⟩ := y
      obtain ⟨x, ex, rfl⟩ := mapGet gv
      have hx := pl x (List.mem_of_getElem? ex)
      have hi' : i < tops.length := by simpa using hi
      refine ⟨rfl, _, _, rfl, rfl, .int x, rfl, _, x, rfl, _, eD, by rw [List.length_map, List.length_replicate]; exact small1000 (by omega), same_over sm nD, ?_⟩
      rw [upd_same, decide_eq_true hx.1, decide_eq_true (show x ≤ 1000000000000000000000000000000 - 1 by have := hx.2; omega), List.replicate_succ', List.map_append]
      rfl
    · obtain ⟨sm, eD⟩ := p
      refine ⟨D, _, rfl, .inl (.inl eD), ?_⟩
      rw [show (List.replicate (tops.map V.int).length true).all id = true by simp]
      exact q H' sm

def spSide (K : PySem.W.Frag) : Sp := fun vs H Q _ => ∃ (t p : Addr) (tops : List Int) (sd : Sd), vs = [.ref t, .ref p] ∧ H t = some (.tup (tops.map V.int)) ∧ SideAt H p sd ∧ SideOk tops sd ∧ Q (.bl true) H
theorem ok_side {f fP wa : Addr} {fd fdP : FuncData} {k : Nat} (F : Fun K "is_side_of" "is_side_of" kSide f fd) (Pc : Kn P w K mg base 2 "is_place" ["top", "thing"] spPlace fP fdP) (ms : mg "isinstance" = none) (mt : mg "tuple" = none) (ml : mg "len" = none) (mr : mg "str" = none)
    (g1 : mg "WORDS" = some (.ref wa)) (hW : ∀ H, SqT K H wa [.str "from", .str "to"]) : FnOk P w K mg base CX0 (k + 3) f fd ["tops", "thing"] (spSide K) := by
  refine F.ok scSide (fun vs H Q E h => ?_) (fun cdv A outer s H vs Q E hr h => ?_)
  · obtain ⟨t, p, tops, sd, rfl, _⟩ := h
    rfl
  · obtain ⟨t, p, tops, ⟨n, b, pl⟩, rfl, et, ep, ⟨tp, eg, p0, p1⟩, q⟩ := h
    have ep' : H p = some (.tup [.int (n : Int), .str (word b), .int pl]) := ep
    have hn : n < tops.length := (List.getElem?_eq_some_iff.mp eg).1
    refine ⟨_, pss_cons (ps_if (PW.pt (pw_or (pt_not (pt_val (pe_callB call_isi (by rfl) ms (by decide +kernel) (pa_cons (pv 1) (pa_cons (pe_bltn (v := .ty "tuple") (u := .type "tuple") (by rfl) mt (by decide +kernel) rfl) pa_nil)))))
        (pw_or1 (pt_cmpR op_ne (pe_callB call_len_seq (by rfl) ml PySem.boot_len (pa_cons (pv 1) pa_nil)) pe_int (nomark _))))) (pss_one (ps_ret pe_bl)) pss_nil)
      (pss_cons (ps_asg (pv 1) (pg_tup (by rfl) (pgs_cons (pg_name (i := 2) scSide.nd rfl (.inl rfl)) (pgs_cons (pg_name (i := 3) scSide.nd rfl (.inl rfl)) (pgs_cons (pg_name (i := 4) scSide.nd rfl (.inl rfl)) pgs_nil)))))
      (pss_cons (ps_if (pt_not (pt_val (pe_kn Pc hr (by omega) (pa_cons (pe_op op_sub (pe_callB call_len_seq (by rfl) ml PySem.boot_len (pa_cons (pv 0) pa_nil)) pe_int) (pa_cons (pv 2) pa_nil))))) (pss_one (ps_ret pe_bl)) pss_nil)
      (pss_one (ps_ret (pe_and (pe_callB call_isi (by rfl) ms (by decide +kernel) (pa_cons (pv 3) (pa_cons (pe_bltn (v := .ty "str") (u := .type "str") (by rfl) mr (by decide +kernel) rfl) pa_nil)))
        (pe_and (pe_cmpR op_in_seq (pv 3) (pe_glob (v := .ref wa) rfl g1 rfl) (by rfl)) (pe_one (pe_kn Pc hr (by omega) (pa_cons (pe_ix ix_tup (pv 0) (pv 2) (fun _ _ => rfl)) (pa_cons (pv 4) pa_nil)))))))))), ?_⟩
    refine ⟨.ref p, rfl, _, _, _, _, true, rfl, .ty "tuple", .base (.tup ep'), kit_ty (by decide +kernel), true, rfl, iteF ?_⟩
    refine ⟨.ref p, rfl, p, _, rfl, .inr (.inl (.inl ep')), rfl, _, rfl, iteNS rfl ?_⟩
    refine ⟨.ref p, rfl, p, _, rfl, .inl (.inl ep'), rfl, _, _, rfl, _, _, rfl, _, _, rfl, rfl, ?_⟩
    refine ⟨.ref t, rfl, t, _, rfl, .inr (.inl (.inl et)), _, 1, rfl, rfl, .int n, rfl, _, n, rfl, true, ?_, iteF ?_⟩
    · rw [List.length_map, decide_eq_true (show (0 : Int) ≤ n by omega), decide_eq_true (show (n : Int) ≤ tops.length - 1 by omega)]
      rfl
    refine ⟨_, rfl, _, _, _, _, true, rfl, .ty "str", .base (.str _), kit_ty (by decide +kernel), true, rfl, iteT ?_⟩
    refine ⟨_, rfl, wa, _, rfl, .inr (hW H), rfl, by decide +kernel, true, ?_, iteT ?_⟩
    · rw [word_in]
      rfl
    refine ⟨.ref t, rfl, .int n, rfl, t, _, n, .int tp, rfl, rfl, .inl (.inl et), atI_nat (by rw [List.getElem?_map, eg]; rfl), .int pl, rfl, tp, pl, rfl, ?_⟩
    rw [decide_eq_true p0, decide_eq_true p1]
    exact q

/-- a run of truths that a comprehension makes -/
theorem all_true (n : Nat) : (List.replicate n true).all id = true := by simp
theorem more_true (n : Nat) : (List.replicate (n + 1) true).map V.bl = (List.replicate n true).map V.bl ++ [V.bl true] := by
  rw [List.replicate_succ', List.map_append]
  rfl

def spSides (K : PySem.W.Frag) : Sp := fun vs H Q _ => ∃ (t r : Addr) (tops : List Int) (as : List Addr), vs = [.ref t, .ref r] ∧ H t = some (.tup (tops.map V.int)) ∧ H r = some (.tup (as.map V.ref)) ∧ as.length ≤ 100 ∧ (∀ p ∈ as, ∃ sd, SideAt H p sd ∧ SideOk tops sd) ∧ ∀ H', Same H H' → Q (.bl true) H'
theorem ok_sides {f fP : Addr} {fd fdP : FuncData} {k : Nat} (F : Fun K "are_sides_of" "are_sides_of" kSides f fd) (Si : Kn P w K mg base 3 "is_side_of" ["tops", "thing"] (spSide K) fP fdP) (ms : mg "isinstance" = none) (mt : mg "tuple" = none) (ma : mg "all" = none) : FnOk P w K mg base CX0 (k + 4) f fd ["tops", "thing"] (spSides K) := by
  refine F.ok scSides (fun vs H Q E h => ?_) (fun cdv A outer s H vs Q E hr h => ?_)
  · obtain ⟨t, r, tops, as, rfl, _⟩ := h
    rfl
  · obtain ⟨t, r, tops, as, rfl, et, er, l, ok, q⟩ := h
    refine ⟨_, pss_one (ps_ret (pe_and (pe_callB call_isi (by rfl) ms (by decide +kernel) (pa_cons (pv 1) (pa_cons (pe_bltn (v := .ty "tuple") (u := .type "tuple") (by rfl) mt (by decide +kernel) rfl) pa_nil)))
      (pe_one (pe_callB (cr_all rfl) (by rfl) ma (by decide +kernel) (pa_cons
        (pe_lc (own := [("side", 2)]) (g := gName 2) (tt := tYes) (te := tCall (spSide K) [] E0 (tCons (tVar 0) (tCons (tVar 2) tNil))) rfl scSides.nd (pi_tup (pv 1)) (blkOk_by (N := ["tops", "thing", "side"]) (sc := defScope kSides) (by decide +kernel))
          (fun _ _ _ _ _ => pg_name (i := 2) scSides.nd rfl (.inl rfl) (hf := .inr rfl)) (fun _ _ _ _ _ => pts_nil)
          (fun _ _ _ _ _ => pe_kn Si hr (by omega) (pa_cons (pv 0) (pa_cons (pv 2) pa_nil)))) pa_nil))))), ?_⟩
    refine ⟨.ref r, rfl, _, _, _, _, true, rfl, .ty "tuple", .base (.tup er), kit_ty (by decide +kernel), true, rfl, iteT ?_⟩
    refine ⟨.ref r, rfl, r, rfl, ⟨_, .inl (.inl er)⟩, fun D nD => lc_it (walk_tup (xs := as.map V.ref)) (fun i H' => Same H H' ∧ H' D = some (.lst ((List.replicate i true).map V.bl))) ⟨same_new nD, upd_same⟩ (fun i H' _ p => .inl (.inl (p.1 _ _ er))) (fun i v H1 H2 hi p y => ?_) (fun H' p => ?_)⟩
    · obtain ⟨sm, eD⟩ := p
      obtain ⟨rfl, gv⟩ := y
      obtain ⟨x, ex, rfl⟩ := mapGet gv
      have hi' : i < as.length := by simpa using hi
      obtain ⟨sd, a1, a2⟩ := ok x (List.mem_of_getElem? ex)
      refine ⟨rfl, .ref t, rfl, .ref x, rfl, t, x, tops, sd, rfl, sm _ _ et, a1.keep (.same sm), a2, _, eD, by rw [List.length_map, List.length_replicate]; exact small1000 (by omega), same_over sm nD, ?_⟩
      rw [upd_same, more_true]
    · obtain ⟨sm, eD⟩ := p
      refine ⟨D, _, rfl, .inl (.inl eD), ?_⟩
      rw [all_true]
      exact q H' sm

def spRule (K : PySem.W.Frag) : Sp := fun vs H Q _ => ∃ (t r : Addr) (tops : List Int) (rl : Rl), vs = [.ref t, .ref r] ∧ H t = some (.tup (tops.map V.int)) ∧ RuleAt H r rl ∧ RuleOk tops rl ∧ ∀ H', Same H H' → Q (.bl true) H'
theorem ok_rule {f fP : Addr} {fd fdP : FuncData} {k : Nat} (F : Fun K "is_rule_of" "is_rule_of" kRule f fd) (Ss : Kn P w K mg base 4 "are_sides_of" ["tops", "thing"] (spSides K) fP fdP) (ml : mg "len" = none) : FnOk P w K mg base CX0 (k + 5) f fd ["tops", "thing"] (spRule K) := by
  refine F.ok scRule (fun vs H Q E h => ?_) (fun cdv A outer s H vs Q E hr h => ?_)
  · obtain ⟨t, r, tops, rl, rfl, _⟩ := h
    rfl
  · obtain ⟨t, r, tops, rl, rfl, et, ⟨p1, p2, er, h1, h2⟩, ok, q⟩ := h
    refine ⟨_, pss_one (ps_ret (pe_and (pe_kn Ss hr (by omega) (pa_cons (pv 0) (pa_cons (pv 1) pa_nil))) (pe_one (pe_cmpR op_eq (pe_callB call_len_seq (by rfl) ml PySem.boot_len (pa_cons (pv 1) pa_nil)) pe_int (nomark _))))), ?_⟩
    refine ⟨.ref t, rfl, .ref r, rfl, t, r, tops, [p1, p2], rfl, et, er, (show 2 ≤ 100 by decide), fun p hp => ?_, fun H' sm => ⟨true, rfl, iteT ?_⟩⟩
    · simp only [List.mem_cons, List.not_mem_nil, or_false] at hp
      rcases hp with e | e <;> rw [e]
      · exact ⟨_, h1, ok.1⟩
      · exact ⟨_, h2, ok.2⟩
    · exact ⟨.ref r, rfl, r, _, rfl, .inr (.inl (.inl (sm _ _ er))), rfl, q H' sm⟩

def spRules (K : PySem.W.Frag) : Sp := fun vs H Q _ => ∃ (t R : Addr) (tops : List Int) (rs : List Rl), vs = [.ref t, .ref R] ∧ H t = some (.tup (tops.map V.int)) ∧ RulesAt H R rs ∧ rs.length ≤ 40 ∧ (∀ q ∈ rs, RuleOk tops q) ∧ ∀ H', Same H H' → Q (.bl true) H'
theorem ok_rules {f fP : Addr} {fd fdP : FuncData} {k : Nat} {t1 : Tok} (F : Fun K "are_rules_of" "are_rules_of" kRules f fd) (Ru : Kn P w K mg base 5 "is_rule_of" ["tops", "thing"] (spRule K) fP fdP) (ms : mg "isinstance" = none) (mt : mg "tuple" = none) (ml : mg "len" = none) (ma : mg "all" = none)
    (g1 : mg "MOST_RULES" = some (.int 40 t1)) : FnOk P w K mg base CX0 (k + 6) f fd ["tops", "thing"] (spRules K) := by
  refine F.ok scRules (fun vs H Q E h => ?_) (fun cdv A outer s H vs Q E hr h => ?_)
  · obtain ⟨t, R, tops, rs, rfl, _⟩ := h
    rfl
  · obtain ⟨t, R, tops, rs, rfl, et, ⟨as, eR, la, ha⟩, l40, ok, q⟩ := h
    refine ⟨_, pss_cons (ps_if (PW.pt (pw_or (pt_not (pt_val (pe_callB call_isi (by rfl) ms (by decide +kernel) (pa_cons (pv 1) (pa_cons (pe_bltn (v := .ty "tuple") (u := .type "tuple") (by rfl) mt (by decide +kernel) rfl) pa_nil)))))
        (pw_or1 (pt_cmpR op_gt (pe_callB call_len_seq (by rfl) ml PySem.boot_len (pa_cons (pv 1) pa_nil)) (pe_glob (v := .int 40) rfl g1 ⟨_, rfl⟩) (nomark _))))) (pss_one (ps_ret pe_bl)) pss_nil)
      (pss_one (ps_ret (pe_callB (cr_all rfl) (by rfl) ma (by decide +kernel) (pa_cons
        (pe_lc (own := [("rule", 2)]) (g := gName 2) (tt := tYes) (te := tCall (spRule K) [] E0 (tCons (tVar 0) (tCons (tVar 2) tNil))) rfl scRules.nd (pi_tup (pv 1)) (blkOk_by (N := ["tops", "thing", "rule"]) (sc := defScope kRules) (by decide +kernel))
          (fun _ _ _ _ _ => pg_name (i := 2) scRules.nd rfl (.inl rfl) (hf := .inr rfl)) (fun _ _ _ _ _ => pts_nil)
          (fun _ _ _ _ _ => pe_kn Ru hr (by omega) (pa_cons (pv 0) (pa_cons (pv 2) pa_nil)))) pa_nil)))), ?_⟩
    refine ⟨.ref R, rfl, _, _, _, _, true, rfl, .ty "tuple", .base (.tup eR), kit_ty (by decide +kernel), true, rfl, iteF ?_⟩
    refine ⟨.ref R, rfl, R, _, rfl, .inr (.inl (.inl eR)), _, 40, rfl, rfl, false, ?_, iteF ?_⟩
    · rw [List.length_map]
      exact congrArg V.bl (decide_eq_false (by omega))
    refine ⟨.ref R, rfl, R, rfl, ⟨_, .inl (.inl eR)⟩, fun D nD => lc_it (walk_tup (xs := as.map V.ref)) (fun i H' => Same H H' ∧ H' D = some (.lst ((List.replicate i true).map V.bl))) ⟨same_new nD, upd_same⟩ (fun i H' _ p => .inl (.inl (p.1 _ _ eR))) (fun i v H1 H2 hi p y => ?_) (fun H' p => ?_)⟩
    · obtain ⟨sm, eD⟩ := p
      obtain ⟨rfl, gv⟩ := y
      obtain ⟨x, ex, rfl⟩ := mapGet gv
      have hi' : i < as.length := by simpa using hi
      have hr' : i < rs.length := by omega
      have eq : rs[i]? = some rs[i] := List.getElem?_eq_getElem hr'
      refine ⟨rfl, .ref t, rfl, .ref x, rfl, t, x, tops, rs[i], rfl, sm _ _ et, (ha i x _ ex eq).keep (.same sm), ok _ (List.getElem_mem hr'), fun H3 s3 => ?_⟩
      have sm3 := sm.trans s3
      refine ⟨_, s3 _ _ eD, by rw [List.length_map, List.length_replicate]; exact small1000 (by omega), same_over sm3 nD, ?_⟩
      rw [upd_same, more_true]
    · obtain ⟨sm, eD⟩ := p
      refine ⟨D, _, rfl, .inl (.inl eD), ?_⟩
      rw [all_true]
      exact q H' sm

/-- what is asked of the class as the top has made it -/
structure PlanTxt (K : PySem.W.Frag) (mg : Str → Option Value) (C : Addr) : Prop where
  cl : Cls K C
  nT : NoAttr K C "tops"
  nR : NoAttr K C "rules"
  mgC : mg "Plan" = some (.ref C)
theorem put_two (t R : Addr) : putF "rules" (V.ref R) (putF "tops" (V.ref t) []) = ([("tops", V.ref t), ("rules", V.ref R)] : List (Str × V)) := by
  have n : ¬ (("tops" : Str) = "rules") := by decide +kernel
  show (if ("tops" : Str) = "rules" then [(("tops" : Str), V.ref R)] else (("tops" : Str), V.ref t) :: putF "rules" (V.ref R) []) = _
  rw [if_neg n]
  rfl
def spInit (C : Addr) : Sp := fun vs H Q _ => ∃ (x dx t R : Addr) (tops : List Int) (rs : List Rl), vs = [.ref x, .ref t, .ref R] ∧ H x = some (.ins C dx []) ∧ H t = some (.tup (tops.map V.int)) ∧ RulesAt H R rs ∧ 1 ≤ tops.length ∧ tops.length ≤ 12 ∧ Pl tops ∧ rs.length ≤ 40 ∧ (∀ q ∈ rs, RuleOk tops q) ∧
  ∀ H', (∀ b o, b ≠ x → H b = some o → H' b = some o) → H' x = some (.ins C dx [("tops", .ref t), ("rules", .ref R)]) → Q .non H'
theorem ok_init {f C fT fR : Addr} {fd fdT fdR : FuncData} {k : Nat} {dvs : List V} {kws : List (Str × V)} (F : FunD K "__init__" "Plan.__init__" (defArgs kInit) (defBody kInit) (defScope kInit) dvs kws f fd) (T : PlanTxt K mg C) (To : Kn P w K mg base 3 "are_tops" ["thing"] (spTops K) fT fdT) (Ru : Kn P w K mg base 6 "are_rules_of" ["tops", "thing"] (spRules K) fR fdR) :
    FnOk P w K mg base CX0 (k + 7) f fd ["self", "tops", "rules"] (spInit C) := by
  refine F.ok scInit (fun vs H Q E h => ?_) (fun cdv A outer s H vs Q E hr h => ?_)
  · obtain ⟨x, dx, t, R, tops, rs, rfl, _⟩ := h
    rfl
  · obtain ⟨x, dx, t, R, tops, rs, rfl, ex, et, eR, l1, l12, pl, l40, ok, q⟩ := h
    refine ⟨_, pss_cons (ps_if (pt_not (pt_val (pe_kn To hr (by omega) (pa_cons (pv 1) pa_nil)))) (pss_one ps_never) pss_nil)
      (pss_cons (ps_if (pt_not (pt_val (pe_kn Ru hr (by omega) (pa_cons (pv 1) (pa_cons (pv 2) pa_nil))))) (pss_one ps_never) pss_nil)
      (pss_cons (ps_fld (pv 0) (pv 1) rfl) (pss_one (ps_fld (pv 0) (pv 2) rfl)))), ?_⟩
    refine ⟨.ref t, rfl, t, tops, rfl, et, l1, l12, pl, fun H1 s1 => ⟨true, rfl, iteF ?_⟩⟩
    refine ⟨.ref t, rfl, .ref R, rfl, t, R, tops, rs, rfl, s1 _ _ et, eR.keep (.same s1), l40, ok, fun H2 s2 => ⟨true, rfl, iteF ?_⟩⟩
    have s02 := s1.trans s2
    refine ⟨.ref t, rfl, .ref x, rfl, x, C, dx, [], rfl, s02 _ _ ex, T.cl, T.nT, (show 0 < 1000 by decide), ?_⟩
    refine ⟨.ref R, rfl, .ref x, rfl, x, C, dx, _, rfl, upd_same, T.cl, T.nR, (show 1 < 1000 by decide), ?_⟩
    refine q _ (fun b o ne e => ?_) ?_
    · rw [upd_ne ne, upd_ne ne]
      exact s02 _ _ e
    · rw [upd_same]
      exact congrArg (fun z => some (HO.ins C dx z)) (put_two t R)
/-- Plan(tops, rules) -/
theorem plan_made {C x dx : Addr} {H : Hp} {t R : Addr} {tops : List Int} {rs : List Rl} {W : VK} {E : XK} (nx : H x = none) (ndx : H dx = none) (ne : dx ≠ x) (et : H t = some (.tup (tops.map V.int))) (eR : RulesAt H R rs) (l1 : 1 ≤ tops.length) (l12 : tops.length ≤ 12) (pl : Pl tops) (l40 : rs.length ≤ 40) (ok : ∀ q ∈ rs, RuleOk tops q)
    (q : ∀ H', Same H H' → PlanAt C H' x tops rs → W .non H') : spInit C [.ref x, .ref t, .ref R] (upd (upd H dx (.own x)) x (.ins C dx [])) W E := by
  have s1 : Same H (upd (upd H dx (.own x)) x (.ins C dx [])) := (same_new ndx).trans (same_new (by rw [upd_ne ne.symm]; exact nx))
  refine ⟨x, dx, t, R, tops, rs, rfl, upd_same, s1 _ _ et, eR.keep (.same s1), l1, l12, pl, l40, ok, fun H' k ex => ?_⟩
  have s2 : Same H H' := fun b o e => k b o (ne_of_none e nx) (s1 b o e)
  exact q H' s2 ⟨dx, t, R, ex, s2 _ _ et, eR.keep (.same s2)⟩
end
end K11

set_option Elab.async false
set_option linter.all false
set_option maxRecDepth 100000
namespace K11
open PySem PySem.Spec PyProof.Rows L2 NB

/-! ### standings -/
def inB (st : List Int) (s : Sd) : Bool := match st[s.1]? with
  | some v => if s.2.1 then decide (s.2.2 ≤ v) else decide (v ≤ s.2.2)
  | none => false
def kept (st : List Int) (q : Rl) : Bool := inB st q.1 || inB st q.2
/-- the numbers of the rules that are broken -/
def brok (st : List Int) (rs : List Rl) : List Int := rs.zipIdx.filterMap fun p => if kept st p.1 then none else some (p.2 : Int)
theorem brok_take (st : List Int) (rs : List Rl) (i : Nat) (q : Rl) (h : rs[i]? = some q) : brok st (rs.take (i + 1)) = brok st (rs.take i) ++ (if kept st q then [] else [(i : Int)]) := by
  have hi : i < rs.length := (List.getElem?_eq_some_iff.mp h).1
  have hl : (rs.take i).length = i := by rw [List.length_take]; omega
  unfold brok
  rw [List.take_add_one, h, List.zipIdx_append, List.filterMap_append, hl]
  congr 1
  show List.filterMap _ [(q, 0 + i)] = _
  simp only [List.filterMap_cons, List.filterMap_nil, Nat.zero_add]
  split <;> split <;> simp_all
theorem brok_len (st : List Int) (rs : List Rl) : (brok st rs).length ≤ rs.length := by
  unfold brok
  refine Nat.le_trans (List.length_filterMap_le _ _) ?_
  rw [List.length_zipIdx]
  exact Nat.le_refl _
theorem brok_nil (st : List Int) (rs : List Rl) : (brok st rs = []) ↔ rs.all (kept st) = true := by
  unfold brok
  rw [List.filterMap_eq_nil_iff, List.all_eq_true]
  constructor
  · intro h q hq
    obtain ⟨i, hi, e⟩ := List.getElem_of_mem hq
    have := h (q, i) (by rw [List.mem_zipIdx_iff_getElem?]; simp [hi, e])
    cases c : kept st q with
    | true => rfl
    | false => rw [c] at this; simp at this
  · rintro h ⟨q, i⟩ hq
    have hm : q ∈ rs := List.mem_of_getElem? (by rw [List.mem_zipIdx_iff_getElem?] at hq; exact hq)
    simp [h q hm]
theorem eqv_ints : ∀ xs ys : List Int, PyData.eqvAll (xs.map PyData.int) (ys.map PyData.int) = decide (xs = ys)
  | [], [] => by simp [PyData.eqvAll]
  | [], _ :: _ => by simp [PyData.eqvAll]
  | _ :: _, [] => by simp [PyData.eqvAll]
  | x :: xs, y :: ys => by
    simp only [List.map_cons, PyData.eqvAll, PyData.eqv, eqv_ints xs ys, List.cons.injEq, Bool.decide_and]
    congr 1
theorem lay_ints : ∀ xs : List Int, PyData.canLayAll0 (xs.map PyData.int) = true
  | [] => rfl
  | x :: xs => by simp only [List.map_cons, PyData.canLayAll0, PyData.canLay0, lay_ints xs, Bool.and_self]
theorem depth_ints : ∀ xs : List Int, PyData.depthAll (xs.map PyData.int) = 0
  | [] => rfl
  | x :: xs => by simp only [List.map_cons, PyData.depthAll, PyData.depth, depth_ints xs, Nat.max_self]
theorem shaped_ints (xs : List Int) : SeqAt.shaped (.tuple (xs.map PyData.int)) = true := by
  unfold SeqAt.shaped
  simp only [PyData.canLay0, lay_ints, PyData.depth, depth_ints, Bool.true_and]
  decide
theorem dps {K : PySem.W.Frag} {H : Hp} : ∀ xs : List Int, DpAll K H (xs.map V.int) (xs.map PyData.int)
  | [] => .nil
  | x :: xs => .cons (.int x) (dps xs)
theorem dpt {K : PySem.W.Frag} {H : Hp} {p : Addr} {xs : List Int} (h : H p = some (.tup (xs.map V.int))) : Dp K H (.ref p) (.tuple (xs.map PyData.int)) := .tup (.inl (.inl h)) (dps xs)

abbrev kIn : Stmt := topS 18
theorem scIn : FnScope ["side", "standing", "thing", "word", "place"] ["side", "standing"] (defScope kIn) := ⟨rfl, rfl, rfl, by decide +kernel, rfl, by decide +kernel, by decide +kernel⟩
theorem w_from : decide (V.str (word true) = V.str "from") = true := by decide +kernel
theorem w_to : decide (V.str (word false) = V.str "from") = false := by decide +kernel

section
variable {P : Program} {w : World} {K : PySem.W.Frag} {mg : Str → Option Value} {base : Heap}

def spIn : Sp := fun vs H Q _ => ∃ (p t : Addr) (sd : Sd) (xs : List Int), vs = [.ref p, .ref t] ∧ SideAt H p sd ∧ H t = some (.tup (xs.map V.int)) ∧ sd.1 < xs.length ∧ Q (.bl (inB xs sd)) H
theorem ok_in {f : Addr} {fd : FuncData} {k : Nat} (F : Fun K "is_in" "is_in" kIn f fd) : FnOk P w K mg base CX0 (k + 1) f fd ["side", "standing"] spIn := by
  refine F.ok scIn (fun vs H Q E h => ?_) (fun cdv A outer s H vs Q E hr h => ?_)
  · obtain ⟨p, t, sd, xs, rfl, _⟩ := h
    rfl
  · obtain ⟨p, t, ⟨n, b, pl⟩, xs, rfl, ep, et, ln, q⟩ := h
    have ep' : H p = some (.tup [.int (n : Int), .str (word b), .int pl]) := ep
    have ln' : n < xs.length := ln
    have eg : atI (xs.map V.int) (n : Int) = some (.int xs[n]) := atI_nat (by rw [List.getElem?_map, List.getElem?_eq_getElem ln']; rfl)
    have eb : inB xs (n, b, pl) = if b then decide (pl ≤ xs[n]) else decide (xs[n] ≤ pl) := by
      unfold inB
      simp only [List.getElem?_eq_getElem ln']
    rw [eb] at q
    refine ⟨_, pss_cons (ps_asg (pv 0) (pg_tup (by rfl) (pgs_cons (pg_name (i := 2) scIn.nd rfl (.inl rfl)) (pgs_cons (pg_name (i := 3) scIn.nd rfl (.inl rfl)) (pgs_cons (pg_name (i := 4) scIn.nd rfl (.inl rfl)) pgs_nil)))))
      (pss_cons (ps_if (pt_cmpR op_eq (pv 3) pe_str (nomark _)) (pss_one (ps_ret (pe_cmpR op_ge (pe_ix ix_tup (pv 1) (pv 2) (fun _ _ => rfl)) (pv 4) (nomark _)))) pss_nil)
      (pss_one (ps_ret (pe_cmpR op_le (pe_ix ix_tup (pv 1) (pv 2) (fun _ _ => rfl)) (pv 4) (nomark _))))), ?_⟩
    refine ⟨.ref p, rfl, p, _, rfl, .inl (.inl ep'), rfl, _, _, rfl, _, _, rfl, _, _, rfl, rfl, ?_⟩
    cases b with
    | true =>
      refine ⟨_, rfl, rfl, true, congrArg V.bl w_from, iteT ?_⟩
      exact ⟨.ref t, rfl, .int n, rfl, t, _, n, _, rfl, rfl, .inl (.inl et), eg, .int pl, rfl, _, pl, rfl, rfl, q⟩
    | false =>
      refine ⟨_, rfl, rfl, false, congrArg V.bl w_to, iteF ?_⟩
      exact ⟨.ref t, rfl, .int n, rfl, t, _, n, _, rfl, rfl, .inl (.inl et), eg, .int pl, rfl, _, pl, rfl, rfl, q⟩

def Fit (xs : List Int) (q : Rl) : Prop := q.1.1 < xs.length ∧ q.2.1 < xs.length
theorem look_rules (t R : Addr) : ([("tops", V.ref t), ("rules", V.ref R)] : List (Str × V)).lookup ("rules" : Str) = some (V.ref R) := by
  have n : (("rules" : Str) == "tops") = false := by decide +kernel
  simp [List.lookup, n]
theorem look_tops (t R : Addr) : ([("tops", V.ref t), ("rules", V.ref R)] : List (Str × V)).lookup ("tops" : Str) = some (V.ref t) := by
  simp [List.lookup]

end
end K11

set_option Elab.async false
set_option linter.all false
set_option maxRecDepth 100000
namespace K11
open PySem PySem.Spec PyProof.Rows L2 NB

/-! ### the law's own draws -/

/-- a standing of the plan's tops -/
structure Std (tops : List Int) (H : Hp) (p : Addr) (st : List Int) : Prop where
  at' : H p = some (.tup (st.map V.int))
  len : st.length = tops.length
  pl : Pl st
  le : Le st tops
theorem Std.keep {tops : List Int} {H H' : Hp} {p : Addr} {st : List Int} (h : Std tops H p st) (k : Keep H H') : Std tops H' p st := ⟨k.tup h.at', h.len, h.pl, h.le⟩
abbrev refs (ps : List (Addr × List Int)) : List V := ps.map fun q => V.ref q.1
theorem words_mem {x : V} (h : x ∈ [V.str "from", V.str "to"]) : ∃ b, x = .str (word b) := by
  simp only [List.mem_cons, List.not_mem_nil, or_false] at h
  rcases h with e | e
  · exact ⟨true, e⟩
  · exact ⟨false, e⟩
theorem len_bd {tops : List Int} (l12 : tops.length ≤ 12) : (tops.length : Int) < 2 ^ 200 := Int.lt_of_le_of_lt (show (tops.length : Int) ≤ 12 by omega) (by decide)
theorem top_bd {t : Int} (h : t < 10 ^ 30) : t + 1 < 2 ^ 200 := Int.lt_of_le_of_lt (show t + 1 ≤ 10 ^ 30 by omega) (by decide)
theorem inB_from {st : List Int} {n : Nat} {pl : Int} (h : n < st.length) (l : pl ≤ st[n]) : inB st (n, true, pl) = true := by
  unfold inB
  simp [List.getElem?_eq_getElem h, l]
theorem inB_to {st : List Int} {n : Nat} {pl : Int} (h : n < st.length) (l : st[n] ≤ pl) : inB st (n, false, pl) = true := by
  unfold inB
  simp [List.getElem?_eq_getElem h, l]
theorem fit_of {tops : List Int} {q : Rl} (h : RuleOk tops q) {xs : List Int} (l : xs.length = tops.length) : Fit xs q := by
  obtain ⟨⟨t1, e1, _⟩, ⟨t2, e2, _⟩⟩ := h
  exact ⟨by rw [l]; exact (List.getElem?_eq_some_iff.mp e1).1, by rw [l]; exact (List.getElem?_eq_some_iff.mp e2).1⟩
/-- rules one by one -/
theorem rules_snoc {H H' : Hp} {as : List Addr} {rs : List Rl} {r : Addr} {q : Rl} (la : as.length = rs.length) (h : ∀ (i : Nat) (r : Addr) (q : Rl), as[i]? = some r → rs[i]? = some q → RuleAt H r q) (k : Keep H H') (e : RuleAt H' r q) :
    ∀ (i : Nat) (r' : Addr) (q' : Rl), (as ++ [r])[i]? = some r' → (rs ++ [q])[i]? = some q' → RuleAt H' r' q' := fun i r' q' h1 h2 => by
  rcases Nat.lt_or_ge i as.length with c | c
  · rw [List.getElem?_append_left c] at h1
    rw [List.getElem?_append_left (by omega)] at h2
    exact (h i r' q' h1 h2).keep k
  · rw [List.getElem?_append_right c] at h1
    rw [List.getElem?_append_right (by omega)] at h2
    have e0 : i - as.length = 0 := by
      rcases Nat.eq_zero_or_pos (i - as.length) with z | z
      · exact z
      · rw [List.getElem?_eq_none (by simp only [List.length_cons, List.length_nil]; omega)] at h1
        cases h1
    have e1 : i - rs.length = 0 := by omega
    rw [e0] at h1
    rw [e1] at h2
    cases h1
    cases h2
    exact e
theorem at_int {xs : List Int} {n : Nat} (h : n < xs.length) : atI (xs.map V.int) (n : Int) = some (.int xs[n]) := atI_nat (by rw [List.getElem?_map, List.getElem?_eq_getElem h]; rfl)
theorem ixN_nat {m n : Nat} (h : n < m) : ixN m (n : Int) = some n := by
  unfold ixN
  rw [if_pos (by omega), if_pos (by omega)]
  rfl
theorem set_ok {tops st : List Int} {n : Nat} {v : Int} (l : st.length = tops.length) (p : Pl st) (le : Le st tops) (hn : n < tops.length) (v0 : 0 ≤ v) (v1 : v ≤ tops[n]) (v2 : tops[n] < 10 ^ 30) : (st.set n v).length = tops.length ∧ Pl (st.set n v) ∧ Le (st.set n v) tops := by
  refine ⟨by rw [List.length_set, l], fun x hx => ?_, fun i x t h1 h2 => ?_⟩
  · rcases List.mem_or_eq_of_mem_set hx with h | h
    · exact p x h
    · rw [h]
      exact ⟨v0, by omega⟩
  · by_cases c : n = i
    · subst c
      rw [List.getElem?_set_self (by omega)] at h1
      cases h1
      rw [List.getElem?_eq_getElem hn] at h2
      cases h2
      exact v1
    · rw [List.getElem?_set_ne c] at h1
      exact le i x t h1 h2

end K11

set_option Elab.async false
set_option linter.all false
set_option maxRecDepth 100000
namespace K11
open PySem PySem.Spec PyProof.Rows L2 NB

/-! ### small tops -/
abbrev aTops : Stmt := topS 40
theorem scTopsL : FnScope ["_law_pot_here", "_law_thing"] ["_law_pot_here"] (defScope aTops) := ⟨rfl, rfl, rfl, by decide +kernel, rfl, by decide +kernel, by decide +kernel⟩
def Few (xs : List Int) : Prop := ∀ x ∈ xs, 0 ≤ x ∧ x ≤ 3
theorem Few.pl {xs : List Int} (h : Few xs) : Pl xs := fun x hx => ⟨(h x hx).1, Int.lt_of_le_of_lt (h x hx).2 (by decide)⟩
theorem tops_mem {x : V} (h : x ∈ [V.int 1, V.int 1, V.int 2, V.int 2, V.int 3, V.int 0]) : ∃ i : Int, x = .int i ∧ 0 ≤ i ∧ i ≤ 3 := by
  simp only [List.mem_cons, List.not_mem_nil, or_false] at h
  rcases h with e | e | e | e | e | e <;> exact ⟨_, e, by decide, by decide⟩
section
variable {P : Program} {w : World} {K : PySem.W.Frag} {mg : Str → Option Value} {base : Heap}
def spTopsL : Sp := fun vs H Q _ => ∃ (a : Addr) (c : Nat), vs = [.ref a] ∧ PotAt H a c ∧ c < 900000 ∧
  ∀ H' p tops, But a H H' → PotAt H' a (c + 5) → H' p = some (.tup (tops.map V.int)) → 1 ≤ tops.length → tops.length ≤ 4 → Few tops → Q (.ref p) H'
theorem ok_topsL {f fT fO : Addr} {fd fdT fdO : FuncData} {k : Nat} (F : Fun K "_law_tops" "_law_tops" aTops f fd) (T : Kn P w K mg base 1 "_law_take" ["_law_pot_here", "_law_many"] spTake fT fdT)
    (O : Kn P w K mg base 2 "_law_of" ["_law_pot_here", "_law_some"] (spOf K) fO fdO) (mr : mg "range" = none) (mt : mg "tuple" = none) : FnOk P w K mg base CX0 (k + 3) f fd ["_law_pot_here"] spTopsL := by
  refine F.ok scTopsL (fun vs H Q E h => ?_) (fun cdv A outer s H vs Q E hr h => ?_)
  · obtain ⟨a, c, rfl, _⟩ := h
    rfl
  · obtain ⟨a, c, rfl, pa, hc, q⟩ := h
    refine ⟨_, pss_one (ps_ret (pe_callTy call_tuple_of (by rfl) mt (by decide +kernel) (pa_cons
      (pe_lc (own := [("_law_thing", 1)]) (g := gName 1) (tt := tYes) (te := tCall (spOf K) [] E0 (tCons (tVar 0) (tCons (tLst (tCons (tC (.int 1)) (tCons (tC (.int 1)) (tCons (tC (.int 2)) (tCons (tC (.int 2)) (tCons (tC (.int 3)) (tCons (tC (.int 0)) tNil))))))) tNil))) rfl scTopsL.nd (pi_range1 (by rfl) mr (pa_cons (pe_op op_add pe_int (pe_kn T hr (by omega) (pa_cons (pv 0) (pa_cons pe_int pa_nil)))) pa_nil)) (blkOk_by (N := ["_law_pot_here", "_law_thing"]) (sc := defScope aTops) (by decide +kernel))
        (fun _ _ _ _ _ => pg_name (i := 1) scTopsL.nd rfl (.inl rfl) (hf := .inr rfl)) (fun _ _ _ _ _ => pts_nil)
        (fun _ _ _ _ _ => pe_kn O hr (by omega) (pa_cons (pv 0) (pa_cons (pe_lst (pa_cons pe_int (pa_cons pe_int (pa_cons pe_int (pa_cons pe_int (pa_cons pe_int (pa_cons pe_int pa_nil))))))) pa_nil)))) pa_nil))), ?_⟩
    refine ⟨.ref a, rfl, a, 4, c, rfl, pa, by decide, by decide, by omega, fun d H1 b1 p1 d0 d1 => ?_⟩
    refine ⟨1, d, rfl, rfl, _, rfl, by omega, by omega, fun D nD => lc_it walk_range (fun i H' => But a H1 H' ∧ PotAt H' a (c + 1 + i) ∧ ∃ ts : List Int, H' D = some (.lst (ts.map V.int)) ∧ ts.length = i ∧ Few ts)
      ⟨but_new (fun _ _ _ e => e) nD, pot_upd p1 (p1.ne nD), [], upd_same, rfl, fun _ h => absurd h List.not_mem_nil⟩ (fun _ _ _ _ => trivial) (fun i v H2 H3 hi p y => ?_) (fun H2 p => ?_)⟩
    · obtain ⟨b2, p2, ts, eD, tl, tp⟩ := p
      obtain ⟨rfl, rfl⟩ := y
      have nDa : D ≠ a := p1.ne nD
      refine ⟨rfl, .ref a, rfl, (show 6 ≤ sizeLine by decide), fun m nm => ?_⟩
      have nma : m ≠ a := p2.ne nm
      refine ⟨a, m, _, _, rfl, pot_upd p2 nma, nma, .inl (.inl (.inl upd_same)), (show 1 ≤ 6 by decide), (show 6 ≤ 1000000 by decide), by omega, fun x H5 hx b5 p5 => ?_⟩
      obtain ⟨n, rfl, n0, n3⟩ := tops_mem hx
      have b35 : But a H3 H5 := fun b o ne e => b5 _ _ ne (same_new nm _ _ e)
      refine ⟨_, b35 _ _ nDa eD, by rw [List.length_map]; exact small1000 (by omega), but_new (b2.trans b35) nD, pot_upd (p5.mono (by omega)) nDa, ts ++ [n], ?_, by rw [List.length_append, tl]; rfl, fun y hy => ?_⟩
      · rw [upd_same, List.map_append]
        rfl
      · rcases List.mem_append.mp hy with h | h
        · exact tp y h
        · rw [List.mem_singleton.mp h]
          exact ⟨n0, n3⟩
    · obtain ⟨b2, p2, ts, eD, tl, tp⟩ := p
      refine ⟨D, _, rfl, .inl ⟨.inl (.inl eD), fun R nR => ?_⟩⟩
      have nRa : R ≠ a := p2.ne nR
      have b02 := b1.trans b2
      exact q _ R ts (but_new b02 (b02.free nRa nR)) (pot_upd (p2.mono (by omega)) nRa) upd_same (by omega) (by omega) tp

end
end K11

set_option Elab.async false
set_option linter.all false
set_option maxRecDepth 100000
set_option maxHeartbeats 1000000
/-! What a plain search wants: sorted of any number of tuples, dicts whose keys are tuples. -/
namespace SrtO
open PySem PyProof.Rows Srt
section
variable {prog : Program} {w : World} {A : Around} {E : Value → Shared → Prop} {s : Shared}
def rkT (h : Heap) (B : Int) (v : Value) : Int := TS.code B (TS.intsOf h v)
theorem swo_rk (r : Value → Int) : Swo fun v u => decide (r v < r u) := by
  refine ⟨fun x y h => ?_, fun x y z h1 h2 => ?_⟩
  · have a := of_decide_eq_true h
    exact decide_eq_false (by omega)
  · have a := of_decide_eq_false h1
    have b := of_decide_eq_false h2
    exact decide_eq_false (by omega)
theorem tups_cmp {d : Nat} {B : Int} {vs : List Value} {r : Value → Int} (x : TS.TupsOk s.heap d B vs) (hr : ∀ v, v ∈ vs → ∀ ns, TS.TupInts s.heap v ns → r v = TS.code B ns) : Cmp prog w A s (tuples' true) (fun p => p.1 ∈ vs) (lt2 fun v u => decide (r v < r u)) := by
  intro p q hp hq
  obtain ⟨ns, tp, lp, bp⟩ := x _ hp
  obtain ⟨ms, tq, lq, bq⟩ := x _ hq
  have ep := hr _ hp _ tp
  have eq2 := hr _ hq _ tq
  show wpAny (model prog w) A (keyLt' (tuples' true) p.1 q.1) (fun b s' => s' = s ∧ b = decide (r p.1 < r q.1)) (fun _ _ => False) s
  rw [ep, eq2]
  obtain ⟨a, xs, e1, ⟨o, ho, hc, n, hdt⟩, i⟩ := tp
  obtain ⟨a', ys, e2, ⟨o', ho', hc', n', hdt'⟩, i'⟩ := tq
  rw [e1, e2]
  refine PySem.W.kat_lt ho hdt ho' hdt' ?_
  have sz : decide (xs.size < ys.size) = false := by
    have l1 := i.length
    have l2 := i'.length
    rw [Array.length_toList] at l1 l2
    exact decide_eq_false (by omega)
  rw [sz]
  exact TS.lex_ints 0 i i' (by omega) bp bq ⟨rfl, rfl⟩
theorem tups_sortableO {a : Addr} {vs : List Value} {d : Nat} {B : Int} {r : Value → Int} (hd1 : 1 ≤ d) (h2 : 2 ≤ vs.length) (x : TS.TupsOk s.heap d B vs) (hr : ∀ v, v ∈ vs → ∀ ns, TS.TupInts s.heap v ns → r v = TS.code B ns) (ha : ∀ o, s.heap.get? a = some o → o.cls ≠ .type "tuple") :
    SortableO prog w A s a vs fun v u => decide (r v < r u) := by
  intro h' keep
  have kp : ∀ b o, s.heap.get? b = some o → o.cls = .type "tuple" → h'.get? b = some o := fun b o e c => keep b o (fun z => by subst z; exact ha o e c) e
  have x' : TS.TupsOk h' d B vs := x.keeps kp
  obtain ⟨fs, h1, hl, h3⟩ := TS.firsts_of hd1 vs x'
  refine ⟨tuples' true, fun Q E hq => ?_, tups_cmp (s := { s with heap := h' }) x' fun v hv ns t => ?_⟩
  · refine PySem.W.kat_kind (T := .type "int") h1 (by omega) (fun f hm => ?_) (by rfl) ?_
    · obtain ⟨n, t, rfl⟩ := h3 f hm
      exact PySem.W.Looks.of_pure rfl
    · have e : (Value.type "int" != Value.type "tuple") = true := by first | decide +kernel | rfl | decide
      rw [e]
      exact hq
  · obtain ⟨ns0, t0, _⟩ := x v hv
    have e : ns = ns0 := t.ints.symm.trans (t0.keeps kp).ints
    rw [e]
    exact hr v hv ns0 t0
end
end SrtO

namespace NB
open PySem PySem.Spec PyProof.Rows L2
/-- sorted(xs), xs a list of tuples of d whole numbers each: a new list of the same ones -/
def rSortTT (K : PySem.W.Frag) (d : Nat) (B : Int) : List V → Hp → VK → Prop := fun vs H Q => ∃ (a : Addr) (L : List (Addr × List Int)), vs = [V.ref a] ∧ SqL K H a (L.map fun z => V.ref z.1) ∧ (∀ z ∈ L, H z.1 = some (.tup (z.2.map V.int)) ∧ z.2.length = d ∧ TS.Bd B z.2) ∧
  ∀ (ys : List V) (p : Addr), ys.Perm (L.map fun z => V.ref z.1) → H p = none → Q (.ref p) (upd H p (.lst ys))
section
variable {X : Cx}
theorem cr_sortTT {d : Nat} {B : Int} (hd1 : 1 ≤ d) : CallR X (.builtin "sorted") (rSortTT X.K d B) := by
  intro pins s σ H vs us Q I r h
  obtain ⟨a, L, rfl, hs, hx, q⟩ := h
  obtain ⟨its, rv, hl, hz⟩ := I.list hs
  obtain ⟨u, rfl, ru⟩ := vals1 r
  obtain rfl : u = Value.ref a := ru
  obtain ⟨e1, e2⟩ := refs_back rv fun x m => by
    obtain ⟨z, _, e⟩ := List.mem_map.mp m
    exact ⟨z.1, e.symm⟩
  have ok : TS.TupsOk s.heap d B its := fun v hv => by
    obtain ⟨t, rfl⟩ := e2 v hv
    have hm : V.ref t ∈ L.map fun z => V.ref z.1 := by rw [e1]; exact List.mem_map.mpr ⟨_, hv, rfl⟩
    obtain ⟨z, hz, e⟩ := List.mem_map.mp hm
    obtain ⟨ht, hn, hb⟩ := hx z hz
    have e' : z.1 = t := V.ref.inj e
    subst e'
    obtain ⟨its2, r2, p2, _⟩ := I.tuple (.inl (.inl ht))
    exact ⟨z.2, ⟨z.1, _, rfl, p2, by simpa using r2.ints⟩, hn, hb⟩
  refine SrtO.sorted_ord (SrtO.swo_rk fun v => TS.code B (TS.intsOf s.heap v)) hl.isList (by rw [← rv.length]; exact hz) (fun h2 h₁ a' ha' kk => ?_) fun out h1 h2 => ?_
  · have kp : ∀ b o, s.heap.get? b = some o → o.cls = .type "tuple" → h₁.get? b = some o := fun b o e _ => (kk b o e).2
    refine SrtO.tups_sortableO (s := { s with heap := h₁ }) hd1 h2 (ok.keeps kp) (fun v hv ns t => ?_) fun o e => ?_
    · obtain ⟨ns0, t0, _⟩ := ok v hv
      have e : ns = ns0 := t.ints.symm.trans (t0.keeps kp).ints
      rw [e, t0.ints]
    · have e' : some o = some (seqObj "list" its.toArray 0) := e.symm.trans ha'
      cases e'
      intro c
      exact absurd (Value.type.inj c) (by decide)
  · have h3 : ∀ u ∈ out, ∃ a, u = Value.ref a := fun u hu => e2 u (h2.perm.mem_iff.mp hu)
    obtain ⟨ep, he'⟩ := PyProof.Rows.sortedAll_at s.heap its out.toArray
    have hp : (out.map backV).Perm (L.map fun z => V.ref z.1) := by
      rw [e1]
      exact h2.perm.map backV
    refine ⟨.ref _, upd H (s.heap.objs.size + 1) (.lst (out.map backV)), I.laid (t' := s.toks) (fun _ _ => PyProof.Rows.sortedAll_old) (Nat.le_succ _) ⟨?_, out, ep, vals_back h3, he'⟩, rfl, q _ _ hp (I.hok.fresh (Nat.le_succ _))⟩
    rw [hp.length_eq]
    exact hz
/-- a dict made of pairs, each key a tuple -/
def putAll (ms : List (List Key × V)) : List (List Key × V) := ms.foldl (fun acc kv => putK acc kv.1 kv.2) []
theorem KT.putAll {H : Hp} {ms : List (List Key × V)} {ps : List (List Key × Addr × Value)} (r : Paired (fun m p => m.1 = p.1 ∧ H p.2.1 = some (.tup (p.1.map kV)) ∧ L2.RelV m.2 p.2.2) ms ps) : ∀ {acc : List (List Key × V)} {xs : List (List Key × Addr × Value)}, KT H acc xs →
    KT H (ms.foldl (fun acc kv => putK acc kv.1 kv.2) acc) (storedAllH xs ps) := by
  induction r with
  | nil => exact fun h => h
  | @cons m p ms ps h t ih =>
    intro acc xs hk
    have e : KT H (putK acc m.1 m.2) (storedH xs p.1 p.2.1 p.2.2) := by
      rw [h.1]
      exact hk.put p.1 h.2.1 h.2.2
    exact ih e
theorem putAll_len : ∀ (ms acc : List (List Key × V)), (ms.foldl (fun acc kv => putK acc kv.1 kv.2) acc).length ≤ acc.length + ms.length
  | [], acc => by simp
  | m :: ms, acc => by
    have h1 := putAll_len ms (putK acc m.1 m.2)
    have h2 := length_putK acc m.1 m.2
    rw [List.foldl_cons, List.length_cons]
    omega
/-- dict(xs), xs a list of pairs (tuple, value) -/
theorem call_dictT (hcalm : X.calm = true) (hu : X.A.units + 8 < cLine) : CallR X (.type "dict") (fun xs H Q => ∃ (a : Addr) (L : List (Addr × Addr × List Key × V)), xs = [.ref a] ∧ H a = some (.lst (L.map fun z => V.ref z.1)) ∧ (∀ z ∈ L, H z.1 = some (.tup [.ref z.2.1, z.2.2.2]) ∧ H z.2.1 = some (.tup (z.2.2.1.map kV))) ∧
    ∀ p, H p = none → Q (.ref p) (upd H p (.dT (putAll (L.map fun z => (z.2.2.1, z.2.2.2)))))) := by
  intro pins s σ H xs us Q I r q
  obtain ⟨a, L, ex, hq, hp, q⟩ := q
  subst ex
  obtain ⟨u, eu, rx⟩ := vals1 r
  subst eu
  cases rx
  obtain ⟨its, rv, pl, hz⟩ := I.list (.inl (.inl hq))
  have ei : its = L.map fun z => Value.ref z.1 := by
    have e : (L.map fun z => V.ref z.1) = (L.map (·.1)).map V.ref := by rw [List.map_map]; rfl
    rw [e] at rv
    rw [refs_at rv, List.map_map]
    rfl
  subst ei
  rw [List.length_map] at hz
  -- the pairs as they stand in the machine
  have mk : ∀ (M : List (Addr × Addr × List Key × V)), (∀ z ∈ M, z ∈ L) → ∃ ps : List (List Key × Addr × Value), Paired (fun m p => m.1 = p.1 ∧ H p.2.1 = some (.tup (p.1.map kV)) ∧ RelV m.2 p.2.2) (M.map fun z => (z.2.2.1, z.2.2.2)) ps ∧ ps.length = M.length ∧
      ∀ (j : Nat) (p : List Key × Addr × Value), ps[j]? = some p → ∃ z, M[j]? = some z ∧ p.1 = z.2.2.1 ∧ p.2.1 = z.2.1 ∧ IsTup s.heap z.1 #[.ref p.2.1, p.2.2] := by
    intro M
    induction M with
    | nil => exact fun _ => ⟨[], .nil, rfl, fun j p e => by simp at e⟩
    | cons z M ih =>
      intro hM
      obtain ⟨ps, h1, h2, h3⟩ := ih fun y hy => hM y (List.mem_cons_of_mem _ hy)
      obtain ⟨hz1, hz2⟩ := hp z (hM z List.mem_cons_self)
      obtain ⟨its2, r2, p2, _⟩ := I.tuple (.inl (.inl hz1))
      obtain ⟨u1, u2, rfl, ra, rb⟩ := vals2 r2
      obtain rfl : u1 = Value.ref z.2.1 := ra
      refine ⟨(z.2.2.1, z.2.1, u2) :: ps, .cons ⟨rfl, hz2, rb⟩ h1, by rw [List.length_cons, List.length_cons, h2], fun j p e => ?_⟩
      cases j with
      | zero =>
        have e' : (z.2.2.1, z.2.1, u2) = p := Option.some.inj e
        subst e'
        exact ⟨z, rfl, rfl, rfl, p2⟩
      | succ j => exact h3 j p (by simpa using e)
  obtain ⟨ps, rel, hl, hps⟩ := mk L fun z hz => hz
  obtain ⟨o, n, ho, hc, hd, hdat⟩ := pl
  have items : PairItems s.heap (L.map fun z => Value.ref z.1).toArray (fun j => (L.getD j (0, 0, [], .non)).1) (ps.map fun p => (Value.ref p.2.1, p.2.2)) := by
    refine ⟨by simp [hl], fun j k v e => ?_⟩
    rw [List.getElem?_map] at e
    cases ej : ps[j]? with
    | none => rw [ej] at e; cases e
    | some p =>
      rw [ej] at e
      have e' : (Value.ref p.2.1, p.2.2) = (k, v) := Option.some.inj e
      cases e'
      obtain ⟨z, hz1, _, _, hz4⟩ := hps j p ej
      have eg : L.getD j (0, 0, [], .non) = z := by rw [List.getD_eq_getElem?_getD, hz1]; rfl
      refine ⟨by simp [hz1, eg], .inl ?_⟩
      show s.heap.IsTuple (L.getD j (0, 0, [], .non)).1 _
      rw [eg]
      exact hz4
  have hst : KeysStay (tupleKind (mixKind X.prog X.w)) s.heap s.heap.objs.size [] ps := fun h' hk x hx => by
    obtain ⟨j, hj, e⟩ := List.getElem_of_mem hx
    obtain ⟨z, hz1, e1, e2, _⟩ := hps j x (by rw [List.getElem?_eq_getElem hj, e])
    have hz2 := (hp z (List.mem_of_getElem? hz1)).2
    rw [e1, e2]
    obtain ⟨_, its3, r3, o3, q1, q2, n3, q3⟩ := (show ObjOk X.prog X.w H s.heap z.2.1 (.tup (z.2.2.1.map kV)) from I.hok _ _ hz2)
    exact ⟨o3, its3.toArray, n3, hk _ _ (Nat.ne_of_lt (Heap.lt_size q1)) (by simp) q1, q2, q3, by simpa using items_are r3⟩
  refine PySem.call_dict_pairsH (knd := tupleKind (mixKind X.prog X.w)) (ps := ps) (PairArg.list a _ _ (ps.map fun p => (Value.ref p.2.1, p.2.2))) (I.ok.hd hcalm) (tupleKind_room_in1 (A := X.A.in1) (by show X.A.units + 1 + 1 < cLine; omega)) ⟨⟨o, n, ho, hc, hd, hdat⟩, items⟩ ⟨by rw [List.length_map], fun i key v e => ?_⟩ hst (by rw [List.length_map, hl]; exact hz) fun h' tk hd' k => ?_
  · have e' : (ps.map fun p => (Value.ref p.2.1, p.2.2))[i]? = some (key, v) := e
    rw [List.getElem?_map] at e'
    cases ej : ps[i]? with
    | none => rw [ej] at e'; cases e'
    | some p =>
      rw [ej] at e'
      have e2 : (Value.ref p.2.1, p.2.2) = (key, v) := Option.some.inj e'
      cases e2
      exact ⟨p.1, p.2.1, rfl, rfl⟩
  · have hm : (s.heap.objs.size == sysModules) = false := beq_eq_false_iff_ne.mpr (Nat.ne_of_gt I.big)
    have hlen : (putAll (L.map fun z => (z.2.2.1, z.2.2.2))).length ≤ sizeLine := by
      have := putAll_len (L.map fun z => (z.2.2.1, z.2.2.2)) []
      rw [List.length_nil, List.length_map] at this
      unfold putAll
      omega
    have nw := I.hok.fresh (Nat.le_refl s.heap.objs.size)
    have kt : KT (upd H s.heap.objs.size (.dT (putAll (L.map fun z => (z.2.2.1, z.2.2.2))))) (putAll (L.map fun z => (z.2.2.1, z.2.2.2))) (storedAllH [] ps) := (KT.putAll (acc := []) (xs := []) rel .nil).keeps fun b ys e => by
      rw [upd_ne (ne_of_none e nw)]
      exact e
    obtain ⟨q', es, ep, g1, g2, g3, g4, _, g5⟩ := hd'
    exact ⟨.ref s.heap.objs.size, upd H s.heap.objs.size (.dT (putAll (L.map fun z => (z.2.2.1, z.2.2.2)))), I.laid (t' := tk) (fun b o e => k b o (by simp) e) (Nat.le_refl _) (show ObjOk X.prog X.w _ _ _ (.dT (putAll (L.map fun z => (z.2.2.1, z.2.2.2)))) from ⟨hlen, hm, _, kt, q', es, ep, g1, g2, g3, g4, g5⟩), rfl, q _ nw⟩
/-- {t: v}, t a tuple -/
def tDispT (tk tv : TE) : TE := fun σ H Q => ∀ p, H p = none → tk σ (upd H p (.dT [])) fun x H1 => tv σ H1 fun y H2 => ∃ (b : Addr) (k : List Key), x = .ref b ∧ H2 b = some (.tup (k.map kV)) ∧ H2 p = some (.dT []) ∧ Q (.ref p) (upd H2 p (.dT [(k, y)]))
theorem pe_dispT {pos : Pos} {ke ve : Expr} {tk tv : TE} (hk : PE X ke tk) (hv : PE X ve tv) (hu : X.A.units + 8 < cLine) : PE X (.Dict [some ke] [ve] pos) (tDispT tk tv) := by
  refine ⟨fun pins s σ H Q I q => ?_⟩
  have hn := I.hok.fresh (Nat.le_refl s.heap.objs.size)
  have hsys : (s.heap.objs.size == sysModules) = false := beq_eq_false_iff_ne.mpr (Nat.ne_of_gt I.big)
  have I1 := I.laid (a := s.heap.objs.size) (o := .dT []) (h' := s.heap.push { cls := .type "dict", data := .dict #[] }) (t' := s.toks) (fun _ _ q => Heap.get?_push_of_some _ q) (Nat.le_refl _)
    (show ObjOk X.prog X.w _ _ _ (.dT []) from ⟨Nat.zero_le _, hsys, [], .nil, by
      obtain ⟨o, es, ep, g1, g2, g3, g4, _, g5⟩ := (Heap.DictOfH.new (knd := tupleKind (mixKind X.prog X.w)) s.heap)
      exact ⟨o, es, ep, g1, g2, g3, g4, g5⟩⟩)
  refine wpAny_Dict_any (by rfl) (by rfl) (by intro z; cases z) (show 1 ≤ 15 by decide) ?_
  refine pairTrees_cons_walk (thn (hk.run pins _ σ _ _ I1 (q _ hn)) fun u s1 ⟨x, H1, J1, rx, q1⟩ => thn (hv.run pins s1 σ H1 _ J1 q1) fun w2 s2 ⟨y, H2, J2, ry, q2⟩ => pairTrees_nil_walk ?_)
  obtain ⟨b, k, rfl, eb, ep, q3⟩ := q2
  cases rx
  obtain ⟨z, hd, xs, rel, dd⟩ := dt_of J2.hok ep
  cases rel
  refine wpAny_bind (wpAny_bind (wpAny_dictSet_heap (knd := tupleKind (mixKind X.prog X.w)) (hsz := Nat.zero_le _) (show X.A.units < cLine by omega) (key_of J2.hok eb) dd fun h' dd' hs => wpAny_pure ?_))
  refine wpAny_pure ?_
  obtain ⟨q', es, ep', g1, g2, g3, g4, _, g5⟩ := dd'
  refine ⟨.ref s.heap.objs.size, _, d_write (t' := _) J2 (by rw [ep]; exact True.intro) hs ⟨q', g1⟩ (ob := .dT [(k, y)]) ⟨(show 1 ≤ sizeLine by decide), hd, _, .cons ⟨rfl, ?_, ry⟩ .nil, q', es, ep', g1, g2, g3, g4, g5⟩, rfl, q3⟩
  rw [upd_ne (ne_of eb ep (fun z => nomatch z))]
  exact eb
end
end NB

set_option Elab.async false
set_option linter.all false
set_option maxRecDepth 100000
namespace K11
open PySem PySem.Spec PyProof.Rows L2 NB

/-! ### places, good standings: mathematics alone -/
abbrev plc (st : List Int) (i : Nat) : Int := st.getD i 0
theorem plc_set_self {st : List Int} {i : Nat} {x : Int} (h : i < st.length) : plc (st.set i x) i = x := by
  unfold plc
  rw [List.getD_eq_getElem?_getD, List.getElem?_set_self h]
  rfl
theorem plc_set_ne {st : List Int} {i j : Nat} {x : Int} (h : i ≠ j) : plc (st.set i x) j = plc st j := by
  unfold plc
  rw [List.getD_eq_getElem?_getD, List.getD_eq_getElem?_getD, List.getElem?_set_ne h]
theorem plc_get {st : List Int} {i : Nat} (h : i < st.length) : plc st i = st[i] := by
  unfold plc
  rw [List.getD_eq_getElem?_getD, List.getElem?_eq_getElem h]
  rfl
theorem wipe_one {σ : L2.St} {k : Nat} {v : Option V} {n : Str} : wipe ((wipe σ ([(n, k)].map (·.2))).set k v) ([(n, k)].map (·.2)) = wipe σ ([(n, k)].map (·.2)) := by
  show ((σ.set k none).set k v).set k none = σ.set k none
  rw [List.set_set, List.set_set]
theorem tst_in {xs : List Int} {s : Sd} (h : s.1 < xs.length) : inB xs s = if s.2.1 then decide (s.2.2 ≤ plc xs s.1) else decide (plc xs s.1 ≤ s.2.2) := by
  unfold inB
  rw [List.getElem?_eq_getElem h, plc_get h]
def Btw (a x b : Int) : Prop := min a b ≤ x ∧ x ≤ max a b
def Good (rs : List Rl) (st : List Int) : Prop := ∀ q ∈ rs, kept st q = true
theorem plc_app (a : List Int) (x : Int) (j : Nat) : plc (a ++ [x]) j = if j < a.length then plc a j else if j = a.length then x else 0 := by
  unfold plc
  rw [List.getD_eq_getElem?_getD, List.getD_eq_getElem?_getD]
  by_cases c : j < a.length
  · rw [if_pos c, List.getElem?_append_left c]
  · rw [if_neg c, List.getElem?_append_right (by omega)]
    by_cases d : j = a.length
    · rw [if_pos d, d, Nat.sub_self]
      rfl
    · rw [if_neg d, List.getElem?_eq_none (by simp only [List.length_cons, List.length_nil]; omega)]
      rfl
theorem plc_ext {a b : List Int} (l : a.length = b.length) (h : ∀ i, i < a.length → plc a i = plc b i) : a = b := by
  refine List.ext_getElem l fun i x y => ?_
  have := h i x
  rwa [plc_get x, plc_get y] at this
def ext1 (t : Int) (s : List Int) : List (List Int) := (List.range (t + 1).toNat).map fun p : Nat => s ++ [((p : Nat) : Int)]
def bx (tops : List Int) : Nat → List (List Int)
  | 0 => [[]]
  | i + 1 => (bx tops i).flatMap (ext1 (plc tops i))
theorem bx_mem (tops : List Int) : ∀ (i : Nat) (s : List Int), s ∈ bx tops i ↔ s.length = i ∧ ∀ j, j < i → 0 ≤ plc s j ∧ plc s j ≤ plc tops j
  | 0, s => by
    show s ∈ [[]] ↔ _
    rw [List.mem_singleton]
    constructor
    · rintro rfl
      exact ⟨rfl, fun j h => absurd h (Nat.not_lt_zero _)⟩
    · rintro ⟨h, _⟩
      exact List.length_eq_zero_iff.mp h
  | i + 1, s => by
    show s ∈ (bx tops i).flatMap (ext1 (plc tops i)) ↔ _
    rw [List.mem_flatMap]
    constructor
    · rintro ⟨a, ha, hs⟩
      obtain ⟨l, h⟩ := (bx_mem tops i a).mp ha
      obtain ⟨p, hp, rfl⟩ := List.mem_map.mp hs
      have hp' := List.mem_range.mp hp
      refine ⟨by rw [List.length_append, l]; rfl, fun j hj => ?_⟩
      rw [plc_app]
      by_cases c : j < a.length
      · rw [if_pos c]
        exact h j (by omega)
      · rw [if_neg c, if_pos (by omega), show j = i by omega]
        omega
    · rintro ⟨l, h⟩
      have e : s = s.take i ++ [plc s i] := by
        refine plc_ext (by rw [List.length_append, List.length_take]; simp only [List.length_cons, List.length_nil]; omega) fun j hj => ?_
        rw [plc_app]
        by_cases c : j < (s.take i).length
        · rw [if_pos c]
          rw [List.length_take] at c
          rw [plc_get hj, plc_get (by rw [List.length_take]; omega), List.getElem_take]
        · rw [if_neg c]
          rw [List.length_take] at c
          rw [if_pos (by rw [List.length_take]; omega), show j = i by omega]
      have hi := h i (Nat.lt_succ_self i)
      refine ⟨s.take i, (bx_mem tops i _).mpr ⟨by rw [List.length_take]; omega, fun j hj => ?_⟩, ?_⟩
      · have hj' : j < (s.take i).length := by rw [List.length_take]; omega
        rw [plc_get hj', List.getElem_take, ← plc_get (show j < s.length by omega)]
        exact h j (by omega)
      · refine List.mem_map.mpr ⟨(plc s i).toNat, List.mem_range.mpr (by omega), ?_⟩
        rw [Int.toNat_of_nonneg hi.1]
        exact e.symm
def goodB (rs : List Rl) (st : List Int) : Bool := rs.all (kept st)
theorem goodB_iff {rs : List Rl} {st : List Int} : goodB rs st = true ↔ Good rs st := List.all_eq_true
def goods (tops : List Int) (rs : List Rl) : List (List Int) := (bx tops tops.length).filter (goodB rs)
theorem goods_mem {tops : List Int} {rs : List Rl} {s : List Int} : s ∈ goods tops rs ↔ (s.length = tops.length ∧ ∀ j, j < tops.length → 0 ≤ plc s j ∧ plc s j ≤ plc tops j) ∧ Good rs s := by
  unfold goods
  rw [List.mem_filter, bx_mem, goodB_iff]
theorem set_back {b : List Int} {i : Nat} {y : Int} (hi : i < b.length) : (b.set i y).set i (plc b i) = b := by
  refine plc_ext (by rw [List.length_set, List.length_set]) fun j hj => ?_
  by_cases c : i = j
  · subst c
    rw [plc_set_self (by rw [List.length_set]; exact hi)]
  · rw [plc_set_ne c, plc_set_ne c]
theorem set_same {b : List Int} {i : Nat} (hi : i < b.length) : b.set i (plc b i) = b := by
  refine plc_ext (by rw [List.length_set]) fun j hj => ?_
  by_cases c : i = j
  · subst c
    rw [plc_set_self hi]
  · rw [plc_set_ne c]
section
variable {tops : List Int} {rs : List Rl}
theorem goods_len {s : List Int} (h : s ∈ goods tops rs) : s.length = tops.length := (goods_mem.mp h).1.1
theorem goods_good {s : List Int} (h : s ∈ goods tops rs) : Good rs s := (goods_mem.mp h).2
theorem goods_bd (fw : Few tops) {s : List Int} (h : s ∈ goods tops rs) : TS.Bd 4 s := fun m hm => by
  obtain ⟨i, hi, e⟩ := List.getElem_of_mem hm
  have l := goods_len h
  have b := (goods_mem.mp h).1.2 i (by omega)
  rw [plc_get hi, e] at b
  have t := fw _ (List.getElem_mem (show i < tops.length by omega))
  rw [← plc_get] at t
  omega
end
theorem nodup_len {α : Type} [DecidableEq α] : ∀ (l m : List α), l.Nodup → (∀ x ∈ l, x ∈ m) → l.length ≤ m.length
  | [], _, _, _ => Nat.zero_le _
  | x :: l, m, nd, h => by
    obtain ⟨n1, n2⟩ := List.nodup_cons.mp nd
    have ih := nodup_len l (m.erase x) n2 fun y hy => (List.mem_erase_of_ne (fun e : y = x => n1 (by rw [← e]; exact hy))).mpr (h y (List.mem_cons_of_mem _ hy))
    have hx := h x List.mem_cons_self
    rw [List.length_erase_of_mem hx] at ih
    have : 0 < m.length := List.length_pos_of_mem hx
    rw [List.length_cons]
    omega

end K11

set_option Elab.async false
set_option linter.all false
set_option maxRecDepth 100000
namespace K11
open PySem PySem.Spec PyProof.Rows L2 NB

/-! ### sides and chains: the mathematics -/
section
variable (tops : List Int) (rs : List Rl)
def loS (s : Sd) : Int := if s.2.1 then s.2.2 else 0
def hiS (s : Sd) : Int := if s.2.1 then plc tops s.1 else s.2.2
def barsB (a b : Sd) : Bool := decide (a.1 = b.1) && (decide (hiS tops a < loS b) || decide (hiS tops b < loS a))
def withinB (a b : Sd) : Bool := decide (a.1 = b.1) && (decide (loS b ≤ loS a) && decide (hiS tops a ≤ hiS tops b))
def led1 (a : Sd) (q : Rl) : List Sd := (if barsB tops a q.1 then [q.2] else []) ++ (if barsB tops a q.2 then [q.1] else [])
def ledL (a : Sd) : List Sd := rs.flatMap (led1 tops a)
def othS (s : Sd) : Option Sd := if 0 < loS s then some (s.1, false, loS s - 1) else if hiS tops s < plc tops s.1 then some (s.1, true, hiS tops s + 1) else none
inductive Rea (S : Sd → Prop) : Sd → Prop where
  | base {s : Sd} : S s → Rea S s
  | step {a b : Sd} : Rea S a → b ∈ ledL tops rs a → Rea S b
end
section
variable {tops : List Int} {rs : List Rl}
theorem SideOk.lt {s : Sd} (h : SideOk tops s) : s.1 < tops.length := (List.getElem?_eq_some_iff.mp h.choose_spec.1).1
theorem SideOk.bd {s : Sd} (h : SideOk tops s) : 0 ≤ s.2.2 ∧ s.2.2 ≤ plc tops s.1 := by
  obtain ⟨t, e, h0, h1⟩ := h
  have : plc tops s.1 = t := by
    show tops.getD s.1 0 = t
    rw [List.getD_eq_getElem?_getD, e]
    rfl
  rw [this]
  exact ⟨h0, h1⟩
theorem SideOk.mk' {i : Nat} {b : Bool} {p : Int} (li : i < tops.length) (h0 : 0 ≤ p) (h1 : p ≤ plc tops i) : SideOk tops (i, b, p) := by
  refine ⟨tops[i], List.getElem?_eq_getElem li, h0, ?_⟩
  have : plc tops i = tops[i] := by
    show tops.getD i 0 = _
    rw [List.getD_eq_getElem?_getD, List.getElem?_eq_getElem li]
    rfl
  rw [← this]
  exact h1
theorem inB_iff {st : List Int} {s : Sd} (h : s.1 < st.length) : inB st s = true ↔ (if s.2.1 then s.2.2 ≤ plc st s.1 else plc st s.1 ≤ s.2.2) := by
  have e : plc st s.1 = st[s.1] := by
    show st.getD s.1 0 = _
    rw [List.getD_eq_getElem?_getD, List.getElem?_eq_getElem h]
    rfl
  unfold inB
  rw [List.getElem?_eq_getElem h, e]
  show (if s.2.1 = true then _ else _) = true ↔ _
  split <;> exact decide_eq_true_iff
theorem inFr {st : List Int} {i : Nat} {p : Int} (h : i < st.length) : inB st (i, true, p) = true ↔ p ≤ plc st i := inB_iff (s := (i, true, p)) h
theorem inTo {st : List Int} {i : Nat} {p : Int} (h : i < st.length) : inB st (i, false, p) = true ↔ plc st i ≤ p := inB_iff (s := (i, false, p)) h
theorem in_span {st : List Int} (hg : st ∈ goods tops rs) {s : Sd} (ok : SideOk tops s) : inB st s = true ↔ loS s ≤ plc st s.1 ∧ plc st s.1 ≤ hiS tops s := by
  obtain ⟨⟨l, bd⟩, _⟩ := goods_mem.mp hg
  have lt := ok.lt
  have b := bd s.1 lt
  rw [inB_iff (by omega)]
  unfold loS hiS
  split <;> omega
theorem bars_iff {a b : Sd} : barsB tops a b = true ↔ a.1 = b.1 ∧ (hiS tops a < loS b ∨ hiS tops b < loS a) := by
  unfold barsB
  simp only [Bool.and_eq_true, Bool.or_eq_true, decide_eq_true_eq]
theorem within_iff {a b : Sd} : withinB tops a b = true ↔ a.1 = b.1 ∧ loS b ≤ loS a ∧ hiS tops a ≤ hiS tops b := by
  unfold withinB
  simp only [Bool.and_eq_true, decide_eq_true_eq]
theorem bars_symm {a b : Sd} (h : barsB tops a b = true) : barsB tops b a = true := by
  rw [bars_iff] at h ⊢
  exact ⟨h.1.symm, h.2.symm⟩
theorem bars_out {st : List Int} (hg : st ∈ goods tops rs) {a b : Sd} (oa : SideOk tops a) (ob : SideOk tops b) (h : barsB tops a b = true) (ha : inB st a = true) : inB st b = false := by
  cases e : inB st b with
  | false => rfl
  | true =>
    rw [in_span hg oa] at ha
    rw [in_span hg ob] at e
    rw [bars_iff] at h
    obtain ⟨h1, h2⟩ := h
    rw [h1] at ha
    omega
theorem led_iff {a b : Sd} : b ∈ ledL tops rs a ↔ ∃ q ∈ rs, (barsB tops a q.1 = true ∧ b = q.2) ∨ (barsB tops a q.2 = true ∧ b = q.1) := by
  unfold ledL
  rw [List.mem_flatMap]
  constructor
  · rintro ⟨q, hq, h⟩
    refine ⟨q, hq, ?_⟩
    unfold led1 at h
    rcases List.mem_append.mp h with h | h
    · split at h
      · rename_i c
        exact .inl ⟨c, List.mem_singleton.mp h⟩
      · exact absurd h List.not_mem_nil
    · split at h
      · rename_i c
        exact .inr ⟨c, List.mem_singleton.mp h⟩
      · exact absurd h List.not_mem_nil
  · rintro ⟨q, hq, h⟩
    refine ⟨q, hq, ?_⟩
    unfold led1
    rcases h with ⟨c, rfl⟩ | ⟨c, rfl⟩
    · rw [if_pos c]
      exact List.mem_append_left _ (List.mem_singleton.mpr rfl)
    · rw [if_pos c]
      exact List.mem_append_right _ (List.mem_singleton.mpr rfl)
theorem led_ok (rok : ∀ q ∈ rs, RuleOk tops q) {a b : Sd} (h : b ∈ ledL tops rs a) : SideOk tops b := by
  obtain ⟨q, hq, ⟨_, rfl⟩ | ⟨_, rfl⟩⟩ := led_iff.mp h
  · exact (rok q hq).2
  · exact (rok q hq).1
theorem Rea.ok (rok : ∀ q ∈ rs, RuleOk tops q) {S : Sd → Prop} (hS : ∀ s, S s → SideOk tops s) {b : Sd} (h : Rea tops rs S b) : SideOk tops b := by
  cases h with
  | base h => exact hS _ h
  | step _ h => exact led_ok rok h
theorem Rea.refl (a : Sd) : Rea tops rs (· = a) a := .base rfl
theorem Rea.trans {S : Sd → Prop} {a b : Sd} (h : Rea tops rs S a) (h' : Rea tops rs (· = a) b) : Rea tops rs S b := by
  induction h' with
  | base e => exact e ▸ h
  | step _ l ih => exact .step ih l
theorem Rea.mono {S T : Sd → Prop} (hST : ∀ s, S s → T s) {b : Sd} (h : Rea tops rs S b) : Rea tops rs T b := by
  induction h with
  | base e => exact .base (hST _ e)
  | step _ l ih => exact .step ih l
theorem Rea.one {S : Sd → Prop} {b : Sd} (h : Rea tops rs S b) : ∃ s, S s ∧ Rea tops rs (· = s) b := by
  induction h with
  | base e => exact ⟨_, e, .base rfl⟩
  | step _ l ih => exact ih.elim fun s h => ⟨s, h.1, .step h.2 l⟩
/-- what is reached is in wherever the starts are -/
theorem Rea.in' (rok : ∀ q ∈ rs, RuleOk tops q) {S : Sd → Prop} (hS : ∀ s, S s → SideOk tops s) {st : List Int} (hg : st ∈ goods tops rs) (hi : ∀ s, S s → inB st s = true) {b : Sd} (h : Rea tops rs S b) : inB st b = true := by
  induction h with
  | base e => exact hi _ e
  | step r l ih =>
    have oa := r.ok rok hS
    obtain ⟨q, hq, h⟩ := led_iff.mp l
    have k := (goods_mem.mp hg).2 q hq
    unfold kept at k
    rw [Bool.or_eq_true] at k
    rcases h with ⟨c, rfl⟩ | ⟨c, rfl⟩
    · have := bars_out hg oa (rok q hq).1 c ih
      rw [this] at k
      exact k.resolve_left (by decide)
    · have := bars_out hg oa (rok q hq).2 c ih
      rw [this] at k
      exact k.resolve_right (by decide)
/-- the way back: who bars what is reached leads to what bars the start -/
theorem Rea.turn {w b : Sd} (h : Rea tops rs (· = w) b) : ∀ {a : Sd}, barsB tops a b = true → ∃ z, Rea tops rs (· = a) z ∧ barsB tops z w = true := by
  induction h with
  | base e => exact fun {a} h => ⟨a, .base rfl, e ▸ h⟩
  | step r l ih =>
    intro a h
    obtain ⟨q, hq, ⟨c, rfl⟩ | ⟨c, rfl⟩⟩ := led_iff.mp l
    · obtain ⟨z, hz, bz⟩ := ih (bars_symm c)
      exact ⟨z, (Rea.step (Rea.refl a) (led_iff.mpr ⟨q, hq, .inr ⟨h, rfl⟩⟩)).trans hz, bz⟩
    · obtain ⟨z, hz, bz⟩ := ih (bars_symm c)
      exact ⟨z, (Rea.step (Rea.refl a) (led_iff.mpr ⟨q, hq, .inl ⟨h, rfl⟩⟩)).trans hz, bz⟩
theorem Rea.first {w z : Sd} (h : Rea tops rs (· = w) z) : z = w ∨ ∃ q ∈ rs, ∃ f x, ((q.1 = f ∧ q.2 = x) ∨ (q.2 = f ∧ q.1 = x)) ∧ barsB tops w f = true ∧ Rea tops rs (· = x) z := by
  induction h with
  | base e => exact .inl e
  | step r l ih =>
    rcases ih with rfl | ⟨q, hq, f, x, e, c, r'⟩
    · obtain ⟨q, hq, ⟨c, rfl⟩ | ⟨c, rfl⟩⟩ := led_iff.mp l
      · exact .inr ⟨q, hq, _, _, .inl ⟨rfl, rfl⟩, c, .base rfl⟩
      · exact .inr ⟨q, hq, _, _, .inr ⟨rfl, rfl⟩, c, .base rfl⟩
    · exact .inr ⟨q, hq, f, x, e, c, .step r' l⟩
/-- what follows: for each thing the greatest "from", the least "to" -/
structure Fol (tops : List Int) (rs : List Rl) (S : Sd → Prop) (lows highs : List Int) : Prop where
  ll : lows.length = tops.length
  lh : highs.length = tops.length
  l0 : ∀ i, i < tops.length → plc lows i = 0 ∨ Rea tops rs S (i, true, plc lows i)
  h0 : ∀ i, i < tops.length → plc highs i = plc tops i ∨ Rea tops rs S (i, false, plc highs i)
  l1 : ∀ i p, Rea tops rs S (i, true, p) → p ≤ plc lows i
  h1 : ∀ i p, Rea tops rs S (i, false, p) → plc highs i ≤ p
  lz : ∀ i, i < tops.length → 0 ≤ plc lows i
  hz : ∀ i, i < tops.length → plc highs i ≤ plc tops i
def pullF (lows highs st : List Int) : List Int := (List.range st.length).map fun i => max (plc lows i) (min (plc st i) (plc highs i))
theorem pull_len (lows highs st : List Int) : (pullF lows highs st).length = st.length := by
  unfold pullF
  rw [List.length_map, List.length_range]
theorem plc_pull {lows highs st : List Int} {i : Nat} (h : i < st.length) : plc (pullF lows highs st) i = max (plc lows i) (min (plc st i) (plc highs i)) := by
  show (pullF lows highs st).getD i 0 = _
  unfold pullF
  rw [List.getD_eq_getElem?_getD, List.getElem?_map, List.getElem?_range h]
  rfl
theorem Fol.has {S : Sd → Prop} {lows highs : List Int} (F : Fol tops rs S lows highs) {st : List Int} {s : Sd} (lt : s.1 < st.length) (hs : Rea tops rs S s) (hb : plc lows s.1 ≤ plc st s.1 ∧ plc st s.1 ≤ plc highs s.1) : inB st s = true := by
  obtain ⟨i, b, p⟩ := s
  have hb1 : plc lows i ≤ plc st i := hb.1
  have hb2 : plc st i ≤ plc highs i := hb.2
  cases b with
  | true =>
    have := F.l1 i p hs
    rw [inFr (show i < st.length from lt)]
    exact Int.le_trans this hb1
  | false =>
    have := F.h1 i p hs
    rw [inTo (show i < st.length from lt)]
    exact Int.le_trans hb2 this
/-- where bounds don't cross, a good standing pulled within them is good -/
theorem Fol.good (rok : ∀ q ∈ rs, RuleOk tops q) {S : Sd → Prop} (hS : ∀ s, S s → SideOk tops s) {lows highs : List Int} (F : Fol tops rs S lows highs) (lh : ∀ i, i < tops.length → plc lows i ≤ plc highs i) {st : List Int} (hg : st ∈ goods tops rs) :
    pullF lows highs st ∈ goods tops rs ∧ ∀ s, Rea tops rs S s → inB (pullF lows highs st) s = true := by
  obtain ⟨⟨l, bd⟩, gd⟩ := goods_mem.mp hg
  have lp := pull_len lows highs st
  have hv : ∀ i, i < tops.length → plc lows i ≤ plc (pullF lows highs st) i ∧ plc (pullF lows highs st) i ≤ plc highs i := fun i hi => by
    have := lh i hi
    rw [plc_pull (by omega)]
    omega
  have has : ∀ s, Rea tops rs S s → inB (pullF lows highs st) s = true := fun s hs => by
    have lt := (hs.ok rok hS).lt
    exact F.has (by omega) hs (hv _ lt)
  -- a side that goes out is barred by what follows
  have out : ∀ s, SideOk tops s → inB st s = true → inB (pullF lows highs st) s = true ∨ ∃ z, Rea tops rs S z ∧ barsB tops z s = true := fun s ok hi => by
    obtain ⟨i, c, p⟩ := s
    have lt : i < tops.length := ok.lt
    have b : 0 ≤ p ∧ p ≤ plc tops i := ok.bd
    have l0 := F.l0 i lt
    have h0 := F.h0 i lt
    have lz := F.lz i lt
    have hz := F.hz i lt
    have bs := bd i lt
    have lhi := lh i lt
    cases c with
    | true =>
      have hi' := (inFr (by omega)).mp hi
      rw [inFr (by omega), plc_pull (by omega)]
      by_cases c : p ≤ max (plc lows i) (min (plc st i) (plc highs i))
      · exact .inl c
      · refine .inr ⟨(i, false, plc highs i), h0.resolve_left (by omega), ?_⟩
        rw [bars_iff]
        refine ⟨rfl, .inl ?_⟩
        show plc highs i < p
        omega
    | false =>
      have hi' := (inTo (by omega)).mp hi
      rw [inTo (by omega), plc_pull (by omega)]
      by_cases c : max (plc lows i) (min (plc st i) (plc highs i)) ≤ p
      · exact .inl c
      · refine .inr ⟨(i, true, plc lows i), l0.resolve_left (by omega), ?_⟩
        rw [bars_iff]
        refine ⟨rfl, .inr ?_⟩
        show p < plc lows i
        omega
  refine ⟨goods_mem.mpr ⟨⟨by omega, fun i hi => ?_⟩, fun q hq => ?_⟩, has⟩
  · have := hv i hi
    have := F.lz i hi
    have := F.hz i hi
    omega
  · have k := gd q hq
    unfold kept at k ⊢
    rw [Bool.or_eq_true] at k ⊢
    rcases k with k | k
    · rcases out q.1 (rok q hq).1 k with h | ⟨z, hz, c⟩
      · exact .inl h
      · exact .inr (has _ (.step hz (led_iff.mpr ⟨q, hq, .inl ⟨c, rfl⟩⟩)))
    · rcases out q.2 (rok q hq).2 k with h | ⟨z, hz, c⟩
      · exact .inr h
      · exact .inl (has _ (.step hz (led_iff.mpr ⟨q, hq, .inr ⟨c, rfl⟩⟩)))
theorem Fol.sound (rok : ∀ q ∈ rs, RuleOk tops q) {S : Sd → Prop} (hS : ∀ s, S s → SideOk tops s) {lows highs : List Int} (F : Fol tops rs S lows highs) {st : List Int} (hg : st ∈ goods tops rs) (hi : ∀ s, S s → inB st s = true) {i : Nat} (li : i < tops.length) : plc lows i ≤ plc st i ∧ plc st i ≤ plc highs i := by
  obtain ⟨⟨l, bd⟩, _⟩ := goods_mem.mp hg
  have b := bd i li
  constructor
  · rcases F.l0 i li with h | h
    · omega
    · exact (inFr (by omega)).mp (h.in' rok hS hg hi)
  · rcases F.h0 i li with h | h
    · omega
    · exact (inTo (by omega)).mp (h.in' rok hS hg hi)
theorem Fol.cross (rok : ∀ q ∈ rs, RuleOk tops q) {S : Sd → Prop} (hS : ∀ s, S s → SideOk tops s) {lows highs : List Int} (F : Fol tops rs S lows highs) {st : List Int} (hg : st ∈ goods tops rs) (hi : ∀ s, S s → inB st s = true) (i : Nat) (li : i < tops.length) : plc lows i ≤ plc highs i := by
  have := F.sound rok hS hg hi li
  omega
/-- some bounds follow of any sides -/
theorem fol_ex (rok : ∀ q ∈ rs, RuleOk tops q) (pl : ∀ i, i < tops.length → 0 ≤ plc tops i) {S : Sd → Prop} (hS : ∀ s, S s → SideOk tops s) : ∃ lows highs, Fol tops rs S lows highs := by
  have up : ∀ i, i < tops.length → ∃ m : Int, (m = 0 ∨ Rea tops rs S (i, true, m)) ∧ 0 ≤ m ∧ ∀ p, Rea tops rs S (i, true, p) → p ≤ m := fun i hi => by
    have main : ∀ n : Nat, (∀ p : Int, Rea tops rs S (i, true, p) → p ≤ (n : Int)) → ∃ m : Int, (m = 0 ∨ Rea tops rs S (i, true, m)) ∧ 0 ≤ m ∧ ∀ p, Rea tops rs S (i, true, p) → p ≤ m := by
      intro n
      induction n with
      | zero => exact fun h => ⟨0, .inl rfl, Int.le_refl _, fun p hp => by have := h p hp; omega⟩
      | succ n ih =>
        intro h
        by_cases c : Rea tops rs S (i, true, ((n + 1 : Nat) : Int))
        · exact ⟨_, .inr c, by omega, h⟩
        · refine ih fun p hp => ?_
          have := h p hp
          rcases Int.lt_or_eq_of_le this with l | e
          · omega
          · rw [e] at hp
            exact absurd hp c
    refine main (plc tops i).toNat fun p hp => ?_
    have := (hp.ok rok hS).bd
    have h2 : p ≤ plc tops i := this.2
    omega
  have dn : ∀ i, i < tops.length → ∃ m : Int, (m = plc tops i ∨ Rea tops rs S (i, false, m)) ∧ m ≤ plc tops i ∧ ∀ p, Rea tops rs S (i, false, p) → m ≤ p := fun i hi => by
    have main : ∀ n : Nat, (∀ p : Int, Rea tops rs S (i, false, p) → plc tops i - n ≤ p) → ∃ m : Int, (m = plc tops i ∨ Rea tops rs S (i, false, m)) ∧ m ≤ plc tops i ∧ ∀ p, Rea tops rs S (i, false, p) → m ≤ p := by
      intro n
      induction n with
      | zero => exact fun h => ⟨_, .inl rfl, Int.le_refl _, fun p hp => by have := h p hp; omega⟩
      | succ n ih =>
        intro h
        by_cases c : Rea tops rs S (i, false, plc tops i - ((n + 1 : Nat) : Int))
        · exact ⟨_, .inr c, by omega, h⟩
        · refine ih fun p hp => ?_
          have := h p hp
          rcases Int.lt_or_eq_of_le this with l | e
          · omega
          · rw [← e] at hp
            exact absurd hp c
    refine main (plc tops i).toNat fun p hp => ?_
    have := (hp.ok rok hS).bd
    have h2 : 0 ≤ p := this.1
    have := pl i hi
    omega
  let lo : Nat → Int := fun i => if h : i < tops.length then (up i h).choose else 0
  let hi : Nat → Int := fun i => if h : i < tops.length then (dn i h).choose else 0
  have rg : ∀ (f : Nat → Int) (i : Nat), i < tops.length → plc ((List.range tops.length).map f) i = f i := fun f i h => by
    show ((List.range tops.length).map f).getD i 0 = _
    rw [List.getD_eq_getElem?_getD, List.getElem?_map, List.getElem?_range h]
    rfl
  have elo : ∀ i (h : i < tops.length), lo i = (up i h).choose := fun i h => dif_pos h
  have ehi : ∀ i (h : i < tops.length), hi i = (dn i h).choose := fun i h => dif_pos h
  refine ⟨(List.range tops.length).map lo, (List.range tops.length).map hi, by simp, by simp, fun i h => ?_, fun i h => ?_, fun i p h => ?_, fun i p h => ?_, fun i h => ?_, fun i h => ?_⟩
  · rw [rg lo i h, elo i h]
    exact (up i h).choose_spec.1
  · rw [rg hi i h, ehi i h]
    exact (dn i h).choose_spec.1
  · have li : i < tops.length := (h.ok rok hS).lt
    rw [rg lo i li, elo i li]
    exact (up i li).choose_spec.2.2 p h
  · have li : i < tops.length := (h.ok rok hS).lt
    rw [rg hi i li, ehi i li]
    exact (dn i li).choose_spec.2.2 p h
  · rw [rg lo i h, elo i h]
    exact (up i h).choose_spec.2.1
  · rw [rg hi i h, ehi i h]
    exact (dn i h).choose_spec.2.1
/-- two sides to a rule: a side that leads to nothing that bars it is in at some good standing, where some is good -/
theorem some_good (rok : ∀ q ∈ rs, RuleOk tops q) (pl : ∀ i, i < tops.length → 0 ≤ plc tops i) {st : List Int} (hg : st ∈ goods tops rs) {w : Sd} (ok : SideOk tops w) : (∃ g ∈ goods tops rs, inB g w = true) ∨ ∃ z, Rea tops rs (· = w) z ∧ barsB tops z w = true := by
  have hS : ∀ s, s = w → SideOk tops s := fun s e => e ▸ ok
  obtain ⟨lows, highs, F⟩ := fol_ex rok pl hS
  by_cases c : ∀ i, i < tops.length → plc lows i ≤ plc highs i
  · obtain ⟨g, h⟩ := F.good rok hS c hg
    exact .inl ⟨_, g, h w (.base rfl)⟩
  · obtain ⟨i, h⟩ := Classical.not_forall.mp c
    obtain ⟨hi, h⟩ := Classical.not_imp.mp h
    have p0 := pl i hi
    have a : Rea tops rs (· = w) (i, true, plc lows i) := (F.l0 i hi).resolve_left fun e => by
      rcases F.h0 i hi with h' | h'
      · omega
      · have := (h'.ok rok hS).bd
        have h2 : 0 ≤ plc highs i := this.1
        omega
    have b : Rea tops rs (· = w) (i, false, plc highs i) := (F.h0 i hi).resolve_left fun e => by
      have := (a.ok rok hS).bd
      have h2 : plc lows i ≤ plc tops i := this.2
      omega
    obtain ⟨z, hz, bz⟩ := b.turn (a := (i, true, plc lows i)) (by
      rw [bars_iff]
      refine ⟨rfl, .inr ?_⟩
      show plc highs i < plc lows i
      omega)
    exact .inr ⟨z, a.trans hz, bz⟩
/-- the sides of rules that their other ones lead to -/
def RuleSd (rs : List Rl) (s : Sd) : Prop := ∃ q ∈ rs, s = q.1 ∨ s = q.2
def Tn (tops : List Int) (rs : List Rl) (s : Sd) : Prop := ∃ o, othS tops s = some o ∧ ∃ z, Rea tops rs (· = o) z ∧ withinB tops z s = true
def Frc (tops : List Int) (rs : List Rl) (s : Sd) : Prop := RuleSd rs s ∧ Tn tops rs s
theorem oth_cases {s o : Sd} (h : othS tops s = some o) : (s.2.1 = true ∧ 0 < s.2.2 ∧ o = (s.1, false, s.2.2 - 1)) ∨ (s.2.1 = false ∧ s.2.2 < plc tops s.1 ∧ o = (s.1, true, s.2.2 + 1)) := by
  obtain ⟨i, c, p⟩ := s
  cases c with
  | false =>
    change (if (0 : Int) < 0 then _ else if p < plc tops i then some (i, true, p + 1) else none) = some o at h
    rw [if_neg (by decide)] at h
    split at h
    · rename_i c
      cases h
      exact .inr ⟨rfl, c, rfl⟩
    · cases h
  | true =>
    change (if 0 < p then some (i, false, p - 1) else if plc tops i < plc tops i then _ else none) = some o at h
    split at h
    · rename_i c
      cases h
      exact .inl ⟨rfl, c, rfl⟩
    · rw [if_neg (Int.lt_irrefl _)] at h
      cases h
theorem oth_from {i : Nat} {p : Int} (h : 0 < p) : othS tops (i, true, p) = some (i, false, p - 1) := by
  show (if 0 < p then some (i, false, p - 1) else _) = _
  rw [if_pos h]
theorem oth_to {i : Nat} {p : Int} (h : p < plc tops i) : othS tops (i, false, p) = some (i, true, p + 1) := by
  show (if (0 : Int) < 0 then _ else if p < plc tops i then some (i, true, p + 1) else none) = _
  rw [if_neg (by decide), if_pos h]
theorem oth_ok {s o : Sd} (ok : SideOk tops s) (h : othS tops s = some o) : SideOk tops o := by
  have lt := ok.lt
  have b := ok.bd
  rcases oth_cases h with ⟨_, c, rfl⟩ | ⟨_, c, rfl⟩
  · exact SideOk.mk' lt (by omega) (by omega)
  · exact SideOk.mk' lt (by omega) (by omega)
theorem oth_in {st : List Int} (hg : st ∈ goods tops rs) {s o : Sd} (ok : SideOk tops s) (h : othS tops s = some o) : inB st o = !inB st s := by
  have lt := ok.lt
  have l := (goods_mem.mp hg).1.1
  rw [Bool.eq_iff_iff, Bool.not_eq_true', ← Bool.not_eq_true]
  obtain ⟨i, c, p⟩ := s
  have li : i < st.length := by
    have : i < tops.length := lt
    omega
  rcases oth_cases h with ⟨e, _, rfl⟩ | ⟨e, _, rfl⟩
  · cases (show c = true from e)
    rw [inFr li]
    exact (inTo (p := p - 1) li).trans ⟨fun h => by omega, fun h => by omega⟩
  · cases (show c = false from e)
    rw [inTo li]
    exact (inFr (p := p + 1) li).trans ⟨fun h => by omega, fun h => by omega⟩
theorem Tn.in' (rok : ∀ q ∈ rs, RuleOk tops q) {st : List Int} (hg : st ∈ goods tops rs) {s : Sd} (ok : SideOk tops s) (h : Tn tops rs s) : inB st s = true := by
  obtain ⟨o, eo, z, hz, wi⟩ := h
  have oo := oth_ok ok eo
  cases e : inB st s with
  | true => rfl
  | false =>
    have io : inB st o = true := by rw [oth_in hg ok eo, e]; rfl
    have iz := hz.in' rok (fun s (h : s = o) => h ▸ oo) hg (fun s (h : s = o) => h ▸ io)
    have oz := hz.ok rok (fun s (h : s = o) => h ▸ oo)
    rw [in_span hg oz] at iz
    rw [within_iff] at wi
    have : inB st s = true := (in_span hg ok).mpr (by
      obtain ⟨w1, w2, w3⟩ := wi
      rw [w1] at iz
      omega)
    rw [e] at this
    cases this
theorem frc_ok (rok : ∀ q ∈ rs, RuleOk tops q) {s : Sd} (h : Frc tops rs s) : SideOk tops s := by
  obtain ⟨⟨q, hq, rfl | rfl⟩, _⟩ := h
  · exact (rok q hq).1
  · exact (rok q hq).2
theorem reach_rule {w z : Sd} (h : Rea tops rs (· = w) z) (ne : z ≠ w) : RuleSd rs z := by
  cases h with
  | base e => exact absurd e ne
  | step _ l =>
    obtain ⟨q, hq, ⟨_, rfl⟩ | ⟨_, rfl⟩⟩ := led_iff.mp l
    · exact ⟨q, hq, .inr rfl⟩
    · exact ⟨q, hq, .inl rfl⟩
/-- the bounds that follow of what is forced are taken by good standings -/
theorem least_ex (rok : ∀ q ∈ rs, RuleOk tops q) (pl : ∀ i, i < tops.length → 0 ≤ plc tops i) {st : List Int} (hg : st ∈ goods tops rs) {lows highs : List Int} (F : Fol tops rs (Frc tops rs) lows highs) {i : Nat} (li : i < tops.length) : ∃ g ∈ goods tops rs, plc g i = plc lows i := by
  have hS : ∀ s, Frc tops rs s → SideOk tops s := fun s h => frc_ok rok h
  have hin : ∀ g ∈ goods tops rs, ∀ s, Frc tops rs s → inB g s = true := fun g hg s h => h.2.in' rok hg (hS s h)
  have l0 := F.lz i li
  have lt : plc lows i ≤ plc tops i := by
    have := F.cross rok hS hg (hin st hg) i li
    have := F.hz i li
    omega
  have okw : SideOk tops (i, false, plc lows i) := SideOk.mk' li l0 lt
  rcases some_good rok pl hg okw with ⟨g, hg', ig⟩ | ⟨z, hz, bz⟩
  · refine ⟨g, hg', ?_⟩
    have := (in_span hg' okw).mp ig
    have h2 : plc g i ≤ plc lows i := this.2
    have := (F.sound rok hS hg' (hin g hg') li).1
    omega
  · exfalso
    have oz := hz.ok rok (fun s (h : s = _) => h ▸ okw)
    have bd := oz.bd
    rw [bars_iff] at bz
    obtain ⟨e1, e2⟩ := bz
    obtain ⟨k, c, q⟩ := z
    simp only at e1 bd
    subst e1
    cases c with
    | false =>
      have e2' : q < 0 ∨ plc lows k < 0 := e2
      omega
    | true =>
      have e2' : plc tops k < 0 ∨ plc lows k < q := e2
      have hq : plc lows k < q := by omega
      have ne : ((k, true, q) : Sd) ≠ (k, false, plc lows k) := fun e => by cases e
      rcases hz.first with e | ⟨r, hr, f, x, ef, bf, rx⟩
      · exact ne e
      · have of' : SideOk tops f := by
          rcases ef with ⟨rfl, _⟩ | ⟨rfl, _⟩
          · exact (rok r hr).1
          · exact (rok r hr).2
        have rf : RuleSd rs f := by
          rcases ef with ⟨rfl, _⟩ | ⟨rfl, _⟩
          · exact ⟨r, hr, .inl rfl⟩
          · exact ⟨r, hr, .inr rfl⟩
        have bf' := of'.bd
        rw [bars_iff] at bf
        obtain ⟨e1, e2⟩ := bf
        obtain ⟨k', c, p⟩ := f
        simp only at e1 bf'
        subst e1
        cases c with
        | false =>
          have e2' : plc lows k < 0 ∨ p < 0 := e2
          omega
        | true =>
          have e2' : plc lows k < p ∨ plc tops k < 0 := e2
          have hp : plc lows k < p := by omega
          have led : ∀ m : Int, m < p → x ∈ ledL tops rs (k, false, m) := fun m hm => by
            have bb : barsB tops (k, false, m) (k, true, p) = true := by
              rw [bars_iff]
              exact ⟨rfl, .inl hm⟩
            rcases ef with ⟨e, rfl⟩ | ⟨e, rfl⟩
            · exact led_iff.mpr ⟨r, hr, .inl ⟨by rw [e]; exact bb, rfl⟩⟩
            · exact led_iff.mpr ⟨r, hr, .inr ⟨by rw [e]; exact bb, rfl⟩⟩
          by_cases c : p ≤ q
          · have : Frc tops rs (k, true, p) := by
              refine ⟨rf, (k, false, p - 1), oth_from (by omega), (k, true, q), (Rea.step (Rea.refl _) (led (p - 1) (by omega))).trans rx, ?_⟩
              rw [within_iff]
              exact ⟨rfl, c, Int.le_refl _⟩
            have := F.l1 k p (.base this)
            omega
          · have : Frc tops rs (k, true, q) := by
              refine ⟨reach_rule hz ne, (k, false, q - 1), oth_from (by omega), (k, true, q), (Rea.step (Rea.refl _) (led (q - 1) (by omega))).trans rx, ?_⟩
              rw [within_iff]
              exact ⟨rfl, Int.le_refl _, Int.le_refl _⟩
            have := F.l1 k q (.base this)
            omega
theorem most_ex (rok : ∀ q ∈ rs, RuleOk tops q) (pl : ∀ i, i < tops.length → 0 ≤ plc tops i) {st : List Int} (hg : st ∈ goods tops rs) {lows highs : List Int} (F : Fol tops rs (Frc tops rs) lows highs) {i : Nat} (li : i < tops.length) : ∃ g ∈ goods tops rs, plc g i = plc highs i := by
  have hS : ∀ s, Frc tops rs s → SideOk tops s := fun s h => frc_ok rok h
  have hin : ∀ g ∈ goods tops rs, ∀ s, Frc tops rs s → inB g s = true := fun g hg s h => h.2.in' rok hg (hS s h)
  have l0 := F.hz i li
  have lt : 0 ≤ plc highs i := by
    have := F.cross rok hS hg (hin st hg) i li
    have := F.lz i li
    omega
  have okw : SideOk tops (i, true, plc highs i) := SideOk.mk' li lt l0
  rcases some_good rok pl hg okw with ⟨g, hg', ig⟩ | ⟨z, hz, bz⟩
  · refine ⟨g, hg', ?_⟩
    have := (in_span hg' okw).mp ig
    have h2 : plc highs i ≤ plc g i := this.1
    have := (F.sound rok hS hg' (hin g hg') li).2
    omega
  · exfalso
    have oz := hz.ok rok (fun s (h : s = _) => h ▸ okw)
    have bd := oz.bd
    rw [bars_iff] at bz
    obtain ⟨e1, e2⟩ := bz
    obtain ⟨k, c, q⟩ := z
    simp only at e1 bd
    subst e1
    cases c with
    | true =>
      have e2' : plc tops k < plc highs k ∨ plc tops k < q := e2
      omega
    | false =>
      have e2' : q < plc highs k ∨ plc tops k < 0 := e2
      have hq : q < plc highs k := by omega
      have ne : ((k, false, q) : Sd) ≠ (k, true, plc highs k) := fun e => by cases e
      rcases hz.first with e | ⟨r, hr, f, x, ef, bf, rx⟩
      · exact ne e
      · have of' : SideOk tops f := by
          rcases ef with ⟨rfl, _⟩ | ⟨rfl, _⟩
          · exact (rok r hr).1
          · exact (rok r hr).2
        have rf : RuleSd rs f := by
          rcases ef with ⟨rfl, _⟩ | ⟨rfl, _⟩
          · exact ⟨r, hr, .inl rfl⟩
          · exact ⟨r, hr, .inr rfl⟩
        have bf' := of'.bd
        rw [bars_iff] at bf
        obtain ⟨e1, e2⟩ := bf
        obtain ⟨k', c, p⟩ := f
        simp only at e1 bf'
        subst e1
        cases c with
        | true =>
          have e2' : plc tops k < p ∨ plc tops k < plc highs k := e2
          omega
        | false =>
          have e2' : plc tops k < 0 ∨ p < plc highs k := e2
          have hp : p < plc highs k := by omega
          have led : ∀ m : Int, p < m → x ∈ ledL tops rs (k, true, m) := fun m hm => by
            have bb : barsB tops (k, true, m) (k, false, p) = true := by
              rw [bars_iff]
              exact ⟨rfl, .inr hm⟩
            rcases ef with ⟨e, rfl⟩ | ⟨e, rfl⟩
            · exact led_iff.mpr ⟨r, hr, .inl ⟨by rw [e]; exact bb, rfl⟩⟩
            · exact led_iff.mpr ⟨r, hr, .inr ⟨by rw [e]; exact bb, rfl⟩⟩
          have oth : ∀ m : Int, m < plc highs k → othS tops (k, false, m) = some (k, true, m + 1) := fun m hm => oth_to (by omega)
          by_cases c : q ≤ p
          · have : Frc tops rs (k, false, p) := by
              refine ⟨rf, (k, true, p + 1), oth p hp, (k, false, q), (Rea.step (Rea.refl _) (led (p + 1) (by omega))).trans rx, ?_⟩
              rw [within_iff]
              exact ⟨rfl, Int.le_refl _, c⟩
            have := F.h1 k p (.base this)
            omega
          · have : Frc tops rs (k, false, q) := by
              refine ⟨reach_rule hz ne, (k, true, q + 1), oth q hq, (k, false, q), (Rea.step (Rea.refl _) (led (q + 1) (by omega))).trans rx, ?_⟩
              rw [within_iff]
              exact ⟨rfl, Int.le_refl _, Int.le_refl _⟩
            have := F.h1 k q (.base this)
            omega
end
end K11

set_option Elab.async false
set_option linter.all false
set_option maxRecDepth 100000
namespace K11
open PySem PySem.Spec PyProof.Rows L2 NB
theorem tand_join {c x : Bool} {tb : TE} {σ : L2.St} {H : Hp} {K : VK} (hb : ∀ Q : VK, Q (.bl x) H → tb σ H Q) (q : K (.bl (c && x)) H) : if c = true then tb σ H K else K (.bl false) H := by
  cases c with
  | true => exact hb K q
  | false => exact q
theorem tif_join {c : Bool} {v : V} {ta tb : TE} {σ : L2.St} {H : Hp} {K : VK} (ha : c = true → ∀ Q : VK, Q v H → ta σ H Q) (hb : ¬ c = true → ∀ Q : VK, Q v H → tb σ H Q) (q : K v H) : if c = true then ta σ H K else tb σ H K := by
  cases c with
  | true => exact ha rfl K q
  | false => exact hb (by simp) K q
theorem tand_joinT {c x : Bool} {u : TT} {σ : L2.St} {H : Hp} {Q : Bool → Hp → Prop} (hu : ∀ Q : Bool → Hp → Prop, Q x H → u σ H Q) (q : Q (c && x) H) : if c = true then u σ H Q else Q false H := by
  cases c with
  | true => exact hu Q q
  | false => exact q
theorem tor_join {c x : Bool} {u : TT} {σ : L2.St} {H : Hp} {Q : Bool → Hp → Prop} (hu : ∀ Q : Bool → Hp → Prop, Q x H → u σ H Q) (q : Q (c || x) H) : if c = true then Q true H else u σ H Q := by
  cases c with
  | true => exact q
  | false => exact hu Q q

/-! ### sides: spans, the other one, what bars and what is within -/
theorem iteTr {c : Bool} {A B : Prop} (e : c = true) (h : A) : if c = true then A else B := by rw [e]; exact h
theorem iteFa {c : Bool} {A B : Prop} (e : c = false) (h : B) : if c = true then A else B := by rw [e]; exact h
theorem Room.u1 {k : Nat} {A : Around} (r : Room k A) : A.units + 1 < cLine := by
  have := r.un
  omega
theorem plc_at {xs : List Int} {i : Nat} (h : i < xs.length) : atI (xs.map V.int) (i : Int) = some (.int (plc xs i)) := by
  rw [plc_get h]
  exact at_int h
/-- None, or a side -/
def OthAt (H : Hp) (v : V) : Option Sd → Prop
  | none => v = .non
  | some s => ∃ g, v = .ref g ∧ SideAt H g s
theorem OthAt.keep {H H' : Hp} {v : V} {o : Option Sd} (h : OthAt H v o) (k : Keep H H') : OthAt H' v o := by
  cases o with
  | none => exact h
  | some s =>
    obtain ⟨g, e, hs⟩ := h
    exact ⟨g, e, hs.keep k⟩
abbrev sdR (L : List (Addr × Sd)) : List V := L.map fun z => V.ref z.1
def SdsAt (H : Hp) (L : List (Addr × Sd)) : Prop := ∀ z ∈ L, SideAt H z.1 z.2
theorem SdsAt.keep {H H' : Hp} {L : List (Addr × Sd)} (h : SdsAt H L) (k : Keep H H') : SdsAt H' L := fun z hz => (h z hz).keep k
theorem SdsAt.snoc {H : Hp} {L : List (Addr × Sd)} {z : Addr × Sd} (h : SdsAt H L) (hz : SideAt H z.1 z.2) : SdsAt H (L ++ [z]) := fun y hy => by
  rcases List.mem_append.mp hy with h' | h'
  · exact h y h'
  · rw [List.mem_singleton.mp h']
    exact hz
section
variable {P : Program} {w : World} {K : PySem.W.Frag} {mg : Str → Option Value} {base : Heap}
def spSpan (C : Addr) : Sp := fun vs H Q _ => ∃ (x p : Addr) (tops : List Int) (rs : List Rl) (sd : Sd), vs = [.ref x, .ref p] ∧ PlanAt C H x tops rs ∧ SideAt H p sd ∧ SideOk tops sd ∧
  ∀ H' g, Same H H' → H' g = some (.tup [.int (loS sd), .int (hiS tops sd)]) → Q (.ref g) H'
abbrev a_span : Stmt := topS 13
abbrev n_span : List Str := ["plan", "side", "thing", "word", "place"]
theorem sc_span : FnScope n_span ["plan", "side"] (defScope a_span) := ⟨rfl, rfl, rfl, by decide +kernel, rfl, by decide +kernel, by decide +kernel⟩
set_option maxHeartbeats 8000000 in
theorem ok_span {f  : Addr} {fd  : FuncData} {k : Nat} {C : Addr} (F : Fun K "span" "span" a_span f fd)  (T : PlanTxt K mg C)  : FnOk P w K mg base CX0 (k + 1) f fd ["plan", "side"] (spSpan C) := by
  refine F.ok sc_span (fun vs H Q E h => ?_) (fun cdv A outer s H vs Q E hr h => ?_)
  · obtain ⟨x, p, tops, rs, sd, rfl, _⟩ := h
    rfl
  · obtain ⟨x, p, tops, rs, sd, rfl, ⟨dx, t, R, ex, et, hR⟩, hs, ok, q⟩ := h
    refine ⟨_, (pss_cons (ps_asg (pv 1) (pg_tup rfl (pgs_cons (pg_name (i := 2) sc_span.nd rfl (.inl rfl)) (pgs_cons (pg_name (i := 3) sc_span.nd rfl (.inl rfl)) (pgs_cons (pg_name (i := 4) sc_span.nd rfl (.inl rfl)) pgs_nil)))))
      (pss_cons (ps_if (pt_cmpR op_eq (pv 3) pe_str (nomark _)) (pss_one (ps_ret (pe_tup (pa_cons (pv 4) (pa_cons (pe_ix ix_tup (pe_fld (pv 0) rfl) (pv 2) (fun _ _ => rfl)) pa_nil))))) pss_nil)
      (pss_one (ps_ret (pe_tup (pa_cons pe_int (pa_cons (pv 4) pa_nil))))))), ?_⟩
    have z2 : (2 : Nat) ≤ sizeLine := by decide
    have at1 := plc_at ok.lt
    refine ⟨.ref p, rfl, p, _, rfl, .inl (.inl hs), rfl, _, _, rfl, _, _, rfl, _, _, rfl, rfl, _, rfl, rfl, _, rfl, ?_⟩
    obtain ⟨i, b, m⟩ := sd
    cases b with
    | true =>
      refine iteTr w_from ⟨_, rfl, .ref x, rfl, x, C, dx, _, _, rfl, ex, T.cl, T.nT, look_tops _ _, _, rfl, t, _, i, _, rfl, rfl, .inl (.inl et), at1, z2, fun g ng => q _ g (same_new ng) ?_⟩
      rw [upd_same]
      rfl
    | false =>
      refine iteFa w_to ⟨_, rfl, z2, fun g ng => q _ g (same_new ng) ?_⟩
      rw [upd_same]
      rfl
def spOth (C : Addr) : Sp := fun vs H Q _ => ∃ (x p : Addr) (tops : List Int) (rs : List Rl) (sd : Sd), vs = [.ref x, .ref p] ∧ PlanAt C H x tops rs ∧ SideAt H p sd ∧ SideOk tops sd ∧
  ∀ H' v, Same H H' → OthAt H' v (othS tops sd) → Q v H'
def spTwo (C : Addr) (B : List Int → Sd → Sd → Bool) : Sp := fun vs H Q _ => ∃ (x p r : Addr) (tops : List Int) (rs : List Rl) (a b : Sd), vs = [.ref x, .ref p, .ref r] ∧ PlanAt C H x tops rs ∧ SideAt H p a ∧ SideAt H r b ∧ SideOk tops a ∧ SideOk tops b ∧
  ∀ H', Same H H' → Q (.bl (B tops a b)) H'
abbrev a_bars : Stmt := topS 14
abbrev n_bars : List Str := ["plan", "one", "other", "low", "high", "least", "most"]
theorem sc_bars : FnScope n_bars ["plan", "one", "other"] (defScope a_bars) := ⟨rfl, rfl, rfl, by decide +kernel, rfl, by decide +kernel, by decide +kernel⟩
set_option maxHeartbeats 8000000 in
theorem ok_bars {f fSn : Addr} {fd fdSn : FuncData} {k : Nat} {C : Addr} (F : Fun K "bars" "bars" a_bars f fd) (Sn : Kn P w K mg base 1 "span" ["plan", "side"] (spSpan C) fSn fdSn)   : FnOk P w K mg base CX0 (k + 2) f fd ["plan", "one", "other"] (spTwo C barsB) := by
  refine F.ok sc_bars (fun vs H Q E h => ?_) (fun cdv A outer s H vs Q E hr h => ?_)
  · obtain ⟨x, p, r, tops, rs, a, b, rfl, _⟩ := h
    rfl
  · obtain ⟨x, p, r, tops, rs, a, b, rfl, hp, hs, ht, oa, ob, q⟩ := h
    refine ⟨_, (pss_cons (ps_if (pt_cmpR op_ne (pe_ix ix_tup (pv 1) pe_int (fun _ _ => rfl)) (pe_ix ix_tup (pv 2) pe_int (fun _ _ => rfl)) (nomark _)) (pss_one (ps_ret pe_bl)) pss_nil)
      (pss_cons (ps_asg (pe_kn Sn hr (by omega) (pa_cons (pv 0) (pa_cons (pv 1) pa_nil))) (pg_tup rfl (pgs_cons (pg_name (i := 3) sc_bars.nd rfl (.inl rfl)) (pgs_cons (pg_name (i := 4) sc_bars.nd rfl (.inl rfl)) pgs_nil))))
      (pss_cons (ps_asg (pe_kn Sn hr (by omega) (pa_cons (pv 0) (pa_cons (pv 2) pa_nil))) (pg_tup rfl (pgs_cons (pg_name (i := 5) sc_bars.nd rfl (.inl rfl)) (pgs_cons (pg_name (i := 6) sc_bars.nd rfl (.inl rfl)) pgs_nil))))
      (pss_one (ps_ret (pe_or (pe_cmpR op_lt (pv 4) (pv 5) (nomark _)) (pe_one (pe_cmpR op_lt (pv 6) (pv 3) (nomark _))))))))), ?_⟩
    refine ⟨.ref p, rfl, p, _, 0, _, rfl, rfl, .inl (.inl hs), rfl, .ref r, rfl, r, _, 0, _, rfl, rfl, .inl (.inl ht), rfl, rfl, _, rfl, ite2 (fun c => ?_) (fun c => ?_)⟩
    · have ne : ¬ a.1 = b.1 := fun z => by
        rw [z] at c
        simp at c
      have e : barsB tops a b = false := by
        unfold barsB
        rw [decide_eq_false ne, Bool.false_and]
      rw [e] at q
      exact q H (Same.refl H)
    · have eq : a.1 = b.1 := by
        rw [Bool.not_eq_true, Bool.not_eq_false'] at c
        have := of_decide_eq_true c
        injection this with h
        omega
      refine ⟨.ref x, rfl, .ref p, rfl, x, p, tops, rs, a, rfl, hp, hs, oa, fun H1 g1 s1 e1 => ⟨g1, _, rfl, .inl (.inl e1), rfl, _, _, rfl, _, _, rfl, rfl, ?_⟩⟩
      refine ⟨.ref x, rfl, .ref r, rfl, x, r, tops, rs, b, rfl, hp.keep (.same s1), ht.keep (.same s1), ob, fun H2 g2 s2 e2 => ⟨g2, _, rfl, .inl (.inl e2), rfl, _, _, rfl, _, _, rfl, rfl, ?_⟩⟩
      have e : barsB tops a b = (decide (hiS tops a < loS b) || decide (hiS tops b < loS a)) := by
        unfold barsB
        rw [decide_eq_true eq, Bool.true_and]
      rw [e] at q
      refine ⟨_, rfl, _, rfl, _, _, rfl, rfl, _, rfl, ite2 (fun c => ?_) (fun c => ?_)⟩
      · rw [c, Bool.true_or] at q
        exact q H2 (s1.trans s2)
      · rw [Bool.not_eq_true] at c
        rw [c, Bool.false_or] at q
        exact ⟨_, rfl, _, rfl, _, _, rfl, rfl, q H2 (s1.trans s2)⟩
theorem led_take (tops : List Int) (sd : Sd) (rs : List Rl) (i : Nat) (q : Rl) (h : rs[i]? = some q) : ledL tops (rs.take (i + 1)) sd = ledL tops (rs.take i) sd ++ led1 tops sd q := by
  unfold ledL
  rw [List.take_add_one, h, List.flatMap_append]
  simp
theorem led_len (tops : List Int) (sd : Sd) (rs : List Rl) : (ledL tops rs sd).length ≤ 2 * rs.length := by
  unfold ledL
  induction rs with
  | nil => exact Nat.le_refl _
  | cons q rs ih =>
    rw [List.flatMap_cons, List.length_append, List.length_cons]
    have : (led1 tops sd q).length ≤ 2 := by
      unfold led1
      rw [List.length_append]
      split <;> split <;> simp
    omega
def spLed (C : Addr) : Sp := fun vs H Q _ => ∃ (x p : Addr) (tops : List Int) (rs : List Rl) (sd : Sd), vs = [.ref x, .ref p] ∧ PlanAt C H x tops rs ∧ SideAt H p sd ∧ SideOk tops sd ∧ (∀ q ∈ rs, RuleOk tops q) ∧ rs.length ≤ 40 ∧
  ∀ H' l L, Same H H' → H l = none → H' l = some (.lst (sdR L)) → SdsAt H' L → L.map (·.2) = ledL tops rs sd → Q (.ref l) H'
abbrev a_led_by_rules : Stmt := topS 15
abbrev n_led_by_rules : List Str := ["plan", "side", "found", "first", "second"]
theorem sc_led_by_rules : FnScope n_led_by_rules ["plan", "side"] (defScope a_led_by_rules) := ⟨rfl, rfl, rfl, by decide +kernel, rfl, by decide +kernel, by decide +kernel⟩
set_option maxHeartbeats 8000000 in
theorem ok_led_by_rules {f fBr : Addr} {fd fdBr : FuncData} {k : Nat} {C : Addr} (F : Fun K "led_by_rules" "led_by_rules" a_led_by_rules f fd) (Br : Kn P w K mg base 2 "bars" ["plan", "one", "other"] (spTwo C barsB) fBr fdBr) (T : PlanTxt K mg C)  : FnOk P w K mg base CX0 (k + 3) f fd ["plan", "side"] (spLed C) := by
  refine F.ok sc_led_by_rules (fun vs H Q E h => ?_) (fun cdv A outer s H vs Q E hr h => ?_)
  · obtain ⟨x, p, tops, rs, sd, rfl, _⟩ := h
    rfl
  · obtain ⟨x, p, tops, rs, sd, rfl, hp, hs, ok, rok, l40, q⟩ := h
    refine ⟨_, (pss_cons (ps_set (i := 2) sc_led_by_rules.nd rfl (.inl rfl) (pe_lst pa_nil))
      (pss_cons (ps_for PassesOwn.never rfl (pi_tup (pe_fld (pv 0) rfl)) (pg_tup rfl (pgs_cons (pg_name (i := 3) sc_led_by_rules.nd rfl (.inl rfl)) (pgs_cons (pg_name (i := 4) sc_led_by_rules.nd rfl (.inl rfl)) pgs_nil)))
        (C8.pss_cut (ps_if (pt_val (pe_kn Br hr (by omega) (pa_cons (pv 0) (pa_cons (pv 1) (pa_cons (pv 3) pa_nil))))) (pss_one (ps_expr (pe_bm PySem.F.plainAttrs_list PySem.F.slot_list_append PySem.F.type_list_append mt_append (pv 2) (pa_cons (pv 4) pa_nil)))) pss_nil)
      (pss_one (ps_if (pt_val (pe_kn Br hr (by omega) (pa_cons (pv 0) (pa_cons (pv 1) (pa_cons (pv 4) pa_nil))))) (pss_one (ps_expr (pe_bm PySem.F.plainAttrs_list PySem.F.slot_list_append PySem.F.type_list_append mt_append (pv 2) (pa_cons (pv 3) pa_nil)))) pss_nil))))
      (pss_one (ps_ret (pv 2))))), ?_⟩
    have hp' := hp
    obtain ⟨dx, t, R, ex, et, as, eR, la, ha⟩ := hp'
    refine ⟨Nat.zero_le _, fun l nl => ?_⟩
    have s0 : Same H (upd H l (.lst [])) := same_new nl
    refine ⟨.ref x, rfl, x, C, dx, _, _, rfl, s0 _ _ ex, T.cl, T.nR, look_rules _ _, R, rfl, ⟨_, .inl (.inl (s0 _ _ eR))⟩, for_it (walk_tup (xs := as.map V.ref)) (fun i σ H' => (∃ u3 u4, σ = [some (.ref x), some (.ref p), some (.ref l), u3, u4]) ∧ Same H H' ∧ ∃ L, H' l = some (.lst (sdR L)) ∧ SdsAt H' L ∧ L.map (·.2) = ledL tops (rs.take i) sd)
      ⟨⟨none, none, rfl⟩, s0, [], upd_same, (fun _ h => absurd h List.not_mem_nil), rfl⟩ (fun i σ H' _ y => .inl (.inl (y.2.1 _ _ eR))) (fun i v σ H1 H2 hi y z => ?_) (fun σ H1 y => ?_)⟩
    · obtain ⟨⟨u3, u4, rfl⟩, s1, L, el, hL, eL⟩ := y
      obtain ⟨rfl, gv⟩ := z
      obtain ⟨r, er, rfl⟩ := mapGet gv
      have hi' : i < as.length := by simpa using hi
      have eq : rs[i]? = some rs[i] := List.getElem?_eq_getElem (by omega)
      have okq := rok _ (List.getElem_mem (show i < rs.length by omega))
      obtain ⟨p1, p2, eR1, h1, h2⟩ := (ha i r _ er eq).keep (.same s1)
      have lL : L.length ≤ 80 := by
        have := congrArg List.length eL
        rw [List.length_map] at this
        have h := led_len tops sd (rs.take i)
        rw [List.length_take] at h
        omega
      refine ⟨r, _, rfl, .inl (.inl eR1), rfl, _, _, rfl, _, _, rfl, rfl, ?_⟩
      refine ⟨fun σ H' => σ = [some (.ref x), some (.ref p), some (.ref l), some (.ref p1), some (.ref p2)] ∧ Same H H' ∧ Keep H2 H' ∧ ∃ L', H' l = some (.lst (sdR L')) ∧ SdsAt H' L' ∧ L'.map (·.2) = ledL tops (rs.take i) sd ++ (if barsB tops sd rs[i].1 then [rs[i].2] else []), ?_, fun σ H' y => ?_⟩
      · refine ⟨.ref x, rfl, .ref p, rfl, .ref p1, rfl, x, p, p1, tops, rs, sd, _, rfl, hp.keep (.same s1), hs.keep (.same s1), h1, ok, okq.1, fun H3 s3 => ⟨_, rfl, ite2 (fun c => ?_) (fun c => ?_)⟩⟩
        · have el3 := s3 _ _ el
          refine ⟨.ref l, rfl, .inl ⟨rfl, _, .inl (.inl el3)⟩, .ref p2, rfl, l, _, _, rfl, rfl, el3, by rw [List.length_map]; exact small1000 (by omega), rfl, same_over (s1.trans s3) nl, (Keep.same s3).trans (Keep.upd el3), L ++ [(p2, rs[i].2)], by rw [upd_same]; simp [sdR], ((hL.keep (.same s3)).keep (Keep.upd el3)).snoc ((h2.keep (.same s3)).keep (Keep.upd el3)), ?_⟩
          rw [List.map_append, eL, if_pos c]
          rfl
        · refine ⟨rfl, s1.trans s3, Keep.same s3, L, s3 _ _ el, hL.keep (.same s3), ?_⟩
          rw [if_neg c, List.append_nil]
          exact eL
      · obtain ⟨rfl, s3, k3, L', el', hL', eL'⟩ := y
        have lL' : L'.length ≤ 81 := by
          have := congrArg List.length eL'
          rw [List.length_map, List.length_append, ← eL, List.length_map] at this
          have : (if barsB tops sd rs[i].1 then [rs[i].2] else []).length ≤ 1 := by split <;> simp
          omega
        have tk : ledL tops (rs.take (i + 1)) sd = (ledL tops (rs.take i) sd ++ (if barsB tops sd rs[i].1 then [rs[i].2] else [])) ++ (if barsB tops sd rs[i].2 then [rs[i].1] else []) := by
          rw [led_take tops sd rs i _ eq, List.append_assoc]
          rfl
        refine ⟨.ref x, rfl, .ref p, rfl, .ref p2, rfl, x, p, p2, tops, rs, sd, _, rfl, hp.keep (.same s3), hs.keep (.same s3), h2.keep k3, ok, okq.2, fun H4 s4 => ⟨_, rfl, ite2 (fun c => ?_) (fun c => ?_)⟩⟩
        · have el4 := s4 _ _ el'
          refine ⟨.ref l, rfl, .inl ⟨rfl, _, .inl (.inl el4)⟩, .ref p1, rfl, l, _, _, rfl, rfl, el4, by rw [List.length_map]; exact small1000 (by omega), ⟨_, _, rfl⟩, same_over (s3.trans s4) nl, L' ++ [(p1, rs[i].1)], by rw [upd_same]; simp [sdR], ((hL'.keep (.same s4)).keep (Keep.upd el4)).snoc (((h1.keep k3).keep (.same s4)).keep (Keep.upd el4)), ?_⟩
          rw [List.map_append, eL', tk, if_pos c]
          rfl
        · refine ⟨⟨_, _, rfl⟩, s3.trans s4, L', s4 _ _ el', hL'.keep (.same s4), ?_⟩
          rw [tk, eL', if_neg c, List.append_nil]
    · obtain ⟨⟨u3, u4, rfl⟩, s1, L, el, hL, eL⟩ := y
      rw [List.length_map, la, List.take_length] at eL
      exact ⟨_, rfl, q H1 l L s1 nl el hL eL⟩
end
end K11

set_option Elab.async false
set_option linter.all false
set_option maxRecDepth 100000
set_option maxHeartbeats 1000000
/-! Dict comprehensions whose keys are tuples: one clause, and two. -/
namespace NB
open PySem PySem.Spec PyProof.Rows L2

section
variable {X : Cx} {pins : List (Addr × Obj)} {σ : L2.St} {H : Hp} {s : Shared}
theorem put_tup {D b : Addr} {kvs : List (List Key × V)} {k : List Key} {v : V} {r : Value} {Q : Unit → Shared → Prop} {E : Value → Shared → Prop} (hu : X.A.units + 1 < cLine) (I : Inv X pins σ H s) (hD : H D = some (.dT kvs)) (eb : H b = some (.tup (k.map kV))) (hz : kvs.length < sizeLine) (rv : RelV v r)
    (h : ∀ s', Inv X pins σ (upd H D (.dT (putK kvs k v))) s' → Q () s') : wpAny (model X.prog X.w) X.A (dictSet D (.ref b) r) Q E s := by
  obtain ⟨zl, zd, es, rel, dd⟩ := dt_of I.hok hD
  have l1 : es.length ≤ sizeLine := by rw [← Paired.length rel]; exact zl
  have l2 : (putK kvs k v).length ≤ sizeLine := by
    have := length_putK kvs k v
    omega
  refine wpAny_dictSet_heap (show (tupleKind _).room X.A from Nat.lt_of_succ_lt hu) (key_of I.hok eb) dd (fun g dg sb => h _ ?_) l1
  obtain ⟨q, fs, ep, e1, e2, e3, e4, _, e5⟩ := dg
  refine d_write I (by rw [hD]; trivial) sb ⟨q, e1⟩ ⟨l2, zd, _, (rel.put k eb rv).keeps fun c ys ec => ?_, q, fs, ep, e1, e2, e3, e4, e5⟩
  rw [upd_ne (ne_of ec hD (fun z => by cases z))]
  exact ec
end

/-- where a walk stands, within a block -/
def Lp (Y : Cx) (pp : List (Addr × Obj)) (σ0 : L2.St) (fp : List Addr) (tn : Nat → Heap → Prop) (W : Nat → Nat → Hp → Prop) (n : Nat) (s : Shared) : Prop :=
  ∃ i H, Inv Y pp σ0 H s ∧ tn i s.heap ∧ (∀ b ∈ fp, H b = none) ∧ W i n H
/-- what a walk asks at each place: its end, or a turn that leads on -/
def Stp (J : It) (W : Nat → Nat → Hp → Prop) (Ed : Hp → Prop) (B : V → Hp → (Hp → Prop) → Prop) : Prop :=
  ∀ i m H, W i m H → (J.stop i H ∧ Ed H) ∨ (J.go i H ∧ ∃ Nx : Hp → Prop, (∀ H', Nx H' → ∃ m', m' < m ∧ W (i + 1) m' H') ∧ ∀ x H', J.yld i H x H' → B x H' Nx)
theorem Lp.turn {Y : Cx} {pp : List (Addr × Obj)} {σ0 : L2.St} {tg : Expr} {J : It} {fp : List Addr} {it : Addr} {tn : Nat → Heap → Prop} {W : Nat → Nat → Hp → Prop} {Ed : Hp → Prop} {B : V → Hp → (Hp → Prop) → Prop} {n : Nat} {s : Shared} {E : Value → Shared → Prop}
    (T : Turn Y.prog Y.w Y.K tg J fp it tn) (hc : Y.calm = true) (hf : ∀ (H' : Hp) (σ' : L2.St) (s' : Shared), (∀ b ∈ fp, H' b = none) → Inv Y pp σ' H' s' → ∀ b ∈ fp, FpOk Y pp H' b) (st : Stp J W Ed B) (h : Lp Y pp σ0 fp tn W n s) :
    wpAny (model Y.prog Y.w) Y.A (pyNext (.ref it)) (fun r s1 => match r with
      | none => ∃ H1, Inv Y pp σ0 H1 s1 ∧ Ed H1
      | some u => wpAny (model Y.prog Y.w) Y.A (letOwnedTupleGo tg (.ref it) u) (fun _ s2 => ∃ (x : V) (H2 : Hp) (pq : List (Addr × Obj)) (Nx : Hp → Prop), Inv Y (pp ++ pq) σ0 H2 s2 ∧ RelV x u ∧ B x H2 Nx ∧
          ∀ (σ' : L2.St) (s' : Shared) (H' : Hp), Inv Y (pp ++ pq) σ' H' s' → σ0.length = σ'.length → (∀ (j : Nat) v, σ0[j]? = some (some v) → σ'[j]? = some (some v)) → Nx H' → ∃ m, m < n ∧ Lp Y pp σ0 fp tn W m s') E s1) E s := by
  obtain ⟨i, H1, I1, t1, f1, w1⟩ := h
  rcases st i n H1 w1 with ⟨sp, ed⟩ | ⟨go, Nx, nx, yl⟩
  · refine thn (T.done Y rfl rfl rfl hc i pp s σ0 H1 E I1 (hf _ _ _ f1 I1) t1 sp) fun r s1 h => ?_
    obtain ⟨rfl, I2⟩ := h
    exact ⟨H1, I2, ed⟩
  · refine thn (T.item Y rfl rfl rfl hc i pp s σ0 H1 E I1 (hf _ _ _ f1 I1) t1 go) fun r s1 h => ?_
    obtain ⟨u, rfl, h⟩ := h
    refine thn h fun _ s2 h => ?_
    obtain ⟨x, H2, I2, rx, y, t2, f2⟩ := h
    refine ⟨x, H2, pinsAt fp s2.heap, Nx, I2.pinned (hf _ _ _ f2 I2) (T.obj _ _ t2), rx, yl x H2 y, fun σ' s' H' I' hl hk hn => ?_⟩
    obtain ⟨m, lt, w'⟩ := nx H' hn
    have stay : ∀ b ∈ fp, ∀ o, s2.heap.get? b = some o → s'.heap.get? b = some o ∧ H' b = none := fun b hb o eo => by
      have z := I'.pin (b, o) (List.mem_append_right _ (List.mem_append_right _ (mem_pinsAt hb eo)))
      exact ⟨z.1, z.2.1⟩
    refine ⟨m, lt, i + 1, H', I'.unpinned.weak hl hk, T.keep _ _ _ t2 fun b hb o eo => (stay b hb o eo).1, fun b hb => ?_, w'⟩
    obtain ⟨o, eo, _⟩ := T.obj _ _ t2 b hb
    exact (stay b hb o eo).2

section
variable {X : Cx} {pins : List (Addr × Obj)} {σ : L2.St} {H : Hp} {s : Shared} {kx vx tg iter : Expr} {ifs : List Expr} {gs : List Comprehension} {scope : Scope} {own : List (Str × Nat)} {pos : Pos} {wi : TI}
/-- the loop of a dict comprehension's block -/
def DLp (X : Cx) (σ : L2.St) (scope : Scope) (own : List (Str × Nat)) (tg : Expr) (e : Expr) (Go : It → Addr → Hp → Prop) (Q : VK) : Prop :=
  ∀ (J : It) (D it : Addr) (fp : List Addr) (tn : Nat → Heap → Prop) (H1 : Hp) (s3 s4 : Shared) (cl : List (Str × Addr)) (RR : Result → Shared → Prop), Go J D H1 → Turn X.prog X.w X.K tg J fp it tn →
    Inv (X.blk s3 (upd H1 D (.dT [])) scope (compEnvC scope cl s3.heap.objs.size X.env) fp) [] (wipe σ (own.map (·.2))) (upd H1 D (.dT [])) s4 → tn 0 s4.heap → (∀ b ∈ fp, (upd H1 D (.dT [])) b = none) →
    (∀ H5 s6, Inv (X.blk s3 (upd H1 D (.dT [])) scope (compEnvC scope cl s3.heap.objs.size X.env) fp) [] (wipe σ (own.map (·.2))) H5 s6 → Q (.ref D) H5 → RR (.ok .next) s6) →
    codeAny (model X.prog X.w) X.A (.compLoop e 0 (.ref it) (.ref D) (compEnvC scope cl s3.heap.objs.size X.env)) RR s4
/-- the block: opened, and closed behind its loop -/
theorem dict_block {Go : It → Addr → Hp → Prop} {Q : VK} {pos' : Pos} {use : Option (Value → Sem Unit)} {Qf : Value → Shared → Prop} (hN : X.N.Nodup) (I : Inv X pins σ H s) (hi : PI X tg iter wi) (ok : BlkOk X.N X.env.scope scope own) (hs : ∀ x, foldedSetIterable iter X.env x = pure x) (h : wi σ H fun J H1 => ∀ D, H1 D = none → Go J D H1)
    (loop : DLp X σ scope own tg (.DictComp kx vx (⟨tg, iter, ifs, 0⟩ :: gs) scope pos) Go Q)
    (out : ∀ (D C : Addr) (s' : Shared) (m : Str → Option Value) (H' : Hp), Inv X pins σ H' s' → Q (.ref D) H' → s'.heap.Ns C m → FpOk X pins H' C → compPost (model X.prog X.w) X.A X.xe use Qf (.ref D) C (.ok .next) s') :
    wpAny (model X.prog X.w) X.A (comprehension (.DictComp kx vx (⟨tg, iter, ifs, 0⟩ :: gs) scope pos) scope X.env pos' newDict false (eval iter X.env) use) Qf X.xe s := by
  have has : ∀ y ∈ scope.names, y.2 = .free → ∃ c, X.env.cells.lookup y.1 = some c := fun y hy e =>
    (ok.free y hy e).elim (fun k => I.ok.has _ (.inl k)) (fun k => I.ok.has _ (.inr k))
  refine wpAny_comprehension_free (use := use) rfl hs (closure_ok has) ok.kind (fun y hy e => (ok.uniq y hy).trans (by rw [e])) ?_
  refine thn (hi.run pins s σ H _ I h) fun v s1 h1 => thn h1 fun iv s2 h2 => ?_
  obtain ⟨it, fp, tn, J, H1, rfl, I1, T, t1, f1, go⟩ := h2
  refine wpAny_newObj_type (newEnv_comp ?_)
  obtain ⟨D, eD⟩ : ∃ D, D = s2.heap.objs.size := ⟨_, rfl⟩
  have nD : H1 D = none := I1.hok.fresh (Nat.le_of_eq eD.symm)
  obtain ⟨s3, e3⟩ : ∃ s3 : Shared, s3 = { s2 with heap := s2.heap.push { cls := .type "dict", data := .dict #[] } } := ⟨_, rfl⟩
  have hp3 : s3.heap = s2.heap.push { cls := .type "dict", data := .dict #[] } := by rw [e3]
  have I3 : Inv X pins σ (upd H1 D (.dT [])) s3 := by
    rw [e3, eD]
    exact I1.laid (t' := s2.toks) (fun b o q => Heap.get?_push_of_some _ q) (Nat.le_refl _) (dt_empty s2.heap I1.big)
  have lt : ∀ b ∈ fp, b < s2.heap.objs.size := fun b hb => by
    obtain ⟨o, q, _⟩ := T.obj _ _ t1 b hb
    exact Heap.lt_size q
  have f3 : ∀ b ∈ fp, FpOk X pins (upd H1 D (.dT [])) b ∧ b < s3.heap.objs.size := fun b hb => by
    have l := lt b hb
    have z : b ≠ D := by rw [eD]; exact Nat.ne_of_lt l
    refine ⟨⟨(upd_ne z).trans (f1 b hb).1, (f1 b hb).2⟩, ?_⟩
    rw [hp3, Heap.size_push]
    exact Nat.lt_succ_of_lt l
  have t3 : tn 0 s3.heap := T.keep _ _ _ t1 fun b _ o q => by
    rw [hp3]
    exact Heap.get?_push_of_some _ q
  have I4 := block_start I3 ok hN f3
  have t4 := T.keep _ _ (pushCells (s3.heap.push { cls := .type "dict", data := .dict #[] }) scope.names) t3 fun b _ o q => pushCells_keeps _ _ _ _ (Heap.get?_push_of_some _ q)
  have lp := loop J D it fp tn H1 s3 _ (cellsFrom (s3.heap.objs.size + 1) scope.names (cloFrom X.env.cells scope.names [])) (compPost (model X.prog X.w) X.A X.xe use Qf (.ref D) s3.heap.objs.size) (go D nD) T I4 t4 (fun b hb => (f3 b hb).1.1) (fun H5 s6 I6 q => by
    have I7 : Inv X pins σ H5 s6 := I3.call' (ch := fp) I6.os I6.base I6.hok I6.bare fun b hb => by
      obtain ⟨⟨_, g1, _, g3, g4, g5⟩, _⟩ := f3 b hb
      exact ⟨g3, g1, g4, g5⟩
    have nl : H5 s3.heap.objs.size = none := I6.free
    obtain ⟨m, hm, _⟩ := I6.loc
    exact out D s3.heap.objs.size s6 m H5 I7 q hm (I3.fpOk (Nat.le_refl _) nl))
  have fin := codeAny_compStart_dict lp (T.self X.A 0 _ _ _ t4 lp)
  rw [e3] at fin
  subst eD
  exact fin
theorem pe_dict {Go : L2.St → VK → It → Addr → Hp → Prop} (hN : X.N.Nodup) (hi : PI X tg iter wi) (ok : BlkOk X.N X.env.scope scope own) (hs : ∀ x, foldedSetIterable iter X.env x = pure x)
    (loop : ∀ σ Q, DLp X σ scope own tg (.DictComp kx vx (⟨tg, iter, ifs, 0⟩ :: gs) scope pos) (Go σ Q) Q) : PE X (.DictComp kx vx (⟨tg, iter, ifs, 0⟩ :: gs) scope pos) (fun σ H Q => wi σ H fun J H1 => ∀ D, H1 D = none → Go σ Q J D H1) := by
  refine ⟨fun pins s σ H Q I h => ?_⟩
  rw [arm_eval_DictComp]
  refine dict_block hN I hi ok hs h (loop σ Q) fun D C s' m H' I' q hn f => ⟨m, hn, fun g sb => ?_⟩
  obtain ⟨p0, p1, _, p3, p4, p5⟩ := f
  exact ⟨.ref D, H', I'.turned (t' := s'.toks) (fun b o hb e => (sb.2 b hb).trans e) p0 p1 p3 p4 p5, rfl, q⟩
/-- y = {..}, on one line: the store comes ahead of the block's end -/
theorem ps_dict {Go : L2.St → VK → It → Addr → Hp → Prop} {i : Nat} {y : Str} {py spos : Pos} (hN : X.N.Nodup) (hy : X.N[i]? = some y) (hyl : X.env.scope.names.lookup y = some .local) (hsw : swapsWith (.DictComp kx vx (⟨tg, iter, ifs, 0⟩ :: gs) scope pos) (some (.Name y py)) spos.line X.env = pure true)
    (hi : PI X tg iter wi) (ok : BlkOk X.N X.env.scope scope own) (hs : ∀ x, foldedSetIterable iter X.env x = pure x)
    (loop : ∀ σ Q, DLp X σ scope own tg (.DictComp kx vx (⟨tg, iter, ifs, 0⟩ :: gs) scope pos) (Go σ Q) Q) : PS X (.Assign [.Name y py] (.DictComp kx vx (⟨tg, iter, ifs, 0⟩ :: gs) scope pos) spos) (tAsg (fun σ H Q => wi σ H fun J H1 => ∀ D, H1 D = none → Go σ Q J D H1) (gName i)) := by
  refine ⟨fun pins s σ H E I h => ?_⟩
  rw [exec_Assign_Name_used _ _ _ _ hsw]
  refine wpAny_bind (wpAny_standAt (wpAny_bind ?_))
  show wpAny _ X.A (do let _ ← comprehension (.DictComp kx vx (⟨tg, iter, ifs, 0⟩ :: gs) scope pos) scope X.env (firstIterPos (⟨tg, iter, ifs, 0⟩ :: gs) pos) newDict false (eval iter X.env) (some (assign (.Name y py) X.env))) _ _ s
  have h : wi σ H fun J H1 => ∀ D, H1 D = none → Go σ (fun x H1 => gName i x σ H1 E.nx) J D H1 := h
  refine wpAny_bind (thn (dict_block (Qf := fun _ s' => SP X pins E .next s') hN I hi ok hs h (loop σ _) fun D C s' m H' I' q hn f => ?_) fun _ s' hq => wpAny_pure (wpAny_pure hq))
  show wpAny _ _ (assign (.Name y py) X.env (.ref D)) _ _ _
  obtain ⟨p0, p1, _, p3, p4, p5⟩ := f
  refine wpAny_assign_Name (store_ok2 (v := V.ref D) I' hN hy (.inl hyl) rfl (fun s2 I2 hh => ?_) (.inr hyl))
  obtain ⟨a, sb, ha⟩ := hh
  have na : C ≠ a := ha.elim (fun z => by rw [z]; exact p1) (fun z e => p4 y a z e.symm)
  exact ⟨m, hn.sameBut sb na, fun g sg => ⟨_, H', I2.turned (t' := s2.toks) (fun b o hb e => (sg.2 b hb).trans e) p0 p1 p3 p4 p5, q⟩⟩
theorem sw_dict {kx vx : Expr} {gs : List Comprehension} {scope : Scope} {pos py : Pos} {y : Str} {l : Nat} {env : Env} (k1 : env.scope.kind = .function) (k2 : env.scope.names.lookup y = some .local) (k3 : (py.line == pos.line) = true) (k4 : (scope.names.any fun (n, k) => n == y && (k == .local || k == .cell)) = false) :
    swapsWith (.DictComp kx vx gs scope pos) (some (.Name y py)) l env = pure true := by
  have e1 : env.blockKind = .function := by
    unfold Env.blockKind
    rw [k1]
    rfl
  have e2 : env.kindOf y = some .local := k2
  unfold swapsWith
  simp only [e1, e2, k4, Expr.pos, k3]
  rfl
theorem blk_fp {s3 : Shared} {H3 H' : Hp} {ce : Env} {fp : List Addr} {σ' : L2.St} {s' : Shared} (hn : ∀ b ∈ fp, H' b = none) (I' : Inv (X.blk s3 H3 scope ce fp) [] σ' H' s') : ∀ b ∈ fp, FpOk (X.blk s3 H3 scope ce fp) [] H' b := fun b hb => by
  refine ⟨hn b hb, (I'.ok.exf b hb).1, I'.ok.exfs b hb, .inl hb, fun x c e => (I'.ok.exf b hb).2 x c e, fun p hp => ?_⟩
  exact absurd (show p ∈ ([] : List (Addr × Obj)) from by simpa using hp) List.not_mem_nil
end

section
variable {X : Cx}
/-- {k: v for tg in iter}: D the new dict -/
def tDcT (wi : TI) (g : TG) (tk tv : TE) (vs : List Nat) : TE := fun σ H Q => wi σ H fun J H1 => ∀ D, H1 D = none → ∃ W : Nat → Nat → Hp → Prop, (∃ m, W 0 m (upd H1 D (.dT []))) ∧
  Stp J W (fun H => Q (.ref D) H) fun x H Nx => g x (wipe σ vs) H fun σ2 H2 => wipe σ2 vs = wipe σ vs ∧ tk σ2 H2 fun y H3 => tv σ2 H3 fun z H4 =>
    ∃ kvs k b, y = .ref b ∧ H4 b = some (.tup (k.map kV)) ∧ H4 D = some (.dT kvs) ∧ kvs.length < sizeLine ∧ Nx (upd H4 D (.dT (putK kvs k z)))
def goT (g : TG) (tk tv : TE) (vs : List Nat) (σ : L2.St) (Q : VK) (J : It) (D : Addr) (H1 : Hp) : Prop := ∃ W : Nat → Nat → Hp → Prop, (∃ m, W 0 m (upd H1 D (.dT []))) ∧
  Stp J W (fun H => Q (.ref D) H) fun x H Nx => g x (wipe σ vs) H fun σ2 H2 => wipe σ2 vs = wipe σ vs ∧ tk σ2 H2 fun y H3 => tv σ2 H3 fun z H4 =>
    ∃ kvs k b, y = .ref b ∧ H4 b = some (.tup (k.map kV)) ∧ H4 D = some (.dT kvs) ∧ kvs.length < sizeLine ∧ Nx (upd H4 D (.dT (putK kvs k z)))
theorem dcT_loop {kx vx tg iter : Expr} {scope : Scope} {own : List (Str × Nat)} {pos : Pos} {g : TG} {tk tv : TE} (hu : X.A.units + 1 < cLine) (hc : X.calm = true)
    (hg : ∀ (s : Shared) (H : Hp) (C : Addr) (cl : List (Str × Addr)) (fp : List Addr), PG (X.blk s H scope (compEnvC scope cl C X.env) fp) tg g)
    (hk : ∀ (s : Shared) (H : Hp) (C : Addr) (cl : List (Str × Addr)) (fp : List Addr), PE (X.blk s H scope (compEnvC scope cl C X.env) fp) kx tk)
    (hv : ∀ (s : Shared) (H : Hp) (C : Addr) (cl : List (Str × Addr)) (fp : List Addr), PE (X.blk s H scope (compEnvC scope cl C X.env) fp) vx tv) (σ : L2.St) (Q : VK) :
    DLp X σ scope own tg (.DictComp kx vx [⟨tg, iter, [], 0⟩] scope pos) (goT g tk tv (own.map (·.2)) σ Q) Q := by
  intro J D it fp tn H1 s3 s4 cl RR go T I4 t4 n4 fin
  obtain ⟨W, ⟨m0, w0⟩, st⟩ := go
  have pg := hg s3 (upd H1 D (.dT [])) s3.heap.objs.size cl fp
  have pk := hk s3 (upd H1 D (.dT [])) s3.heap.objs.size cl fp
  have pv := hv s3 (upd H1 D (.dT [])) s3.heap.objs.size cl fp
  generalize compEnvC scope cl s3.heap.objs.size X.env = ce at *
  refine compLoop_anyD (Lp (X.blk s3 (upd H1 D (.dT [])) scope ce fp) [] (wipe σ (own.map (·.2))) fp tn W) (fun n s5 hl => ?_) m0 ⟨0, _, I4, t4, n4, w0⟩
  refine thn (hl.turn (Y := X.blk s3 (upd H1 D (.dT [])) scope ce fp) T hc (fun H' σ' s' a b => blk_fp a b) st) fun r s6 h6 => ?_
  cases r with
  | none =>
    obtain ⟨H6, I6, q⟩ := h6
    exact fin H6 s6 I6 q
  | some u =>
    refine thn h6 fun _ s7 h7 => ?_
    obtain ⟨x, H7, pq, Nx, I7, rx, by7, on⟩ := h7
    refine thnF (pg.run _ s7 _ H7 x u _ I7 rx by7) fun _ s8 h8 => ?_
    obtain ⟨σ8, H8, I8, w8, q8⟩ := h8
    show wpAny _ _ (pure true) _ _ _
    refine wpAny_pure ?_
    rw [if_pos rfl]
    refine thnF (pk.run _ s8 σ8 H8 _ I8 q8) fun kv s9 h9 => ?_
    obtain ⟨y, H9, I9, ry, q9⟩ := h9
    refine thnF (pv.run _ s9 σ8 H9 _ I9 q9) fun vv s10 h10 => ?_
    obtain ⟨z, H10, I10, rz, kvs, k, b, rfl, eb, eD, hz, nx⟩ := h10
    obtain rfl : kv = Value.ref b := ry
    refine put_tup (X := X.blk s3 (upd H1 D (.dT [])) scope ce fp) hu I10 eD eb hz rz fun s11 I11 => on _ _ _ I11 ?_ ?_ nx
    · rw [← w8, wipe_length]
    · intro j v e
      rw [← w8] at e
      exact (wipe_some e).1
section
variable {kx vx tg iter : Expr} {scope : Scope} {own : List (Str × Nat)} {pos : Pos} {wi : TI} {g : TG} {tk tv : TE} (hu : X.A.units + 1 < cLine) (hc : X.calm = true) (hN : X.N.Nodup) (hi : PI X tg iter wi) (ok : BlkOk X.N X.env.scope scope own)
    (hg : ∀ (s : Shared) (H : Hp) (C : Addr) (cl : List (Str × Addr)) (fp : List Addr), PG (X.blk s H scope (compEnvC scope cl C X.env) fp) tg g)
    (hk : ∀ (s : Shared) (H : Hp) (C : Addr) (cl : List (Str × Addr)) (fp : List Addr), PE (X.blk s H scope (compEnvC scope cl C X.env) fp) kx tk)
    (hv : ∀ (s : Shared) (H : Hp) (C : Addr) (cl : List (Str × Addr)) (fp : List Addr), PE (X.blk s H scope (compEnvC scope cl C X.env) fp) vx tv)
include hu hc hN hi ok hg hk hv
theorem pe_dcT (hs : ∀ x, foldedSetIterable iter X.env x = pure x := by intro _; rfl) : PE X (.DictComp kx vx [⟨tg, iter, [], 0⟩] scope pos) (tDcT wi g tk tv (own.map (·.2))) :=
  pe_dict (Go := goT g tk tv (own.map (·.2))) hN hi ok hs fun σ Q => dcT_loop hu hc hg hk hv σ Q
theorem ps_dcT {i : Nat} {y : Str} {py spos : Pos} (hy : X.N[i]? = some y) (hyl : X.env.scope.names.lookup y = some .local) (hsw : swapsWith (.DictComp kx vx [⟨tg, iter, [], 0⟩] scope pos) (some (.Name y py)) spos.line X.env = pure true) (hs : ∀ x, foldedSetIterable iter X.env x = pure x := by intro _; rfl) :
    PS X (.Assign [.Name y py] (.DictComp kx vx [⟨tg, iter, [], 0⟩] scope pos) spos) (tAsg (tDcT wi g tk tv (own.map (·.2))) (gName i)) := by
  have h := ps_dict (Go := goT g tk tv (own.map (fun x => x.2))) hN hy hyl hsw hi ok hs fun σ Q => dcT_loop hu hc hg hk hv σ Q
  exact h
end
/-- {k: v for tg in iter for tg1 in iter1} -/
def tDc2T (wi : TI) (g : TG) (wi1 : TI) (g1 : TG) (tk tv : TE) (vs vs1 : List Nat) : TE := fun σ H Q => wi σ H fun J H1 => ∀ D, H1 D = none → ∃ W : Nat → Nat → Hp → Prop, (∃ m, W 0 m (upd H1 D (.dT []))) ∧
  Stp J W (fun H => Q (.ref D) H) fun x H Nx => g x (wipe σ vs) H fun σ2 H2 => wipe σ2 vs = wipe σ vs ∧ wi1 σ2 H2 fun J1 H3 => ∃ W1 : Nat → Nat → Hp → Prop, (∃ m, W1 0 m H3) ∧
    Stp J1 W1 Nx fun x1 H4 Nx1 => g1 x1 (wipe σ2 vs1) H4 fun σ3 H5 => wipe σ3 vs1 = wipe σ2 vs1 ∧ tk σ3 H5 fun y H6 => tv σ3 H6 fun z H7 =>
      ∃ kvs k b, y = .ref b ∧ H7 b = some (.tup (k.map kV)) ∧ H7 D = some (.dT kvs) ∧ kvs.length < sizeLine ∧ Nx1 (upd H7 D (.dT (putK kvs k z)))
section
variable {prog : Program} {w : World} {A : Around} {R : Result → Shared → Prop} {s : Shared} {kx vx t0 i0 t1 i1 : Expr} {scope : Scope} {pos : Pos} {it : Value} {D : Addr} {env : Env}
abbrev dc2 (kx vx t0 i0 t1 i1 : Expr) (scope : Scope) (pos : Pos) : Expr := .DictComp kx vx [⟨t0, i0, [], 0⟩, ⟨t1, i1, [], 0⟩] scope pos
theorem dc2_outer : compTurn (dc2 kx vx t0 i0 t1 i1 scope pos) 0 it (.ref D) env = (standAt i0.pos >>= fun _ => pyNext it >>= fun r => match r with
    | none => pure (.done .next)
    | some v => letOwnedTupleGo t0 it v >>= fun _ => assign t0 env v >>= fun _ => eval i1 env >>= fun x => standAt i1.pos >>= fun _ => foldedSetIterable i1 env x >>= fun x => holding [x] (pyIter x) >>= fun j => runOwn (.compStart (dc2 kx vx t0 i0 t1 i1 scope pos) 1 j (.ref D) env) env >>= fun _ => again (.compLoop (dc2 kx vx t0 i0 t1 i1 scope pos) 0 it (.ref D) env)) := by
  rfl
theorem dc2_inner : compTurn (dc2 kx vx t0 i0 t1 i1 scope pos) 1 it (.ref D) env = (standAt i1.pos >>= fun _ => pyNext it >>= fun r => match r with
    | none => pure (.done .next)
    | some v => letOwnedTupleGo t1 it v >>= fun _ => assign t1 env v >>= fun _ => (eval kx env >>= fun kv => holding [kv] (eval vx env) >>= fun vv => standAt { kx.pos with endLine := vx.pos.endLine, endCol := vx.pos.endCol } >>= fun _ => holding [kv, vv] (dictSet D kv vv)) >>= fun _ => again (.compLoop (dc2 kx vx t0 i0 t1 i1 scope pos) 1 it (.ref D) env)) := by
  rfl
theorem dc2_out {I : Nat → Shared → Prop} (hs : ∀ x, foldedSetIterable i1 env x = pure x)
    (turn : ∀ k t, I k t → wpAny (model prog w) A (pyNext it) (fun r a => match r with
      | none => R (.ok .next) a
      | some v => wpAny (model prog w) A (letOwnedTupleGo t0 it v) (fun _ b => wpAny (model prog w) A (assign t0 env v) (fun _ c => wpAny (model prog w) A (eval i1 env) (fun x d => wpAny (model prog w) A (pyIter x) (fun j f =>
          codeAny (model prog w) A (.compStart (dc2 kx vx t0 i0 t1 i1 scope pos) 1 j (.ref D) env) (fun r' g => match r' with
            | .ok _ => ∃ m, m < k ∧ I m g
            | .error _ => False) f) (fun _ _ => False) d) (fun _ _ => False) c) (fun _ _ => False) b) (fun _ _ => False) a) (fun _ _ => False) t)
    {k0 : Nat} (h : I k0 s) : codeAny (model prog w) A (.compLoop (dc2 kx vx t0 i0 t1 i1 scope pos) 0 it (.ref D) env) R s := by
  refine codeAny_loop rfl I (fun k t hk => ?_) k0 h
  show wpAny _ A ((compTurn (dc2 kx vx t0 i0 t1 i1 scope pos) 0 it (.ref D) env).onRaise (fun x => do noteFrame x env; theTreesLotGoes x)) _ _ t
  refine wpAny_noted ?_
  rw [dc2_outer]
  refine wpAny_bind (wpAny_standAt (wpAny_bind (thnF (turn k t hk) fun r a ha => ?_)))
  cases r with
  | none => exact wpAny_pure ha
  | some v =>
    refine wpAny_bind (thnF ha fun _ b hb => wpAny_bind (thnF hb fun _ c hc => wpAny_bind (thnF hc fun x d hd => ?_)))
    refine wpAny_bind (wpAny_standAt (wpAny_bind (wpAny_of_eq (hs x) (wpAny_bind (wpAny_holding (thnF hd fun j f hf => ?_))))))
    refine wpAny_bind (wpAny_runOwn ?_)
    rw [Around.mark_none]
    refine codeAny_mono hf fun r' g hg => ?_
    cases r' with
    | ok _ => exact wpAny_pure ⟨rfl, hg⟩
    | error _ => exact hg.elim
theorem dc2_in {I : Nat → Shared → Prop}
    (turn : ∀ k t, I k t → wpAny (model prog w) A (pyNext it) (fun r a => match r with
      | none => R (.ok .next) a
      | some v => wpAny (model prog w) A (letOwnedTupleGo t1 it v) (fun _ b => wpAny (model prog w) A (assign t1 env v) (fun _ c => wpAny (model prog w) A (eval kx env) (fun kv d => wpAny (model prog w) A (eval vx env) (fun vv f =>
          wpAny (model prog w) A (dictSet D kv vv) (fun _ g => ∃ m, m < k ∧ I m g) (fun _ _ => False) f) (fun _ _ => False) d) (fun _ _ => False) c) (fun _ _ => False) b) (fun _ _ => False) a) (fun _ _ => False) t)
    {k0 : Nat} (h : I k0 s) : codeAny (model prog w) A (.compLoop (dc2 kx vx t0 i0 t1 i1 scope pos) 1 it (.ref D) env) R s := by
  refine codeAny_loop rfl I (fun k t hk => ?_) k0 h
  show wpAny _ A ((compTurn (dc2 kx vx t0 i0 t1 i1 scope pos) 1 it (.ref D) env).onRaise (fun x => do noteFrame x env; theTreesLotGoes x)) _ _ t
  refine wpAny_noted ?_
  rw [dc2_inner]
  refine wpAny_bind (wpAny_standAt (wpAny_bind (thnF (turn k t hk) fun r a ha => ?_)))
  cases r with
  | none => exact wpAny_pure ha
  | some v =>
    refine wpAny_bind (thnF ha fun _ b hb => wpAny_bind (thnF hb fun _ c hc => wpAny_bind (wpAny_bind (thnF hc fun kv d hd => ?_))))
    refine wpAny_bind (wpAny_holding (thnF hd fun vv f hf => wpAny_bind (wpAny_standAt (wpAny_holding (thnF hf fun _ g hg => ?_)))))
    exact wpAny_pure ⟨rfl, hg⟩
theorem dc2_start (h0 : codeAny (model prog w) A (.compLoop (dc2 kx vx t0 i0 t1 i1 scope pos) 1 it (.ref D) env) R s)
    (h : wpAny (model prog w) A (pyIter it) (fun j a => codeAny (model prog w) A (.compLoop (dc2 kx vx t0 i0 t1 i1 scope pos) 1 j (.ref D) env) R a) (fun _ _ => False) s) :
    codeAny (model prog w) A (.compStart (dc2 kx vx t0 i0 t1 i1 scope pos) 1 it (.ref D) env) R s := by
  refine codeAny_of_tree ?_
  show wpAny _ _ ((compStart (dc2 kx vx t0 i0 t1 i1 scope pos) 1 it (.ref D) env).onRaise (fun x => do noteFrame x env; standAt theWindowsPlace)) _ _ s
  refine wpAny_notedAt ?_
  unfold compStart
  show wpAny _ _ (ask >>= _) _ _ s
  refine wpAny_bind (wpAny_askSetting (wpAny_ite ?_))
  split
  · first
      | exact wpAny_pure ⟨rfl, h0⟩
      | exact wpAny_bind (wpAny_pure (wpAny_pure ⟨rfl, h0⟩))
  · refine wpAny_bind (wpAny_rule ?_)
    show wpAny _ _ (standAt i1.pos >>= _) _ _ s
    exact wpAny_bind (wpAny_standAt (wpAny_bind (thnF h fun j a ha => wpAny_pure ⟨rfl, ha⟩)))
end
def goT2 (g : TG) (wi1 : TI) (g1 : TG) (tk tv : TE) (vs vs1 : List Nat) (σ : L2.St) (Q : VK) (J : It) (D : Addr) (H1 : Hp) : Prop := ∃ W : Nat → Nat → Hp → Prop, (∃ m, W 0 m (upd H1 D (.dT []))) ∧
  Stp J W (fun H => Q (.ref D) H) fun x H Nx => g x (wipe σ vs) H fun σ2 H2 => wipe σ2 vs = wipe σ vs ∧ wi1 σ2 H2 fun J1 H3 => ∃ W1 : Nat → Nat → Hp → Prop, (∃ m, W1 0 m H3) ∧
    Stp J1 W1 Nx fun x1 H4 Nx1 => g1 x1 (wipe σ2 vs1) H4 fun σ3 H5 => wipe σ3 vs1 = wipe σ2 vs1 ∧ tk σ3 H5 fun y H6 => tv σ3 H6 fun z H7 =>
      ∃ kvs k b, y = .ref b ∧ H7 b = some (.tup (k.map kV)) ∧ H7 D = some (.dT kvs) ∧ kvs.length < sizeLine ∧ Nx1 (upd H7 D (.dT (putK kvs k z)))
theorem dc2T_loop {kx vx tg iter tg1 iter1 : Expr} {scope : Scope} {own : List (Str × Nat)} {vs1 : List Nat} {pos : Pos} {wi1 : TI} {g g1 : TG} {tk tv : TE} (hu : X.A.units + 1 < cLine) (hc : X.calm = true) (h1 : ∀ i ∈ vs1, i ∈ own.map (·.2))
    (hg : ∀ (s : Shared) (H : Hp) (C : Addr) (cl : List (Str × Addr)) (fp : List Addr), PG (X.blk s H scope (compEnvC scope cl C X.env) fp) tg g)
    (hi1 : ∀ (s : Shared) (H : Hp) (C : Addr) (cl : List (Str × Addr)) (fp : List Addr), PI (X.blk s H scope (compEnvC scope cl C X.env) fp) tg1 iter1 wi1)
    (hg1 : ∀ (s : Shared) (H : Hp) (C : Addr) (cl : List (Str × Addr)) (fp : List Addr), PG (X.blk s H scope (compEnvC scope cl C X.env) fp) tg1 g1)
    (hk : ∀ (s : Shared) (H : Hp) (C : Addr) (cl : List (Str × Addr)) (fp : List Addr), PE (X.blk s H scope (compEnvC scope cl C X.env) fp) kx tk)
    (hv : ∀ (s : Shared) (H : Hp) (C : Addr) (cl : List (Str × Addr)) (fp : List Addr), PE (X.blk s H scope (compEnvC scope cl C X.env) fp) vx tv) (hs1 : ∀ env x, foldedSetIterable iter1 env x = pure x) (σ : L2.St) (Q : VK) :
    DLp X σ scope own tg (dc2 kx vx tg iter tg1 iter1 scope pos) (goT2 g wi1 g1 tk tv (own.map (·.2)) vs1 σ Q) Q := by
  intro J D it fp tn H1 s3 s4 cl RR go T I4 t4 n4 fin
  obtain ⟨W, ⟨m0, w0⟩, st⟩ := go
  have pg := hg s3 (upd H1 D (.dT [])) s3.heap.objs.size cl fp
  have pi1 := hi1 s3 (upd H1 D (.dT [])) s3.heap.objs.size cl fp
  have pg1 := hg1 s3 (upd H1 D (.dT [])) s3.heap.objs.size cl fp
  have pk := hk s3 (upd H1 D (.dT [])) s3.heap.objs.size cl fp
  have pv := hv s3 (upd H1 D (.dT [])) s3.heap.objs.size cl fp
  generalize compEnvC scope cl s3.heap.objs.size X.env = ce at *
  refine dc2_out (I := Lp (X.blk s3 (upd H1 D (.dT [])) scope ce fp) [] (wipe σ (own.map (·.2))) fp tn W) (hs1 ce) (fun n s5 hl => ?_) ⟨0, _, I4, t4, n4, w0⟩
  refine thn (hl.turn (Y := X.blk s3 (upd H1 D (.dT [])) scope ce fp) T hc (fun H' σ' s' a b => blk_fp a b) st) fun r s6 h6 => ?_
  cases r with
  | none =>
    obtain ⟨H6, I6, q⟩ := h6
    exact fin H6 s6 I6 q
  | some u =>
    refine thn h6 fun _ s7 h7 => ?_
    obtain ⟨x, H7, pq, Nx, I7, rx, by7, on⟩ := h7
    refine thn (pg.run _ s7 _ H7 x u _ I7 rx by7) fun _ s8 h8 => ?_
    obtain ⟨σ8, H8, I8, w8, q8⟩ := h8
    refine thn (pi1.run _ s8 σ8 H8 _ I8 q8) fun xv s9 h9 => thn h9 fun jv s10 h10 => ?_
    obtain ⟨jt, fp1, tn1, J1, H10, rfl, I10, T1, t10, f10, W1, ⟨k0, v0⟩, st1⟩ := h10
    have inner : codeAny (model X.prog X.w) X.A (.compLoop (dc2 kx vx tg iter tg1 iter1 scope pos) 1 (.ref jt) (.ref D) ce) (fun r' g' => match r' with
        | .ok _ => ∃ m, m < n ∧ Lp (X.blk s3 (upd H1 D (.dT [])) scope ce fp) [] (wipe σ (own.map (·.2))) fp tn W m g'
        | .error _ => False) s10 := by
      refine dc2_in (I := Lp (X.blk s3 (upd H1 D (.dT [])) scope ce fp) ([] ++ pq) (wipe σ8 vs1) fp1 tn1 W1) (fun k s11 hl1 => ?_) ⟨0, H10, I10.weak (wipe_length _ _) (fun j v e => (wipe_some e).1), t10, fun b hb => (f10 b hb).1, v0⟩
      refine thn (hl1.turn (Y := X.blk s3 (upd H1 D (.dT [])) scope ce fp) T1 hc (fun H' σ' s' a _ b hb => ⟨a b hb, (f10 b hb).2⟩) st1) fun r s12 h12 => ?_
      cases r with
      | none =>
        obtain ⟨H12, I12, nx⟩ := h12
        refine on _ _ _ I12 ?_ ?_ nx
        · rw [← w8, wipe_length, wipe_length]
        · intro j v e
          rw [← w8] at e
          obtain ⟨e1, e2⟩ := wipe_some e
          rw [wipe_out fun z => e2 (h1 j z)]
          exact e1
      | some u1 =>
        refine thn h12 fun _ s13 h13 => ?_
        obtain ⟨x1, H13, pr, Nx1, I13, rx1, by13, on1⟩ := h13
        refine thn (pg1.run _ s13 _ H13 x1 u1 _ I13 rx1 by13) fun _ s14 h14 => ?_
        obtain ⟨σ14, H14, I14, w14, q14⟩ := h14
        refine thn (pk.run _ s14 σ14 H14 _ I14 q14) fun kv s15 h15 => ?_
        obtain ⟨y, H15, I15, ry, q15⟩ := h15
        refine thn (pv.run _ s15 σ14 H15 _ I15 q15) fun vv s16 h16 => ?_
        obtain ⟨z, H16, I16, rz, kvs, k', b, rfl, eb, eD, hz, nx⟩ := h16
        obtain rfl : kv = Value.ref b := ry
        refine put_tup (X := X.blk s3 (upd H1 D (.dT [])) scope ce fp) hu I16 eD eb hz rz fun s17 I17 => on1 _ _ _ I17 ?_ ?_ nx
        · rw [← w14, wipe_length]
        · intro j v e
          rw [← w14] at e
          exact (wipe_some e).1
    exact dc2_start inner (T1.self X.A 0 _ _ _ t10 inner)
section
variable {kx vx tg iter tg1 iter1 : Expr} {scope : Scope} {own : List (Str × Nat)} {vs1 : List Nat} {pos : Pos} {wi wi1 : TI} {g g1 : TG} {tk tv : TE} (hu : X.A.units + 1 < cLine) (hc : X.calm = true) (hN : X.N.Nodup) (hi : PI X tg iter wi) (ok : BlkOk X.N X.env.scope scope own) (h1 : ∀ i ∈ vs1, i ∈ own.map (·.2))
    (hg : ∀ (s : Shared) (H : Hp) (C : Addr) (cl : List (Str × Addr)) (fp : List Addr), PG (X.blk s H scope (compEnvC scope cl C X.env) fp) tg g)
    (hi1 : ∀ (s : Shared) (H : Hp) (C : Addr) (cl : List (Str × Addr)) (fp : List Addr), PI (X.blk s H scope (compEnvC scope cl C X.env) fp) tg1 iter1 wi1)
    (hg1 : ∀ (s : Shared) (H : Hp) (C : Addr) (cl : List (Str × Addr)) (fp : List Addr), PG (X.blk s H scope (compEnvC scope cl C X.env) fp) tg1 g1)
    (hk : ∀ (s : Shared) (H : Hp) (C : Addr) (cl : List (Str × Addr)) (fp : List Addr), PE (X.blk s H scope (compEnvC scope cl C X.env) fp) kx tk)
    (hv : ∀ (s : Shared) (H : Hp) (C : Addr) (cl : List (Str × Addr)) (fp : List Addr), PE (X.blk s H scope (compEnvC scope cl C X.env) fp) vx tv)
include hu hc hN hi ok h1 hg hi1 hg1 hk hv
theorem pe_dc2T (hs : ∀ x, foldedSetIterable iter X.env x = pure x := by intro _; rfl) (hs1 : ∀ env x, foldedSetIterable iter1 env x = pure x := by intro _ _; rfl) : PE X (dc2 kx vx tg iter tg1 iter1 scope pos) (tDc2T wi g wi1 g1 tk tv (own.map (·.2)) vs1) :=
  pe_dict (Go := goT2 g wi1 g1 tk tv (own.map (·.2)) vs1) hN hi ok hs fun σ Q => dc2T_loop hu hc h1 hg hi1 hg1 hk hv hs1 σ Q
theorem ps_dc2T {i : Nat} {y : Str} {py spos : Pos} (hy : X.N[i]? = some y) (hyl : X.env.scope.names.lookup y = some .local) (hsw : swapsWith (dc2 kx vx tg iter tg1 iter1 scope pos) (some (.Name y py)) spos.line X.env = pure true) (hs : ∀ x, foldedSetIterable iter X.env x = pure x := by intro _; rfl) (hs1 : ∀ env x, foldedSetIterable iter1 env x = pure x := by intro _ _; rfl) :
    PS X (.Assign [.Name y py] (dc2 kx vx tg iter tg1 iter1 scope pos) spos) (tAsg (tDc2T wi g wi1 g1 tk tv (own.map (·.2)) vs1) (gName i)) := by
  have h := ps_dict (Go := goT2 g wi1 g1 tk tv (own.map (fun x => x.2)) vs1) hN hy hyl hsw hi ok hs fun σ Q => dc2T_loop hu hc h1 hg hi1 hg1 hk hv hs1 σ Q
  exact h
end
end
/-- a walk answers what Stp asks -/
theorem stp_it {J : It} {n : Nat} {Gd : Hp → Prop} {Y : Nat → Hp → V → Hp → Prop} (w : Walk J n Gd Y) {Ed : Hp → Prop} {B : V → Hp → (Hp → Prop) → Prop} {H0 : Hp} (Pv : Nat → Hp → Prop) (h0 : Pv 0 H0) (hG : ∀ i H, i ≤ n → Pv i H → Gd H)
    (hs : ∀ i x H H', i < n → Pv i H → Y i H x H' → B x H' (Pv (i + 1))) (hd : ∀ H, Pv n H → Ed H) : ∃ W : Nat → Nat → Hp → Prop, (∃ m, W 0 m H0) ∧ Stp J W Ed B := by
  refine ⟨fun i m H => m = n - i ∧ i ≤ n ∧ Pv i H, ⟨n, rfl, Nat.zero_le _, h0⟩, fun i m H h => ?_⟩
  obtain ⟨rfl, le, pv⟩ := h
  rcases Nat.lt_or_ge i n with lt | ge
  · exact .inr ⟨w.goes i H lt (hG i H le pv), Pv (i + 1), fun H' p' => ⟨n - (i + 1), by omega, rfl, lt, p'⟩, fun x H' y => hs i x H H' lt pv (w.yields i H x H' lt (hG i H le pv) y)⟩
  · obtain rfl : i = n := by omega
    exact .inl ⟨w.stops H (hG i H le pv), hd H pv⟩
end NB

set_option Elab.async false
set_option linter.all false
set_option maxRecDepth 100000
set_option maxHeartbeats 1000000
/-! tuple(zip(a, b)) of two lists of one length. -/
namespace NB
open PySem PySem.Spec PyProof.Rows L2

theorem zip_len0 : typeLookup (.type "zip") "__len__" = pure none := by
  rw [typeLookup_type, builtinLookup_eq_fast]
  kernel_rfl
theorem zip_hint0 : typeLookup (.type "zip") "__length_hint__" = pure none := by
  rw [typeLookup_type, builtinLookup_eq_fast]
  kernel_rfl
/-- the tuples given out so far -/
def Gave (h : Heap) (ban : List Addr) (xs ys : Array Value) (Ts : List Addr) : Prop := ∀ (j : Nat) (T : Addr), Ts[j]? = some T → T ∉ ban ∧ ∃ x y, xs[j]? = some x ∧ ys[j]? = some y ∧ IsPair h T x y
/-- a zip of two lists behind k turns -/
def Zst (h : Heap) (z TI TO i1 i2 l1 l2 : Addr) (xs ys : Array Value) (k : Nat) (Ts : List Addr) : Prop :=
  ((IsZip h z TI TO .none ∧ Ts = []) ∨ ∃ T ∈ Ts, ∃ f, IsZipHeld h z TI TO T f) ∧ IsPair h TI (.ref i1) (.ref i2) ∧ (∃ a b, IsPair h TO a b) ∧ (h.IsListIter i1 l1 k ∧ h.IsListIter i2 l2 k) ∧ h.IsList l1 xs ∧ h.IsList l2 ys
theorem Gave.keep {h h' : Heap} {ban : List Addr} {xs ys : Array Value} {Ts : List Addr} (g : Gave h ban xs ys Ts) (k : ∀ b o, b ∉ ban → h.get? b = some o → h'.get? b = some o) : Gave h' ban xs ys Ts := fun j T e => by
  obtain ⟨n, x, y, ex, ey, p⟩ := g j T e
  exact ⟨n, x, y, ex, ey, k _ _ n p⟩
theorem Gave.snoc {h : Heap} {ban : List Addr} {xs ys : Array Value} {Ts : List Addr} {T : Addr} {x y : Value} (g : Gave h ban xs ys Ts) (n : T ∉ ban) (ex : xs[Ts.length]? = some x) (ey : ys[Ts.length]? = some y) (p : IsPair h T x y) : Gave h ban xs ys (Ts ++ [T]) := fun j T' e => by
  rcases Nat.lt_trichotomy j Ts.length with l | l | l
  · rw [List.getElem?_append_left l] at e
    exact g j T' e
  · rw [l, List.getElem?_append_right (Nat.le_refl _), Nat.sub_self] at e
    cases e
    exact ⟨n, x, y, l ▸ ex, l ▸ ey, p⟩
  · rw [List.getElem?_append_right (by omega)] at e
    rw [List.getElem?_eq_none (by simp; omega)] at e
    cases e
section
variable {prog : Program} {w : World} {A : Around} {E : Value → Shared → Prop} {z TI TO i1 i2 l1 l2 S : Addr} {xs ys : Array Value}
abbrev listAt (h : Heap) (S : Addr) (vs : Array Value) (c : Nat) : Prop := h.get? S = some { cls := .type "list", dict := none, data := .seq vs c, slots := #[] }
theorem zip_turn {s : Shared} {k : Nat} {Ts : List Addr} {x y : Value} {Q : Option Value → Shared → Prop} (D : ZipApart z TI TO i1 i2 l1 l2) (st : Zst s.heap z TI TO i1 i2 l1 l2 xs ys k Ts) (hT : ∀ T ∈ Ts, ∃ o, s.heap.get? T = some o) (hx : xs[k]? = some x) (hy : ys[k]? = some y)
    (hQ : ∀ h', Zst h' z TI TO i1 i2 l1 l2 xs ys (k + 1) (Ts ++ [s.heap.objs.size]) → IsPair h' s.heap.objs.size x y → (∀ b o, b ∉ [z, TO, i1, i2] → s.heap.get? b = some o → h'.get? b = some o) → Q (some (.ref s.heap.objs.size)) { s with heap := h' }) :
    wpAny (model prog w) A (pyNext (.ref z)) Q E s := by
  obtain ⟨zs, p1, ⟨a, b, p2⟩, ⟨t1, t2⟩, q1, q2⟩ := st
  rcases zs with ⟨z0, _⟩ | ⟨T, mT, f, zh⟩
  · refine wpAny_pyNext_zip_item D z0 p1 p2 t1 t2 q1 q2 hx hy fun h' a1 a2 a3 a4 a5 _ kp => hQ h' ⟨.inr ⟨_, List.mem_append_right _ (List.mem_singleton.mpr rfl), false, a1⟩, kp _ _ D.TIz D.TITO D.TIi1 D.TIi2 p1, ⟨_, _, a2⟩, ⟨a3, a4⟩, q1.at fun o e => kp _ o D.l1z D.l1TO D.l1i1 D.l1i2 e, q2.at fun o e => kp _ o D.l2z D.l2TO D.l2i1 D.l2i2 e⟩ a5 fun b o nb e => ?_
    simp only [List.mem_cons, List.not_mem_nil, or_false, not_or] at nb
    exact kp b o nb.1 nb.2.1 nb.2.2.1 nb.2.2.2 e
  · obtain ⟨o, eo⟩ := hT T mT
    refine wpAny_pyNext_zip_item_held D zh eo p1 t1 t2 q1 q2 hx hy fun h' a1 a3 a4 a5 _ kp => hQ h' ⟨.inr ⟨T, List.mem_append_left _ mT, true, a1⟩, kp _ _ D.TIz D.TIi1 D.TIi2 p1, ⟨_, _, kp _ _ D.TOz D.TOi1 D.TOi2 p2⟩, ⟨a3, a4⟩, q1.at fun o e => kp _ o D.l1z D.l1i1 D.l1i2 e, q2.at fun o e => kp _ o D.l2z D.l2i1 D.l2i2 e⟩ a5 fun b o nb e => ?_
    simp only [List.mem_cons, List.not_mem_nil, or_false, not_or] at nb
    exact kp b o nb.1 nb.2.2.1 nb.2.2.2 e
theorem zip_over {s : Shared} {k : Nat} {Ts : List Addr} {Q : Option Value → Shared → Prop} (hh : A.handled = none) (D : ZipApart z TI TO i1 i2 l1 l2) (st : Zst s.heap z TI TO i1 i2 l1 l2 xs ys k Ts) (hT : ∀ T ∈ Ts, ∃ o, s.heap.get? T = some o) (hx : xs[k]? = none)
    (hQ : ∀ h', (∀ b o, b ∉ [z, TO, i1, i2] → s.heap.get? b = some o → h'.get? b = some o) → Q none { s with heap := h' }) : wpAny (model prog w) A (pyNext (.ref z)) Q E s := by
  obtain ⟨zs, p1, ⟨a, b, p2⟩, ⟨t1, t2⟩, q1, q2⟩ := st
  rcases zs with ⟨z0, _⟩ | ⟨T, mT, f, zh⟩
  · refine wpAny_pyNext_zip_end hh D z0 p1 p2 t1 t2 q1 q2 (.inl hx) fun h' kp => hQ h' fun b o nb e => ?_
    simp only [List.mem_cons, List.not_mem_nil, or_false, not_or] at nb
    exact kp b o nb.1 nb.2.1 nb.2.2.1 nb.2.2.2 e
  · obtain ⟨o, eo⟩ := hT T mT
    refine wpAny_pyNext_zip_end_held hh D zh eo p1 t1 t2 q1 q2 (.inl hx) fun h' kp => hQ h' fun b o nb e => ?_
    simp only [List.mem_cons, List.not_mem_nil, or_false, not_or] at nb
    exact kp b o nb.1 nb.2.2.1 nb.2.2.2 e
theorem Zst.keep {h h' : Heap} {k : Nat} {Ts : List Addr} (st : Zst h z TI TO i1 i2 l1 l2 xs ys k Ts) (kp : ∀ b o, b ≠ S → h.get? b = some o → h'.get? b = some o) (n : S ∉ [z, TI, TO, i1, i2, l1, l2]) : Zst h' z TI TO i1 i2 l1 l2 xs ys k Ts := by
  simp only [List.mem_cons, List.not_mem_nil, or_false, not_or] at n
  obtain ⟨n1, n2, n3, n4, n5, n6, n7⟩ := n
  obtain ⟨zs, p1, ⟨a, b, p2⟩, ⟨t1, t2⟩, q1, q2⟩ := st
  refine ⟨?_, kp _ _ (Ne.symm n2) p1, ⟨a, b, kp _ _ (Ne.symm n3) p2⟩, ⟨t1.at fun o e => kp _ o (Ne.symm n4) e, t2.at fun o e => kp _ o (Ne.symm n5) e⟩, q1.at fun o e => kp _ o (Ne.symm n6) e, q2.at fun o e => kp _ o (Ne.symm n7) e⟩
  rcases zs with ⟨z0, e⟩ | ⟨T, mT, f, zh⟩
  · exact .inl ⟨kp _ _ (Ne.symm n1) z0, e⟩
  · exact .inr ⟨T, mT, f, kp _ _ (Ne.symm n1) zh⟩
theorem zip_loop {R : Result → Shared → Prop} (hh : A.handled = none) (D : ZipApart z TI TO i1 i2 l1 l2) (nS : S ∉ [z, TI, TO, i1, i2, l1, l2]) (hn : xs.size = ys.size) (hz : xs.size ≤ 1000) (res : Value) :
    ∀ (m k : Nat) (s : Shared) (Ts : List Addr) (c : Nat), xs.size - k = m → k ≤ xs.size → Ts.length = k → Zst s.heap z TI TO i1 i2 l1 l2 xs ys k Ts → Gave s.heap [S, z, TO, i1, i2] xs ys Ts → listAt s.heap S (Ts.map Value.ref).toArray c →
    (∀ (h' : Heap) (Us : List Addr) (c' : Nat), (∀ b o, b ∉ [S, z, TO, i1, i2] → s.heap.get? b = some o → h'.get? b = some o) → Us.length = xs.size → (∀ T ∈ Us, T ∈ Ts ∨ s.heap.objs.size ≤ T) → Us.Nodup ∨ True → Gave h' [S, z, TO, i1, i2] xs ys Us → listAt h' S (Us.map Value.ref).toArray c' → R (.ok (.ret res)) { s with heap := h' }) →
    codeAny (model prog w) A (.builtin "list.extend.loop" ⟨[.ref S, .ref z, res], []⟩) R s := by
  have hb : ∀ b, b ∉ [S, z, TO, i1, i2] → b ∉ [z, TO, i1, i2] := fun b h1 h2 => h1 (List.mem_cons_of_mem _ h2)
  intro m
  induction m with
  | zero =>
    intro k s Ts c em le lT st gv lS fin
    have ek : k = xs.size := by omega
    have al : ∀ T ∈ Ts, ∃ o, s.heap.get? T = some o := fun T mT => by
      obtain ⟨j, hj, e⟩ := List.getElem_of_mem mT
      obtain ⟨_, _, _, _, _, p⟩ := gv j T (by rw [List.getElem?_eq_getElem hj, e])
      exact ⟨_, p⟩
    refine codeAny_builtin F.entry_extend_loop ?_
    rw [Around.under_plainId F.plain_extend_loop _]
    show wpAny _ A.in1 (pyNext (.ref z) >>= _) _ _ s
    have sn : S ∉ [z, TO, i1, i2] := fun h => nS (by
      simp only [List.mem_cons, List.not_mem_nil, or_false] at h ⊢
      rcases h with h | h | h | h <;> simp [h])
    refine wpAny_bind (zip_over (A := A.in1) hh D st al (by rw [ek]; simp) fun h' kp => wpAny_pure ?_)
    exact fin h' Ts c (fun b o n e => kp b o (hb b n) e) (by omega) (fun T h => .inl h) (.inr trivial) (gv.keep fun b o n e => kp b o (hb b n) e) (kp _ _ sn lS)
  | succ m ih =>
    intro k s Ts c em le lT st gv lS fin
    have lk : k < xs.size := by omega
    have al : ∀ T ∈ Ts, ∃ o, s.heap.get? T = some o := fun T mT => by
      obtain ⟨j, hj, e⟩ := List.getElem_of_mem mT
      obtain ⟨_, _, _, _, _, p⟩ := gv j T (by rw [List.getElem?_eq_getElem hj, e])
      exact ⟨_, p⟩
    have sn : S ∉ [z, TO, i1, i2] := fun h => nS (by
      simp only [List.mem_cons, List.not_mem_nil, or_false] at h ⊢
      rcases h with h | h | h | h <;> simp [h])
    refine codeAny_builtin F.entry_extend_loop ?_
    rw [Around.under_plainId F.plain_extend_loop _]
    show wpAny _ A.in1 (pyNext (.ref z) >>= _) _ _ s
    have ex : xs[k]? = some xs[k] := Array.getElem?_eq_getElem lk
    have ey : ys[k]? = some (ys[k]'(by omega)) := Array.getElem?_eq_getElem _
    refine wpAny_bind (zip_turn (A := A.in1) D st al ex ey fun h' st' pr kp => ?_)
    have lS' : listAt h' S (Ts.map Value.ref).toArray c := kp _ _ sn lS
    show wpAny _ A.in1 (updateSeq S (·.push (.ref s.heap.objs.size)) >>= _) _ _ _
    have up : ∀ b o, b ≠ S → h'.get? b = some o → (h'.update S (Obj.mapSeq (·.push (Value.ref s.heap.objs.size)))).get? b = some o := fun b o n e => (Heap.get?_update_other _ _ (Ne.symm n)).trans e
    have nT : s.heap.objs.size ∉ [S, z, TO, i1, i2] := fun h => by
      have lt : ∀ {c o}, s.heap.get? c = some o → s.heap.objs.size ≠ c := fun e => Nat.ne_of_gt (Heap.lt_size e)
      obtain ⟨zs, p1, ⟨a, b, p2⟩, ⟨⟨_, t1, _⟩, ⟨_, t2, _⟩⟩, q1, q2⟩ := st
      simp only [List.mem_cons, List.not_mem_nil, or_false] at h
      rcases h with h | h | h | h | h
      · exact lt lS h
      · rcases zs with ⟨z0, _⟩ | ⟨T, mT, f, zh⟩
        · exact lt z0 h
        · exact lt zh h
      · exact lt p2 h
      · exact lt t1 h
      · exact lt t2 h
    have gv' : Gave h' [S, z, TO, i1, i2] xs ys (Ts ++ [s.heap.objs.size]) := (gv.keep fun b o n e => kp b o (hb b n) e).snoc nT (by rw [lT]; exact ex) (by rw [lT]; exact ey) pr
    refine wpAny_bind (wpAny_updateSeq lS' rfl (wpAny_pure ⟨plainId_quiet F.plain_extend_loop _, ih (k + 1) _ (Ts ++ [s.heap.objs.size]) (c + 1) (by omega) lk (by rw [List.length_append, lT]; rfl) (st'.keep up nS) (gv'.keep fun b o n e => up b o (fun z => n (by rw [z]; exact List.mem_cons_self)) e) ?_ fun h'' Us c' kk lU mU _ gU lU' => ?_⟩) ?_ ?_)
    · have := Heap.get?_update_self (Obj.mapSeq (·.push (Value.ref s.heap.objs.size))) lS' rfl
      refine this.trans ?_
      have sz : (((Ts.map Value.ref).toArray.push (Value.ref s.heap.objs.size)).size == (Ts.map Value.ref).toArray.size) = false := by
        rw [Array.size_push]
        exact beq_eq_false_iff_ne.mpr (by omega)
      have ea : (Ts.map Value.ref).toArray.push (Value.ref s.heap.objs.size) = ((Ts ++ [s.heap.objs.size]).map Value.ref).toArray := by simp
      show some (Obj.mapSeq _ _) = _
      unfold Obj.mapSeq
      rw [ea] at sz
      simp only [ea, sz]
      rfl
    · refine fin h'' Us c' (fun b o n e => kk b o n (up b o (fun z => n (by rw [z]; exact List.mem_cons_self)) (kp b o (hb b n) e))) lU (fun T h => ?_) (.inr trivial) gU lU'
      rcases mU T h with h | h
      · rcases List.mem_append.mp h with h | h
        · exact .inl h
        · exact .inr (by rw [List.mem_singleton.mp h]; exact Nat.le_refl _)
      · refine .inr (Nat.le_trans ?_ h)
        have := Heap.lt_size pr
        show s.heap.objs.size ≤ (h'.update S _).objs.size
        have e : (h'.update S (Obj.mapSeq (·.push (Value.ref s.heap.objs.size)))).objs.size = h'.objs.size := Heap.size_update ..
        rw [e]
        exact Nat.le_of_lt this
    · show (Ts.map Value.ref).toArray.size ≤ sizeLine
      simp only [List.size_toArray, List.length_map]
      exact Nat.le_of_lt (small1000 (by omega))
    · show ((Ts.map Value.ref).toArray.push _).size ≤ sizeLine + 1
      simp only [Array.size_push, List.size_toArray, List.length_map]
      have := small1000 (n := Ts.length) (by omega)
      omega

/-- the list of what a zip gives -/
theorem zip_collect {s : Shared} {Q : List Value → Shared → Prop} (hh : A.handled = none) (D : ZipApart z TI TO i1 i2 l1 l2) (hn : xs.size = ys.size) (hz : xs.size ≤ 1000) (st : Zst s.heap z TI TO i1 i2 l1 l2 xs ys 0 [])
    (hQ : ∀ (h' : Heap) (Us : List Addr), (∀ b o, b ∉ [z, TO, i1, i2] → s.heap.get? b = some o → h'.get? b = some o) → Us.length = xs.size → (∀ T ∈ Us, s.heap.objs.size ≤ T) → Gave h' [z, TO, i1, i2] xs ys Us → Q (Us.map Value.ref) { s with heap := h' }) :
    wpAny (model prog w) A (collect (.ref z)) Q E s := by
  have lt : ∀ {c o}, s.heap.get? c = some o → s.heap.objs.size ≠ c := fun e => Nat.ne_of_gt (Heap.lt_size e)
  have z0 : IsZip s.heap z TI TO .none := by
    rcases st.1 with ⟨h, _⟩ | ⟨_, h, _⟩
    · exact h
    · exact absurd h List.not_mem_nil
  have nS : s.heap.objs.size ∉ [z, TI, TO, i1, i2, l1, l2] := fun h => by
    obtain ⟨_, p1, ⟨a, b, p2⟩, ⟨⟨_, t1, _⟩, ⟨_, t2, _⟩⟩, ⟨_, q1, _⟩, ⟨_, q2, _⟩⟩ := st
    simp only [List.mem_cons, List.not_mem_nil, or_false] at h
    rcases h with h | h | h | h | h | h | h
    · exact lt z0 h
    · exact lt p1 h
    · exact lt p2 h
    · exact lt t1 h
    · exact lt t2 h
    · exact lt q1 h
    · exact lt q2 h
  unfold collect
  refine wpAny_bind (wpAny_runValue (codeAny_builtin F.entry_proto_collect ?_))
  rw [Around.under_plainId F.plain_proto_collect _]
  show wpAny _ A.in1 (newList [] >>= fun l => again (.builtin "list.__iadd__" ⟨[l, .ref z], []⟩)) _ _ s
  refine wpAny_bind (wpAny_newObj_type ?_)
  refine wpAny_pure ⟨plainId_quiet F.plain_list_iadd _, codeAny_builtin F.entry_list_iadd ?_⟩
  rw [Around.under_plainId F.plain_list_iadd _]
  obtain ⟨S, eS⟩ : ∃ S, S = s.heap.objs.size := ⟨_, rfl⟩
  rw [← eS] at nS lt ⊢
  obtain ⟨g, eg⟩ : ∃ g : Heap, g = s.heap.push { cls := .type "list", data := .seq ([] : List Value).toArray } := ⟨_, rfl⟩
  rw [← eg]
  have up : ∀ b o, s.heap.get? b = some o → g.get? b = some o := fun b o e => by rw [eg]; exact Heap.get?_push_of_some _ e
  have gS : listAt g S #[] 0 := by
    rw [eg, eS]
    exact Heap.get?_push_size _ rfl
  have gz : IsZip g z TI TO .none := up _ _ z0
  have ty : ({ s with heap := g } : Shared).TypeIs (.ref z) "zip" := ⟨_, gz, rfl⟩
  have nz : S ≠ z := fun e => nS (by simp [e])
  show wpAny _ A.in1 (Builtin.List.listExtendWith (.ref S) (.ref z) (.ref S)) _ _ { s with heap := g }
  unfold Builtin.List.listExtendWith
  refine wpAny_bind (wpAny_typeOf ty ?_)
  have k1 : Builtin.List.listSameRef (.ref S) (.ref z) = false := by simp [Builtin.List.listSameRef, nz]
  have k2 : (Value.type "zip" == Value.type "list") = false := by decide
  have k3 : (Value.type "zip" == Value.type "tuple") = false := by decide
  simp only [k1, k2, k3, Bool.or_false, Bool.false_eq_true, if_false]
  refine wpAny_bind (wpAny_pyIter_zip (s := { s with heap := g }) gz ?_)
  refine wpAny_bind (wpAny_holding ?_)
  unfold Builtin.List.listLengthHint
  refine wpAny_bind (wpAny_specialOf ty zip_len0 ?_)
  show wpAny _ A.in1 (specialOf (Value.ref z) (Str.ofString "__length_hint__") >>= _) _ _ _
  refine wpAny_bind (wpAny_specialOf ty zip_hint0 ?_)
  refine wpAny_pure ?_
  show wpAny _ A.in1 (rule "list.extend.makes-room" >>= fun _ => Builtin.List.listTouch (.ref S) >>= fun _ => again (.builtin "list.extend.loop" ⟨[.ref S, .ref z, .ref S], []⟩)) _ _ _
  refine wpAny_bind (wpAny_rule (wpAny_bind ?_))
  show wpAny _ A.in1 (updateSeq S (·.push .none) >>= fun _ => updateSeq S (·.pop)) _ _ _
  refine wpAny_bind (wpAny_updateSeq (s := { s with heap := g }) gS rfl ?_)
  have g2 := Heap.get?_update_self (Obj.mapSeq (·.push Value.none)) gS rfl
  refine wpAny_updateSeq g2 rfl ?_
  have g3 := Heap.get?_update_self (Obj.mapSeq (·.pop)) g2 rfl
  have oth : ∀ b o, b ≠ S → g.get? b = some o → ((g.update S (Obj.mapSeq (·.push Value.none))).update S (Obj.mapSeq (·.pop))).get? b = some o := fun b o n e => (Heap.get?_update_other _ _ (Ne.symm n)).trans ((Heap.get?_update_other _ _ (Ne.symm n)).trans e)
  have st' : Zst ((g.update S (Obj.mapSeq (·.push Value.none))).update S (Obj.mapSeq (·.pop))) z TI TO i1 i2 l1 l2 xs ys 0 [] := by
    refine Zst.keep (S := S) (h := g) ?_ oth nS
    obtain ⟨_, p1, ⟨a, b, p2⟩, ⟨t1, t2⟩, q1, q2⟩ := st
    exact ⟨.inl ⟨gz, rfl⟩, up _ _ p1, ⟨a, b, up _ _ p2⟩, ⟨t1.at fun o e => up _ o e, t2.at fun o e => up _ o e⟩, q1.at fun o e => up _ o e, q2.at fun o e => up _ o e⟩
  have sz : ((g.update S (Obj.mapSeq (·.push Value.none))).update S (Obj.mapSeq (·.pop))).objs.size = s.heap.objs.size + 1 := by
    have a1 : ((g.update S (Obj.mapSeq (·.push Value.none))).update S (Obj.mapSeq (·.pop))).objs.size = (g.update S (Obj.mapSeq (·.push Value.none))).objs.size := Heap.size_update ..
    have a2 : (g.update S (Obj.mapSeq (·.push Value.none))).objs.size = g.objs.size := Heap.size_update ..
    rw [a1, a2, eg, Heap.size_push]
  refine wpAny_pure ⟨plainId_quiet F.plain_extend_loop _, zip_loop hh D nS hn hz _ xs.size 0 _ [] _ (by omega) (Nat.zero_le _) rfl st' (fun j T e => by simp at e) g3 fun h' Us c' kp lU mU _ gU lU' => ?_⟩
  have nb : ∀ {b o}, s.heap.get? b = some o → b ≠ S := fun e z => lt e z.symm
  show wpAny _ A (load S >>= _) _ _ { s with heap := h' }
  refine wpAny_bind (wpAny_load lU' (wpAny_pure ?_))
  refine hQ h' Us (fun b o n e => kp b o (fun m => ?_) (oth b o (nb e) (up b o e))) lU (fun T h => ?_) fun j T e => ?_
  · rcases List.mem_cons.mp m with m | m
    · exact nb e m
    · exact n m
  · rcases mU T h with h | h
    · exact absurd h List.not_mem_nil
    · have : s.heap.objs.size + 1 ≤ T := by rw [← sz]; exact h
      exact Nat.le_of_succ_le this
  · obtain ⟨n, x, y, ex, ey, p⟩ := gU j T e
    exact ⟨fun m => n (List.mem_cons_of_mem _ m), x, y, ex, ey, p⟩
theorem zip_tuple {s : Shared} {Q : Value → Shared → Prop} (hh : A.handled = none) (D : ZipApart z TI TO i1 i2 l1 l2) (hn : xs.size = ys.size) (hz : xs.size ≤ 1000) (st : Zst s.heap z TI TO i1 i2 l1 l2 xs ys 0 [])
    (hQ : ∀ (h' : Heap) (Us : List Addr), (∀ b o, b ∉ [z, TO, i1, i2] → s.heap.get? b = some o → h'.get? b = some o) → Us.length = xs.size → (∀ T ∈ Us, s.heap.objs.size ≤ T) → Gave h' [z, TO, i1, i2] xs ys Us →
      Q (.ref h'.objs.size) { s with heap := h'.push { cls := .type "tuple", data := .seq (Us.map Value.ref).toArray } }) :
    wpAny (model prog w) A (call (.type "tuple") [.ref z]) Q E s := by
  refine callType_codes (Q₁ := fun o t => t.TypeIs o "tuple" ∧ Q o t) F.called_tuple (F.typeCall_tuple_1 _) F.entry_object_init ?_ fun o t ht => ⟨ht.1, F.args_object_init_2 o _, object_init_meets F.called_tuple.init.lookup F.called_tuple.made (by decide) prog w A.in1 _ t ⟨ht.1, rfl, ht.2⟩⟩
  have z0 : IsZip s.heap z TI TO .none := by
    rcases st.1 with ⟨h, _⟩ | ⟨_, h, _⟩
    · exact h
    · exact absurd h List.not_mem_nil
  have ty : s.TypeIs (.ref z) "zip" := ⟨_, z0, rfl⟩
  refine codeAny_of_tree ?_
  show wpAny _ A.in1.in1 (do checkBuiltinCall "tuple.__new__" ⟨[.type "tuple", .ref z], []⟩; again (.builtin "tuple.__new__" ⟨[.type "tuple", .ref z], []⟩)) _ _ s
  refine wpAny_bind (wpAny_of_eq (F.newCall_tuple_1 _) (wpAny_pure ⟨plainId_quiet F.plain_tuple_new _, codeAny_builtin F.entry_tuple_new ?_⟩))
  rw [Around.under_plainId F.plain_tuple_new _]
  have f1 := sub_tuple_self
  have f2 := init_tuple_lookup
  have f3 := madeHere_tuple
  have hh2 : A.in1.in1.handled = none := hh
  wp_walk using wpAny_typeOf ty, zip_collect (A := A.in1.in1) hh2 D hn hz st
  intro h' Us kp lU mU gU
  show wpAny _ _ (Builtin.Tuple.tupleExact (Us.map Value.ref).toArray >>= fun v => ret v) _ _ _
  unfold Builtin.Tuple.tupleExact
  refine wpAny_bind (wpAny_newObj_type (wpAny_pure ⟨⟨_, Heap.get?_push_size _ rfl, rfl⟩, hQ h' Us kp lU mU gU⟩) ?_)
  show (Us.map Value.ref).toArray.size ≤ sizeLine
  rw [List.size_toArray, List.length_map, lU]
  exact Nat.le_of_lt (small1000 hz)
end

section
variable {X : Cx} {pins : List (Addr × Obj)} {σ : L2.St} {H H' : Hp} {s : Shared}
/-- some objects laid and tracked at once -/
theorem inv_laid {h' : Heap} {t' : Nat} (I : Inv X pins σ H s) (k : ∀ b u, s.heap.get? b = some u → h'.get? b = some u) (old : ∀ b u, H b = some u → H' b = some u) (new : ∀ b u, H' b = some u → H b = some u ∨ (s.heap.objs.size ≤ b ∧ ObjOk X.prog X.w H' h' b u)) :
    Inv X pins σ H' { s with heap := h', toks := t' } := by
  refine I.un ⟨fun b o q _ _ _ => k b o q, fun b o q _ _ _ => ⟨o.slots, k b o q⟩, fun b o q n _ => ?_, fun b o q _ => ⟨o, k b o q⟩, fun b xs q => old _ _ q, fun b o u q => old _ _ q, fun b ps q => ⟨#[], by rw [old _ _ q]; simp⟩⟩ fun b u e => ?_
  · cases e : H' b with
    | none => rfl
    | some u =>
      rcases new b u e with h | ⟨h, _⟩
      · rw [n] at h
        cases h
      · exact absurd (Nat.lt_of_lt_of_le (Heap.lt_size q) h) (Nat.lt_irrefl _)
  · rcases new b u e with h | ⟨_, h⟩
    · exact (I.hok b u h).stay (fun c v _ q => k c v q) (fun c q => old _ _ q) fun c xs q => old _ _ q
    · exact h
/-- tuple(zip(a, b)) of two lists -/
def tTupZip (K : PySem.W.Frag) (ta : TA) : TE := fun σ H Q => ta σ H fun vs H1 => ∃ a b xs ys, vs = [.ref a, .ref b] ∧ SqL K H1 a xs ∧ SqL K H1 b ys ∧ xs.length = ys.length ∧ xs.length ≤ 1000 ∧
  ∀ H2 q (Us : List Addr), Same H1 H2 → H1 q = none → H2 q = some (.tup (Us.map V.ref)) → Us.length = xs.length → (∀ (j : Nat) T, Us[j]? = some T → ∃ x y, xs[j]? = some x ∧ ys[j]? = some y ∧ H2 T = some (.tup [x, y])) → Q (.ref q) H2
theorem pe_tupZip {e e2 : Expr} {ta : TA} {p p2 pos pos2 : Pos} (hc : X.calm = true) (hg : Gl X "tuple") (hm : X.mg "tuple" = none) (hg2 : Gl X "zip") (hm2 : X.mg "zip" = none) (ha : PA X [e, e2] ta)
    (hs : starEach [e, e2] X.env = (false, eval e X.env) :: starEach [e2] X.env := by rfl) (hpl : (backTo pos2 (starEach [e2] X.env)).any (·.1) = false := by rfl)
    (hs1 : starEach [.Call (.Name "zip" p2) [e, e2] [] pos2] X.env = (false, eval (.Call (.Name "zip" p2) [e, e2] [] pos2) X.env) :: starEach [] X.env := by rfl) :
    PE X (.Call (.Name "tuple" p) [.Call (.Name "zip" p2) [e, e2] [] pos2] [] pos) (tTupZip X.K ta) := by
  refine ⟨fun pins s σ H Q I h => ?_⟩
  refine Call_ (ld_blt I hg hm boot_tuple (PyProof.Rows.callWith_type1 (args_cons ?_ hs1) hs1))
  refine Call_ (ld_blt I hg2 hm2 PyProof.Rows.boot_zip (PyProof.Rows.callWith_type1 (thn (ha.run pos2 pins s σ H _ I h) fun us s1 h1 => ?_) hs hpl))
  obtain ⟨vs, H1, I1, r1, a, b, xs, ys, rfl, ha1, hb1, hl, h1000, q⟩ := h1
  obtain ⟨u1, us, rfl, ru1, r2⟩ : ∃ u us', us = u :: us' ∧ RelV (.ref a) u ∧ Vals [V.ref b] us' := by
    cases r1 with
    | cons r rr => exact ⟨_, _, rfl, r, rr⟩
  obtain ⟨u2, rfl, ru2⟩ : ∃ u, us = [u] ∧ RelV (.ref b) u := by
    cases r2 with
    | cons r rr =>
      cases rr
      exact ⟨_, rfl, r⟩
  obtain rfl : u1 = Value.ref a := ru1
  obtain rfl : u2 = Value.ref b := ru2
  obtain ⟨is1, v1, p1, _⟩ := I1.list ha1
  obtain ⟨is2, v2, p2', _⟩ := I1.list hb1
  have e1 : is1.length = xs.length := v1.length.symm
  have e2' : is2.length = ys.length := v2.length.symm
  refine call_zip_2 p1.isList p2'.isList fun h' hz hTI hTO t1 t2 hsz hk => args_nil ?_
  have D := PySem.W.ktu_apart s1.heap.objs.size a b p1.lt p2'.lt
  have st : Zst h' (s1.heap.objs.size + 4) (s1.heap.objs.size + 2) (s1.heap.objs.size + 3) s1.heap.objs.size (s1.heap.objs.size + 1) a b is1.toArray is2.toArray 0 [] :=
    ⟨.inl ⟨hz, rfl⟩, hTI, ⟨_, _, hTO⟩, ⟨t1, t2⟩, p1.isList.at fun o e => hk _ o e, p2'.isList.at fun o e => hk _ o e⟩
  have hh : X.A.handled = none := I1.ok.hd hc
  refine zip_tuple (s := { s1 with heap := h' }) hh D (by simp only [List.size_toArray]; omega) (by simp only [List.size_toArray]; omega) st fun g Us kp lU mU gU => ?_
  have lU' : Us.length = xs.length := by
    rw [lU, List.size_toArray]
    omega
  have old : ∀ b' o, s1.heap.get? b' = some o → g.get? b' = some o := fun b' o e => by
    have l := Heap.lt_size e
    refine kp b' o (fun m => ?_) (hk b' o e)
    simp only [List.mem_cons, List.not_mem_nil, or_false] at m
    have l' : b' < s1.heap.objs.size := l
    rcases m with m | m | m | m <;> (rw [m] at l'; first | exact absurd l' (Nat.lt_irrefl _) | exact absurd l' (Nat.not_lt.mpr (Nat.le_add_right _ _)))
  have big : ∀ T ∈ Us, s1.heap.objs.size ≤ T := fun T hT => by
    have := mU T hT
    have h5 : h'.objs.size ≤ T := this
    rw [hsz] at h5
    exact Nat.le_trans (Nat.le_add_right _ _) h5
  have gsz : s1.heap.objs.size ≤ g.objs.size := by
    have := Heap.lt_size (kp _ _ (fun m => by
      simp only [List.mem_cons, List.not_mem_nil, or_false] at m
      rcases m with m | m | m | m
      · exact D.TIz m
      · exact D.TITO m
      · exact D.TIi1 m
      · exact D.TIi2 m) hTI)
    exact Nat.le_trans (Nat.le_add_right _ _) (Nat.le_of_lt this)
  have idx : ∀ T ∈ Us, ∃ (j : Nat) (x y : V) (u v : Value), Us[j]? = some T ∧ xs[j]? = some x ∧ ys[j]? = some y ∧ RelV x u ∧ RelV y v ∧ IsPair g T u v := fun T hT => by
    obtain ⟨j, hj, e⟩ := List.getElem_of_mem hT
    have ej : Us[j]? = some T := by rw [List.getElem?_eq_getElem hj, e]
    obtain ⟨_, u, v, eu, ev, pr⟩ := gU j T ej
    have eu' : is1[j]? = some u := by simpa using eu
    have ev' : is2[j]? = some v := by simpa using ev
    have jx : j < xs.length := by
      have := (List.getElem?_eq_some_iff.mp eu').1
      omega
    have jy : j < ys.length := by omega
    obtain ⟨u', ru, hu⟩ := v1.get (List.getElem?_eq_getElem jx)
    obtain ⟨v', rv, hv⟩ := v2.get (List.getElem?_eq_getElem jy)
    rw [eu'] at ru
    rw [ev'] at rv
    cases ru
    cases rv
    exact ⟨j, xs[j], ys[j], u, v, ej, List.getElem?_eq_getElem jx, List.getElem?_eq_getElem jy, hu, hv, pr⟩
  let H2 : Hp := fun c => if c = g.objs.size then some (.tup (Us.map V.ref)) else if h : c ∈ Us then some (.tup [(idx c h).choose_spec.choose, (idx c h).choose_spec.choose_spec.choose]) else H1 c
  have nUg : ∀ T ∈ Us, T ≠ g.objs.size := fun T hT => by
    obtain ⟨_, _, _, _, _, _, _, _, _, _, pr⟩ := idx T hT
    exact Nat.ne_of_lt (Heap.lt_size pr)
  have atq : H2 g.objs.size = some (.tup (Us.map V.ref)) := if_pos rfl
  have atT : ∀ (j : Nat) (T : Addr), Us[j]? = some T → ∃ x y, xs[j]? = some x ∧ ys[j]? = some y ∧ H2 T = some (.tup [x, y]) := fun j T ej => by
    have hT := List.mem_of_getElem? ej
    obtain ⟨_, u, v, eu, ev, pr⟩ := gU j T ej
    have eu' : is1[j]? = some u := by simpa using eu
    have ev' : is2[j]? = some v := by simpa using ev
    have jx : j < xs.length := by
      have := (List.getElem?_eq_some_iff.mp eu').1
      omega
    have jy : j < ys.length := by omega
    obtain ⟨u', ru, hu⟩ := v1.get (List.getElem?_eq_getElem jx)
    obtain ⟨v', rv, hv⟩ := v2.get (List.getElem?_eq_getElem jy)
    rw [eu'] at ru
    rw [ev'] at rv
    cases ru
    cases rv
    refine ⟨xs[j], ys[j], List.getElem?_eq_getElem jx, List.getElem?_eq_getElem jy, ?_⟩
    have e2 : H2 T = some (.tup [(idx T hT).choose_spec.choose, (idx T hT).choose_spec.choose_spec.choose]) := (if_neg (nUg T hT)).trans (dif_pos hT)
    obtain ⟨u2, v2', _, _, _, hu2, hv2, pr2⟩ := (idx T hT).choose_spec.choose_spec.choose_spec
    rw [e2]
    have ed := congrArg Obj.data (Option.some.inj (pr.symm.trans pr2))
    injection ed with ea _
    have el := congrArg Array.toList ea
    have el' : [u, v] = [u2, v2'] := el
    injection el' with eu2 el2
    injection el2 with ev2 _
    subst eu2
    subst ev2
    rw [RelV.inj hu hu2, RelV.inj hv hv2]
  have sam : ∀ c u, H1 c = some u → H2 c = some u := fun c u e => by
    have l : c < s1.heap.objs.size := (I1.hok c u e).lt
    have n1 : c ≠ g.objs.size := Nat.ne_of_lt (Nat.lt_of_lt_of_le l gsz)
    have n2 : c ∉ Us := fun m => absurd (Nat.lt_of_lt_of_le l (big c m)) (Nat.lt_irrefl _)
    exact (if_neg n1).trans ((dif_neg n2).trans e)
  refine ⟨.ref g.objs.size, H2, ?_, rfl, q H2 _ Us sam (I1.hok.fresh gsz) atq lU' atT⟩
  show Inv X pins σ H2 { s1 with heap := g.push { cls := .type "tuple", data := .seq (Us.map Value.ref).toArray }, toks := s1.toks }
  refine inv_laid (t' := s1.toks) I1 (fun c o e => Heap.get?_push_of_some _ (old c o e)) sam fun c u e => ?_
  by_cases c1 : c = g.objs.size
  · subst c1
    rw [atq] at e
    cases e
    refine .inr ⟨gsz, ?_, Us.map Value.ref, vals_refs Us, IsTup.new _ _⟩
    rw [List.length_map, lU']
    exact Nat.le_of_lt (small1000 h1000)
  · by_cases c2 : c ∈ Us
    · obtain ⟨j, hj, ec⟩ := List.getElem_of_mem c2
      have ej : Us[j]? = some c := by rw [List.getElem?_eq_getElem hj, ec]
      obtain ⟨x, y, ex, ey, e2⟩ := atT j c ej
      rw [e2] at e
      cases e
      obtain ⟨_, u, v, eu, ev, pr⟩ := gU j c ej
      have eu' : is1[j]? = some u := by simpa using eu
      have ev' : is2[j]? = some v := by simpa using ev
      obtain ⟨u', ru, hu⟩ := v1.get ex
      obtain ⟨v', rv, hv⟩ := v2.get ey
      rw [eu'] at ru
      rw [ev'] at rv
      cases ru
      cases rv
      refine .inr ⟨big c c2, (show 2 ≤ sizeLine by decide), [u, v], .cons hu (.cons hv .nil), ?_⟩
      exact ⟨_, Heap.get?_push_of_some _ pr, rfl, _, rfl⟩
    · exact .inl (((if_neg c1).trans (dif_neg c2)).symm.trans e)
/-- a value whose object is locked from here on -/
def tFrz (t : TE) : TE := fun σ H Q => t σ H fun v H1 => ∃ d u, v = .ref d ∧ H1 d = some u ∧ Mut (some u) ∧ ∀ od, Q v (upd H1 d (.frz od u))
theorem pe_frz {e : Expr} {t : TE} (h : PE X e t) : PE X e (tFrz t) := by
  refine ⟨fun pins s σ H Q I q => thn (h.run pins s σ H _ I q) fun u s1 h1 => ?_⟩
  obtain ⟨x, H1, I1, rx, d, o, rfl, ed, mu, q⟩ := h1
  obtain ⟨od, I2⟩ := I1.lock ed mu
  exact ⟨_, _, I2, rx, q od⟩
end
end NB

set_option Elab.async false
set_option linter.all false
set_option maxRecDepth 100000
namespace K11
open PySem PySem.Spec PyProof.Rows L2 NB

/-! ### drawn sides and wants -/
section
variable {P : Program} {w : World} {K : PySem.W.Frag} {mg : Str → Option Value} {base : Heap}
def spSideL : Sp := fun vs H Q _ => ∃ (a t : Addr) (tops : List Int) (c : Nat), vs = [.ref a, .ref t] ∧ PotAt H a c ∧ H t = some (.tup (tops.map V.int)) ∧ Pl tops ∧ 1 ≤ tops.length ∧ tops.length ≤ 12 ∧ c < 900000 ∧
  ∀ H' p sd, But a H H' → PotAt H' a (c + 3) → SideAt H' p sd → SideOk tops sd → Q (.ref p) H'
abbrev a__law_side : Stmt := topS 41
abbrev n__law_side : List Str := ["_law_pot_here", "_law_tops_here", "_law_thing"]
theorem sc__law_side : FnScope n__law_side ["_law_pot_here", "_law_tops_here"] (defScope a__law_side) := ⟨rfl, rfl, rfl, by decide +kernel, rfl, by decide +kernel, by decide +kernel⟩
set_option maxHeartbeats 8000000 in
theorem ok__law_side {f fTk fOf : Addr} {fd fdTk fdOf : FuncData} {k : Nat}  (F : Fun K "_law_side" "_law_side" a__law_side f fd) (Tk : Kn P w K mg base 1 "_law_take" ["_law_pot_here", "_law_many"] spTake fTk fdTk) (Of : Kn P w K mg base 2 "_law_of" ["_law_pot_here", "_law_some"] (spOf K) fOf fdOf)  (m_len : mg "len" = none) : FnOk P w K mg base CX0 (k + 3) f fd ["_law_pot_here", "_law_tops_here"] spSideL := by
  refine F.ok sc__law_side (fun vs H Q E h => ?_) (fun cdv A outer s H vs Q E hr h => ?_)
  · obtain ⟨a, t, tops, c, rfl, _⟩ := h
    rfl
  · obtain ⟨a, t, tops, c, rfl, pa, et, pl, l1, l12, hc, q⟩ := h
    refine ⟨_, (pss_cons (ps_set (i := 2) sc__law_side.nd rfl (.inl rfl) (pe_kn Tk hr (by omega) (pa_cons (pv 0) (pa_cons (pe_callB call_len_seq (by rfl) m_len (by decide +kernel) (pa_cons (pv 1) pa_nil)) pa_nil))))
      (pss_one (ps_ret (pe_tup (pa_cons (pv 2) (pa_cons (pe_kn Of hr (by omega) (pa_cons (pv 0) (pa_cons (pe_lst (pa_cons pe_str (pa_cons pe_str pa_nil))) pa_nil))) (pa_cons (pe_kn Tk hr (by omega) (pa_cons (pv 0) (pa_cons (pe_op op_add (pe_ix ix_tup (pv 1) (pv 2) (fun _ _ => rfl)) pe_int) pa_nil))) pa_nil))))))), ?_⟩
    refine ⟨.ref a, rfl, .ref t, rfl, t, _, rfl, .inr (.inl (.inl et)), a, _, _, rfl, pa, by rw [List.length_map]; omega, by rw [List.length_map]; exact len_bd l12, by omega, fun n H1 b1 p1 n0 n1 => ?_⟩
    rw [List.length_map] at n1
    obtain ⟨n, rfl⟩ : ∃ m : Nat, n = m := ⟨n.toNat, by omega⟩
    have hn : n < tops.length := by omega
    refine ⟨.int n, rfl, .ref a, rfl, (show 2 ≤ sizeLine by decide), fun m nm => ?_⟩
    have sm := same_new (o := HO.lst [V.str "from", V.str "to"]) nm
    have nma : m ≠ a := p1.ne nm
    refine ⟨a, m, _, _, rfl, p1.keep sm, nma, .inl (.inl (.inl upd_same)), (show 1 ≤ 2 by decide), (show 2 ≤ 1000000 by decide), by omega, fun x H2 hx b2 p2 => ?_⟩
    obtain ⟨wd, rfl⟩ := words_mem hx
    have b02 := (b1.trans (But.of sm)).trans b2
    have et2 := (Keep.but b02 pa).tup et
    have ht := pl tops[n] (List.getElem_mem hn)
    refine ⟨.ref a, rfl, .ref t, rfl, .int n, rfl, t, _, n, .int tops[n], rfl, rfl, .inl (.inl et2), atI_nat (by rw [List.getElem?_map, List.getElem?_eq_getElem hn]; rfl), _, 1, rfl, rfl, a, _, _, rfl, p2, by omega, top_bd ht.2, by omega, fun d H3 b3 p3 d0 d1 => ?_⟩
    refine ⟨(show 3 ≤ sizeLine by decide), fun p np => ?_⟩
    have npa : p ≠ a := p3.ne np
    have bA := b02.trans b3
    exact q _ p (n, wd, d) (but_new bA (bA.free npa np)) (pot_upd (p3.mono (by omega)) npa) upd_same ⟨tops[n], List.getElem?_eq_getElem hn, d0, by show d ≤ tops[n]; omega⟩
end

/-! ### a plan of any rules -/
section
variable {P : Program} {w : World} {K : PySem.W.Frag} {mg : Str → Option Value} {base : Heap}
def spLoose : Sp := fun vs H Q _ => ∃ (a : Addr) (c : Nat), vs = [.ref a] ∧ PotAt H a c ∧ c < 600000 ∧
  ∀ H' g t R tops rs, But a H H' → PotAt H' a (c + 300) → H' g = some (.tup [.ref t, .ref R]) → H' t = some (.tup (tops.map V.int)) → 1 ≤ tops.length → tops.length ≤ 4 → Few tops → RulesAt H' R rs → rs.length ≤ 7 → (∀ q ∈ rs, RuleOk tops q) → Q (.ref g) H'
abbrev a__law_loose : Stmt := topS 42
abbrev n__law_loose : List Str := ["_law_pot_here", "_law_tops_here", "_law_rules", "_law_turn", "_law_one", "_law_two"]
theorem sc__law_loose : FnScope n__law_loose ["_law_pot_here"] (defScope a__law_loose) := ⟨rfl, rfl, rfl, by decide +kernel, rfl, by decide +kernel, by decide +kernel⟩
set_option maxHeartbeats 8000000 in
theorem ok__law_loose {f fTo fTk fSl : Addr} {fd fdTo fdTk fdSl : FuncData} {k : Nat}  (F : Fun K "_law_loose" "_law_loose" a__law_loose f fd) (To : Kn P w K mg base 3 "_law_tops" ["_law_pot_here"] spTopsL fTo fdTo) (Tk : Kn P w K mg base 1 "_law_take" ["_law_pot_here", "_law_many"] spTake fTk fdTk) (Sl : Kn P w K mg base 3 "_law_side" ["_law_pot_here", "_law_tops_here"] spSideL fSl fdSl)  (m_range : mg "range" = none) (m_tuple : mg "tuple" = none) : FnOk P w K mg base CX0 (k + 4) f fd ["_law_pot_here"] spLoose := by
  refine F.ok sc__law_loose (fun vs H Q E h => ?_) (fun cdv A outer s H vs Q E hr h => ?_)
  · obtain ⟨a, c, rfl, _⟩ := h
    rfl
  · obtain ⟨a, c, rfl, pa, hc, q⟩ := h
    refine ⟨_, (pss_cons (ps_par (i := 1) (j := 2) (by rfl) sc__law_loose.nd rfl rfl (by decide) rfl rfl (pa_cons (pe_kn To hr (by omega) (pa_cons (pv 0) pa_nil)) (pa_cons (pe_lst pa_nil) pa_nil)) (by rfl))
      (pss_cons (ps_for PassesOwn.never rfl (pi_range1 (by rfl) m_range (pa_cons (pe_kn Tk hr (by omega) (pa_cons (pv 0) (pa_cons pe_int pa_nil))) pa_nil)) (pg_name (i := 3) sc__law_loose.nd rfl (.inl rfl))
        (pss_cons (ps_par (i := 4) (j := 5) (by rfl) sc__law_loose.nd rfl rfl (by decide) rfl rfl (pa_cons (pe_kn Sl hr (by omega) (pa_cons (pv 0) (pa_cons (pv 1) pa_nil))) (pa_cons (pe_kn Sl hr (by omega) (pa_cons (pv 0) (pa_cons (pv 1) pa_nil))) pa_nil)) (by rfl))
      (pss_one (ps_expr (pe_bm PySem.F.plainAttrs_list PySem.F.slot_list_append PySem.F.type_list_append mt_append (pv 2) (pa_cons (pe_tup (pa_cons (pv 4) (pa_cons (pe_ifExp (pt_cmpR op_eq (pe_kn Tk hr (by omega) (pa_cons (pv 0) (pa_cons pe_int pa_nil))) pe_int (nomark _)) (pv 4) (pv 5)) pa_nil))) pa_nil))))))
      (pss_one (ps_ret (pe_tup (pa_cons (pv 1) (pa_cons (pe_callTy call_tuple_of (by rfl) m_tuple (by decide +kernel) (pa_cons (pv 2) pa_nil)) pa_nil))))))), ?_⟩
    refine ⟨.ref a, rfl, a, c, rfl, pa, by omega, fun H1 t tops b1 p1 et l1 l4 fw => ⟨Nat.zero_le _, fun l nl => ⟨_, _, rfl, ?_⟩⟩⟩
    have sl := same_new (o := HO.lst []) nl
    have nla : l ≠ a := p1.ne nl
    have nlH : H l = none := b1.free nla nl
    have p2 := p1.keep sl
    have b2 := b1.trans (But.of sl)
    refine ⟨.ref a, rfl, a, 7, _, rfl, p2, by decide, by decide, by omega, fun d H3 b3 p3 d0 d1 => ?_⟩
    have el3 : H3 l = some (.lst (([] : List Addr).map V.ref)) := b3 _ _ nla upd_same
    have et3 := (Keep.but b3 p2).tup (sl _ _ et)
    refine ⟨d, rfl, by omega, by omega, for_it walk_range (fun i σ H' => (∃ u3 u4 u5, σ = [some (.ref a), some (.ref t), some (.ref l), u3, u4, u5]) ∧ But a H H' ∧ PotAt H' a (c + 6 + 7 * i) ∧ H' t = some (.tup (tops.map V.int)) ∧ ∃ (as : List Addr) (rs : List Rl), H' l = some (.lst (as.map V.ref)) ∧ as.length = i ∧ as.length = rs.length ∧ (∀ (j : Nat) (r : Addr) (q : Rl), as[j]? = some r → rs[j]? = some q → RuleAt H' r q) ∧ ∀ q ∈ rs, RuleOk tops q)
      ⟨⟨_, _, _, rfl⟩, b2.trans b3, p3.mono (by omega), et3, [], [], el3, rfl, rfl, (fun j r q h => by simp at h), fun _ h => absurd h List.not_mem_nil⟩ (fun _ _ _ _ _ => trivial) (fun i v σ H4 H4' hi p y => ?_) (fun σ H4 p => ?_)⟩
    · obtain ⟨⟨u3, u4, u5, rfl⟩, b4, p4, et4, as, rs, el4, la, lr, ra, rok⟩ := p
      obtain ⟨rfl, rfl⟩ := y
      have i7 : i < 7 := by omega
      refine ⟨.ref a, rfl, .ref t, rfl, a, t, tops, _, rfl, p4, et4, fw.pl, l1, by omega, by omega, fun H5 o1 s1 b5 p5 h1 k1 => ?_⟩
      have q5 := Keep.but b5 p4
      refine ⟨.ref a, rfl, .ref t, rfl, a, t, tops, _, rfl, p5, q5.tup et4, fw.pl, l1, by omega, by omega, fun H6 o2 s2 b6 p6 h2 k2 => ⟨_, _, rfl, ?_⟩⟩
      have q6 := Keep.but b6 p5
      have b46 := b5.trans b6
      refine ⟨.ref l, rfl, .inl ⟨rfl, _, .inl (.inl (b46 _ _ nla el4))⟩, .ref o1, rfl, .ref a, rfl, a, 8, _, rfl, p6, by decide, by decide, by omega, fun z H7 b7 p7 z0 z1 => ?_⟩
      have q7 := Keep.but b7 p6
      have b47 := b46.trans b7
      have el7 := b47 _ _ nla el4
      have h17 := h1.keep (q6.trans q7)
      have h27 := h2.keep q7
      have et7 := ((q5.trans q6).trans q7).tup et4
      have fin : ∀ (o : Addr) (s : Sd), SideAt H7 o s → SideOk tops s → ∀ m, H7 m = none → (fun i σ H' => (∃ u3 u4 u5, σ = [some (V.ref a), some (V.ref t), some (V.ref l), u3, u4, u5]) ∧ But a H H' ∧ PotAt H' a (c + 6 + 7 * i) ∧ H' t = some (.tup (tops.map V.int)) ∧ ∃ (as : List Addr) (rs : List Rl), H' l = some (.lst (as.map V.ref)) ∧ as.length = i ∧ as.length = rs.length ∧ (∀ (j : Nat) (r : Addr) (q : Rl), as[j]? = some r → rs[j]? = some q → RuleAt H' r q) ∧ ∀ q ∈ rs, RuleOk tops q) (i + 1) [some (V.ref a), some (V.ref t), some (V.ref l), some (V.int (0 + (i : Int))), some (V.ref o1), some (V.ref o2)] (upd (upd H7 m (.tup [.ref o1, .ref o])) l (.lst (as.map V.ref ++ [.ref m]))) := fun o s ho ok m nm => by
        have nma : m ≠ a := p7.ne nm
        have sm := same_new (o := HO.tup [V.ref o1, V.ref o]) nm
        have kE : Keep H7 (upd (upd H7 m (.tup [.ref o1, .ref o])) l (.lst (as.map V.ref ++ [.ref m]))) := (Keep.same sm).trans (.upd (sm _ _ el7))
        have bH := b4.trans b47
        refine ⟨⟨_, _, _, rfl⟩, but_new (but_new bH (bH.free nma nm)) nlH, pot_upd (pot_upd (p7.mono (by omega)) nma) nla, kE.tup et7, as ++ [m], rs ++ [(s1, s)], by rw [upd_same, List.map_append]; rfl, by rw [List.length_append, la]; rfl, by rw [List.length_append, List.length_append, lr]; rfl, ?_, fun y hy => ?_⟩
        · have kA : Keep H4' H7 := (q5.trans q6).trans q7
          exact rules_snoc lr ra (kA.trans kE) ⟨o1, o, Keep.tup (.upd (sm _ _ el7)) upd_same, h17.keep kE, ho.keep kE⟩
        · rcases List.mem_append.mp hy with h | h
          · exact rok y h
          · rw [List.mem_singleton.mp h]
            exact ⟨k1, ok⟩
      refine ⟨rfl, _, rfl, ite2 (fun _ => ?_) (fun _ => ?_)⟩
      · refine ⟨.ref o1, rfl, (show 2 ≤ sizeLine by decide), fun m nm => ⟨l, _, _, rfl, rfl, same_new nm _ _ el7, by rw [List.length_map]; exact small1000 (by omega), fin o1 s1 h17 k1 m nm⟩⟩
      · refine ⟨.ref o2, rfl, (show 2 ≤ sizeLine by decide), fun m nm => ⟨l, _, _, rfl, rfl, same_new nm _ _ el7, by rw [List.length_map]; exact small1000 (by omega), fin o2 s2 h27 k2 m nm⟩⟩
    · obtain ⟨⟨u3, u4, u5, rfl⟩, b4, p4, et4, as, rs, el4, la, lr, ra, rok⟩ := p
      refine ⟨.ref t, rfl, .ref l, rfl, l, _, rfl, .inl ⟨.inl (.inl el4), fun R nR => ⟨(show 2 ≤ sizeLine by decide), fun g ng => ?_⟩⟩⟩
      have sR := same_new (o := HO.tup (as.map V.ref)) nR
      have sg := same_new (o := HO.tup [V.ref t, V.ref R]) ng
      have s := sR.trans sg
      exact q _ g t R tops rs (b4.trans (But.of s)) ((p4.keep s).mono (by omega)) upd_same (s _ _ et4) l1 l4 fw ⟨as, sg _ _ upd_same, lr, fun j r q h1 h2 => (ra j r q h1 h2).keep (.same s)⟩ (by omega) rok
end
end K11

set_option Elab.async false
set_option linter.all false
set_option maxRecDepth 100000
namespace K11
open PySem PySem.Spec PyProof.Rows L2 NB

/-! ### what chains lead to: dicts of sides -/
def KS (s : Sd) : List Key := [.inl (s.1 : Int), .inr (word s.2.1), .inl s.2.2]
theorem word_inj {a b : Bool} (h : word a = word b) : a = b := by
  revert h
  cases a <;> cases b <;> decide +kernel
theorem KS_inj {s t : Sd} (h : KS s = KS t) : s = t := by
  obtain ⟨i, b, p⟩ := s
  obtain ⟨j, c, q⟩ := t
  unfold KS at h
  injection h with h1 h2
  injection h2 with h2 h3
  injection h3 with h3 _
  injection h1 with h1
  injection h2 with h2
  injection h3 with h3
  have h1' : (i : Int) = j := h1
  have e1 : i = j := by omega
  have e2 : b = c := word_inj h2
  have e3 : p = q := h3
  rw [e1, e2, e3]
/-- tuples stay -/
def KT (H H' : Hp) : Prop := ∀ b xs, H b = some (.tup xs) → H' b = some (.tup xs)
theorem KT.of {H H' : Hp} (k : Keep H H') : KT H H' := fun b xs e => k.tup e
theorem KT.same {H H' : Hp} (s : Same H H') : KT H H' := fun b xs e => s _ _ e
theorem KT.trans {H H1 H2 : Hp} (a : KT H H1) (b : KT H1 H2) : KT H H2 := fun c xs e => b c xs (a c xs e)
theorem KT.refl (H : Hp) : KT H H := fun _ _ e => e
theorem KT.upd {H : Hp} {d : Addr} {o o' : HO} (e : H d = some o) (n : ∀ xs, o ≠ .tup xs) : KT H (upd H d o') := fun b xs q => by
  rw [upd_ne (fun z => by
    rw [z, e] at q
    cases q
    exact n _ rfl)]
  exact q
theorem SideAt.kt {H H' : Hp} {p : Addr} {s : Sd} (h : SideAt H p s) (k : KT H H') : SideAt H' p s := k _ _ h
theorem OthAt.kt {H H' : Hp} {v : V} {o : Option Sd} (h : OthAt H v o) (k : KT H H') : OthAt H' v o := by
  cases o with
  | none => exact h
  | some s =>
    obtain ⟨g, e, hs⟩ := h
    exact ⟨g, e, hs.kt k⟩
theorem SdsAt.kt {H H' : Hp} {L : List (Addr × Sd)} (h : SdsAt H L) (k : KT H H') : SdsAt H' L := fun z hz => (h z hz).kt k
/-- what a dict of sides holds: each with the one ahead of it -/
def AhK (H : Hp) (kvs : List (List Key × V)) (E : List (Sd × Option Sd)) : Prop := Paired (fun kv e => kv.1 = KS e.1 ∧ OthAt H kv.2 e.2) kvs E
theorem AhK.kt {H H' : Hp} {kvs : List (List Key × V)} {E : List (Sd × Option Sd)} (h : AhK H kvs E) (k : KT H H') : AhK H' kvs E := by
  unfold AhK at *
  induction h with
  | nil => exact .nil
  | cons a _ ih => exact .cons ⟨a.1, a.2.kt k⟩ ih
theorem AhK.len {H : Hp} {kvs : List (List Key × V)} {E : List (Sd × Option Sd)} (h : AhK H kvs E) : kvs.length = E.length := Paired.length h
theorem AhK.get {H : Hp} {kvs : List (List Key × V)} {E : List (Sd × Option Sd)} (h : AhK H kvs E) {i : Nat} {kv : List Key × V} (e : kvs[i]? = some kv) : ∃ x, E[i]? = some x ∧ kv.1 = KS x.1 ∧ OthAt H kv.2 x.2 := by
  unfold AhK at h
  induction h generalizing i with
  | nil => simp at e
  | cons a _ ih =>
    cases i with
    | zero => cases e; exact ⟨_, rfl, a⟩
    | succ i => exact ih e
theorem AhK.no {H : Hp} {kvs : List (List Key × V)} {E : List (Sd × Option Sd)} (h : AhK H kvs E) {s : Sd} (n : s ∉ E.map (·.1)) : valV kvs (KS s) = none := by
  unfold AhK at h
  unfold valV
  induction h with
  | nil => rfl
  | @cons kv x l1 l2 a _ ih =>
    rw [List.map_cons, List.mem_cons, not_or] at n
    rw [List.find?_cons, decide_eq_false (fun z => n.1 (KS_inj (a.1.symm.trans z)).symm)]
    exact ih n.2
theorem AhK.at' {H : Hp} {kvs : List (List Key × V)} {E : List (Sd × Option Sd)} (h : AhK H kvs E) (nd : (E.map (·.1)).Nodup) {x : Sd × Option Sd} (m : x ∈ E) : ∃ v, valV kvs (KS x.1) = some v ∧ OthAt H v x.2 := by
  unfold AhK at h
  unfold valV
  induction h with
  | nil => exact absurd m List.not_mem_nil
  | @cons kv y l1 l2 a _ ih =>
    rw [List.map_cons, List.nodup_cons] at nd
    rcases List.mem_cons.mp m with rfl | m
    · rw [List.find?_cons, decide_eq_true a.1]
      exact ⟨_, rfl, a.2⟩
    · have ne : ¬ kv.1 = KS x.1 := fun z => nd.1 (by
        have := KS_inj (a.1.symm.trans z)
        rw [this]
        exact List.mem_map.mpr ⟨x, m, rfl⟩)
      rw [List.find?_cons, decide_eq_false ne]
      exact ih nd.2 m
theorem AhK.isSome {H : Hp} {kvs : List (List Key × V)} {E : List (Sd × Option Sd)} (h : AhK H kvs E) (nd : (E.map (·.1)).Nodup) (s : Sd) : (valV kvs (KS s)).isSome = decide (s ∈ E.map (·.1)) := by
  by_cases c : s ∈ E.map (·.1)
  · obtain ⟨x, hx, rfl⟩ := List.mem_map.mp c
    obtain ⟨v, e, _⟩ := h.at' nd hx
    rw [e, decide_eq_true c]
    rfl
  · rw [h.no c, decide_eq_false c]
    rfl
/-- a dict of sides, all with one value -/
def insS (L : List Sd) (s : Sd) : List Sd := if s ∈ L then L else L ++ [s]
theorem ins_mem {L : List Sd} {s t : Sd} : t ∈ insS L s ↔ t ∈ L ∨ t = s := by
  unfold insS
  split
  · rename_i c
    exact ⟨.inl, fun h => h.elim id fun e => e ▸ c⟩
  · rw [List.mem_append, List.mem_singleton]
theorem ins_nd {L : List Sd} {s : Sd} (h : L.Nodup) : (insS L s).Nodup := by
  unfold insS
  split
  · exact h
  · rename_i c
    rw [List.nodup_append]
    refine ⟨h, by simp, fun a ha b hb e => c ?_⟩
    rw [List.mem_singleton.mp hb] at e
    exact e ▸ ha
theorem ins_len (L : List Sd) (s : Sd) : (insS L s).length ≤ L.length + 1 := by
  unfold insS
  split
  · omega
  · rw [List.length_append]
    exact Nat.le_refl _
theorem put_const (L : List Sd) (s : Sd) (v : V) : putK (L.map fun t => (KS t, v)) (KS s) v = (insS L s).map fun t => (KS t, v) := by
  unfold putK insS
  have e : ((L.map fun t => (KS t, v)).any fun kv => decide (kv.1 = KS s)) = true ↔ s ∈ L := by
    rw [List.any_map, List.any_eq_true]
    constructor
    · rintro ⟨t, ht, h⟩
      exact KS_inj (of_decide_eq_true h) ▸ ht
    · exact fun h => ⟨s, h, decide_eq_true rfl⟩
  by_cases c : s ∈ L
  · rw [if_pos (e.mpr c), if_pos c, List.map_map]
    refine List.map_congr_left fun t _ => ?_
    show (if KS t = KS s then (KS t, v) else (KS t, v)) = (KS t, v)
    split <;> rfl
  · rw [if_neg (fun h => c (e.mp h)), if_neg c, List.map_append]
    rfl
/-- how a dict of what is reached was grown -/
structure Ahd (tops : List Int) (rs : List Rl) (S : List Sd) (E : List (Sd × Option Sd)) : Prop where
  nd : (E.map (·.1)).Nodup
  st : ∀ s ∈ S, s ∈ E.map (·.1)
  n0 : ∀ (i : Nat) (s : Sd), E[i]? = some (s, none) → s ∈ S
  n1 : ∀ (i : Nat) (s a : Sd), E[i]? = some (s, some a) → s ∈ ledL tops rs a ∧ a ∈ (E.take i).map (·.1)
def CloE (tops : List Int) (rs : List Rl) (E : List (Sd × Option Sd)) (n : Nat) : Prop := ∀ x ∈ E.take n, ∀ b ∈ ledL tops rs x.1, b ∈ E.map (·.1)
theorem Ahd.rea {tops : List Int} {rs : List Rl} {S : List Sd} {E : List (Sd × Option Sd)} (A : Ahd tops rs S E) : ∀ (n i : Nat), i < n → ∀ x, E[i]? = some x → Rea tops rs (· ∈ S) x.1 := by
  intro n
  induction n with
  | zero => exact fun i h => absurd h (Nat.not_lt_zero _)
  | succ n ih =>
    intro i hi x ex
    obtain ⟨s, o⟩ := x
    cases o with
    | none => exact .base (A.n0 i s ex)
    | some a =>
      obtain ⟨h1, h2⟩ := A.n1 i s a ex
      obtain ⟨y, hy, ey⟩ := List.mem_map.mp h2
      obtain ⟨j, hj, e⟩ := List.getElem_of_mem hy
      have hj' : j < i := by
        rw [List.length_take] at hj
        omega
      have eE : E[j]? = some y := by
        have : (E.take i)[j]? = some y := by rw [List.getElem?_eq_getElem hj, e]
        rwa [List.getElem?_take_of_lt hj'] at this
      have := ih j (by omega) y eE
      rw [ey] at this
      exact .step this h1
theorem Ahd.mem {tops : List Int} {rs : List Rl} {S : List Sd} {E : List (Sd × Option Sd)} (A : Ahd tops rs S E) (c : CloE tops rs E E.length) {s : Sd} : s ∈ E.map (·.1) ↔ Rea tops rs (· ∈ S) s := by
  constructor
  · intro h
    obtain ⟨x, hx, rfl⟩ := List.mem_map.mp h
    obtain ⟨i, hi, e⟩ := List.getElem_of_mem hx
    exact A.rea (i + 1) i (by omega) x (by rw [List.getElem?_eq_getElem hi, e])
  · intro h
    induction h with
    | base h => exact A.st _ h
    | step _ l ih =>
      obtain ⟨x, hx, rfl⟩ := List.mem_map.mp ih
      exact c x (by rw [List.take_length]; exact hx) _ l
theorem Ahd.grow {tops : List Int} {rs : List Rl} {S : List Sd} {E : List (Sd × Option Sd)} (A : Ahd tops rs S E) {s a : Sd} (n : s ∉ E.map (·.1)) (l : s ∈ ledL tops rs a) (m : a ∈ E.map (·.1)) : Ahd tops rs S (E ++ [(s, some a)]) := by
  refine ⟨?_, fun t ht => ?_, fun i t e => ?_, fun i t b e => ?_⟩
  · rw [List.map_append, List.nodup_append]
    refine ⟨A.nd, by simp, fun x hx y hy e => n ?_⟩
    rw [List.map_cons, List.map_nil, List.mem_singleton] at hy
    have es : x = s := e.trans hy
    exact es ▸ hx
  · rw [List.map_append]
    exact List.mem_append_left _ (A.st t ht)
  · rcases Nat.lt_or_ge i E.length with c | c
    · rw [List.getElem?_append_left c] at e
      exact A.n0 i t e
    · rw [List.getElem?_append_right c] at e
      cases h : i - E.length with
      | zero => rw [h] at e; cases e
      | succ k => rw [h] at e; simp at e
  · rcases Nat.lt_or_ge i E.length with c | c
    · rw [List.getElem?_append_left c] at e
      rw [List.take_append_of_le_length (by omega)]
      exact A.n1 i t b e
    · rw [List.getElem?_append_right c] at e
      cases h : i - E.length with
      | zero =>
        rw [h] at e
        cases e
        have : i = E.length := by omega
        rw [this, List.take_left]
        exact ⟨l, m⟩
      | succ k => rw [h] at e; simp at e
/-- all sides of rules -/
def ruleSds (rs : List Rl) : List Sd := rs.flatMap fun q => [q.1, q.2]
theorem ruleSds_mem {rs : List Rl} {s : Sd} : s ∈ ruleSds rs ↔ RuleSd rs s := by
  unfold ruleSds RuleSd
  rw [List.mem_flatMap]
  constructor
  · rintro ⟨q, hq, h⟩
    simp only [List.mem_cons, List.not_mem_nil, or_false] at h
    exact ⟨q, hq, h⟩
  · rintro ⟨q, hq, h⟩
    exact ⟨q, hq, by simpa using h⟩
theorem ruleSds_len (rs : List Rl) : (ruleSds rs).length = 2 * rs.length := by
  unfold ruleSds
  induction rs with
  | nil => rfl
  | cons q rs ih =>
    rw [List.flatMap_cons, List.length_append, ih]
    simp only [List.length_cons, List.length_nil]
    omega
theorem led_rule {tops : List Int} {rs : List Rl} {a b : Sd} (h : b ∈ ledL tops rs a) : b ∈ ruleSds rs := by
  obtain ⟨q, hq, ⟨_, rfl⟩ | ⟨_, rfl⟩⟩ := led_iff.mp h
  · exact ruleSds_mem.mpr ⟨q, hq, .inr rfl⟩
  · exact ruleSds_mem.mpr ⟨q, hq, .inl rfl⟩
theorem Ahd.few {tops : List Int} {rs : List Rl} {S : List Sd} {E : List (Sd × Option Sd)} (A : Ahd tops rs S E) : E.length ≤ S.length + 2 * rs.length := by
  have h := nodup_len (E.map (·.1)) (S ++ ruleSds rs) A.nd fun s hs => by
    obtain ⟨x, hx, rfl⟩ := List.mem_map.mp hs
    obtain ⟨i, hi, e⟩ := List.getElem_of_mem hx
    obtain ⟨s, o⟩ := x
    have ex : E[i]? = some (s, o) := by rw [List.getElem?_eq_getElem hi, e]
    cases o with
    | none => exact List.mem_append_left _ (A.n0 i s ex)
    | some a => exact List.mem_append_right _ (led_rule (A.n1 i s a ex).1)
  rw [List.length_map, List.length_append, ruleSds_len] at h
  exact h
theorem keys_sds {H : Hp} {v : V} : ∀ {L : List Sd} {bs : List Addr}, IsKeys H (L.map fun t => (KS t, v)) bs → ∃ L0 : List (Addr × Sd), sdR L0 = bs.map V.ref ∧ L0.map (·.2) = L ∧ SdsAt H L0
  | [], bs, h => by
    cases h
    exact ⟨[], rfl, rfl, fun _ h => absurd h List.not_mem_nil⟩
  | s :: L, bs, h => by
    cases h with
    | cons a h =>
      obtain ⟨L0, e1, e2, e3⟩ := keys_sds h
      refine ⟨(_, s) :: L0, congrArg (V.ref _ :: ·) e1, by rw [List.map_cons, e2], fun z hz => ?_⟩
      rcases List.mem_cons.mp hz with rfl | hz
      · exact a
      · exact e3 z hz
theorem ahk_const {H : Hp} : ∀ (L : List Sd), AhK H (L.map fun t => (KS t, V.non)) (L.map fun t => (t, none))
  | [] => .nil
  | s :: L => .cons ⟨rfl, rfl⟩ (ahk_const L)
theorem ahd_const {tops : List Int} {rs : List Rl} {S L : List Sd} (nd : L.Nodup) (m : ∀ s, s ∈ L ↔ s ∈ S) : Ahd tops rs S (L.map fun t => (t, none)) := by
  have e : (L.map fun t => ((t, none) : Sd × Option Sd)).map (·.1) = L := by
    rw [List.map_map]
    exact List.map_id _
  refine ⟨by rw [e]; exact nd, fun s hs => by rw [e]; exact (m s).mpr hs, fun i s h => ?_, fun i s a h => ?_⟩
  · rw [List.getElem?_map] at h
    cases hl : L[i]? with
    | none => rw [hl] at h; cases h
    | some t =>
      rw [hl] at h
      cases h
      exact (m s).mp (List.mem_of_getElem? hl)
  · rw [List.getElem?_map] at h
    cases hl : L[i]? with
    | none => rw [hl] at h; cases h
    | some t => rw [hl] at h; cases h
section
variable {P : Program} {w : World} {K : PySem.W.Frag} {mg : Str → Option Value} {base : Heap}
def spRea (K : PySem.W.Frag) (C : Addr) : Sp := fun vs H Q _ => ∃ (x g : Addr) (tops : List Int) (rs : List Rl) (Ls : List (Addr × Sd)), vs = [.ref x, .ref g] ∧ PlanAt C H x tops rs ∧ SqT K H g (sdR Ls) ∧ SdsAt H Ls ∧ (∀ z ∈ Ls, SideOk tops z.2) ∧ (∀ q ∈ rs, RuleOk tops q) ∧ rs.length ≤ 40 ∧ Ls.length ≤ 200 ∧
  ∀ H' d od kvs E, Same H H' → H d = none → H' d = some (.frz od (.dT kvs)) → AhK H' kvs E → Ahd tops rs (Ls.map (·.2)) E → CloE tops rs E E.length → E.length ≤ 280 → Q (.ref d) H'
abbrev a_reached : Stmt := topS 16
abbrev n_reached : List Str := ["plan", "starts", "side", "ahead", "row", "at", "here"]
theorem sc_reached : FnScope n_reached ["plan", "starts"] (defScope a_reached) := ⟨rfl, rfl, rfl, by decide +kernel, rfl, by decide +kernel, by decide +kernel⟩
set_option maxHeartbeats 8000000 in
theorem ok_reached {f fLr : Addr} {fd fdLr : FuncData} {k : Nat} {C : Addr} (F : Fun K "reached" "reached" a_reached f fd) (Lr : Kn P w K mg base 3 "led_by_rules" ["plan", "side"] (spLed C) fLr fdLr)  (m_len : mg "len" = none) (m_list : mg "list" = none) : FnOk P w K mg base CX0 (k + 4) f fd ["plan", "starts"] (spRea K C) := by
  refine F.ok sc_reached (fun vs H Q E h => ?_) (fun cdv A outer s H vs Q E hr h => ?_)
  · obtain ⟨x, g, tops, rs, Ls, rfl, _⟩ := h
    rfl
  · obtain ⟨x, g, tops, rs, Ls, rfl, hp, eg, hL, okS, rok, l40, l100, q⟩ := h
    refine ⟨_, (pss_cons (ps_dcT (i := 3) (own := [("side", 2)]) (g := (gName 2)) (tk := (tVar 2)) (tv := (tC .non)) (Room.u1 hr) rfl sc_reached.nd (pi_tup (pv 1)) (blkOk_by (N := n_reached) (sc := defScope a_reached) (by decide +kernel))
          (fun _ _ _ _ _ => (pg_name (i := 2) sc_reached.nd rfl (.inl rfl) (hf := .inr rfl))) (fun _ _ _ _ _ => (pv 2)) (fun _ _ _ _ _ => pe_non) rfl rfl (sw_dict rfl rfl rfl (by decide +kernel)))
      (pss_cons (ps_set (i := 4) sc_reached.nd rfl (.inl rfl) (pe_callTy (call_list_dT rfl) (by rfl) m_list (by decide +kernel) (pa_cons (pv 3) pa_nil)))
      (pss_cons (ps_set (i := 5) sc_reached.nd rfl (.inl rfl) pe_int)
      (pss_cons (ps_while PassesOwn.never (pt_cmpR op_lt (pv 5) (pe_callB call_len_seq (by rfl) m_len (by decide +kernel) (pa_cons (pv 4) pa_nil)) (nomark _))
        (pss_cons (ps_set (i := 6) sc_reached.nd rfl (.inl rfl) (pe_ix ix_list (pv 4) (pv 5) (fun _ _ => rfl)))
      (pss_cons (ps_for PassesOwn.never rfl (pi_list (pe_kn Lr hr (by omega) (pa_cons (pv 0) (pa_cons (pv 6) pa_nil)))) (pg_name (i := 2) sc_reached.nd rfl (.inl rfl))
        (pss_one (ps_if (pt_cmp (pc_dnotin (Room.u1 hr) (pv 2) (pv 3))) (pss_cons (ps_dput (Room.u1 hr) (pv 3) (pv 2) (pv 6) rfl)
      (pss_one (ps_expr (pe_bm PySem.F.plainAttrs_list PySem.F.slot_list_append PySem.F.type_list_append mt_append (pv 4) (pa_cons (pv 2) pa_nil))))) pss_nil)))
      (pss_one (ps_aug (i := 5) sc_reached.nd rfl (.inl rfl) pe_int ip_add)))))
      (pss_one (ps_ret (pe_frz (pv 3)))))))), ?_⟩
    -- the dict of the starts
    refine ⟨.ref g, rfl, g, rfl, ⟨_, eg⟩, fun D nD => stp_it (walk_tup (xs := sdR Ls)) (fun i H' => Same H H' ∧ ∃ L : List Sd, H' D = some (.dT (L.map fun t => (KS t, V.non))) ∧ L.Nodup ∧ (∀ s, s ∈ L ↔ s ∈ (Ls.take i).map (·.2)) ∧ L.length ≤ i) ⟨same_new nD, [], upd_same, .nil, (fun s => by simp), Nat.le_refl _⟩ (fun i H' _ y => sameT y.1 eg) (fun i v H1 H2 hi y z => ?_) (fun H1 y => ?_)⟩
    · obtain ⟨s1, L, eD, nd, mL, lL⟩ := y
      obtain ⟨rfl, gv⟩ := z
      obtain ⟨zz, ez, rfl⟩ := mapGet gv
      have hz := List.mem_of_getElem? ez
      refine ⟨wipe_one, .ref zz.1, rfl, _, KS zz.2, zz.1, rfl, (hL zz hz).keep (.same s1), eD, by rw [List.length_map]; exact small1000 (by rw [List.length_map] at hi; omega), same_over s1 nD, insS L zz.2, by rw [upd_same, put_const], ins_nd nd, fun s => ?_, Nat.le_trans (ins_len L zz.2) (by omega)⟩
      rw [ins_mem, mL s, List.take_add_one, ez, List.map_append, List.mem_append]
      simp
    obtain ⟨s1, L, eD, nd, mL, lL⟩ := y
    rw [List.length_map, List.take_length] at mL
    refine ⟨.ref D, rfl, D, _, rfl, .inl eD, fun l bs nl ik => ?_⟩
    obtain ⟨L0, e0, m0, h0⟩ := keys_sds ik
    have sl := same_new (o := HO.lst (bs.map V.ref)) nl
    have eD1 := sl _ _ eD
    have nlH : H l = none := s1.free nl
    have s01 := s1.trans sl
    have el1 : (upd H1 l (.lst (bs.map V.ref))) l = some (.lst (sdR L0)) := by rw [upd_same, e0]
    have h01 := h0.keep (.same sl)
    have nlD : l ≠ D := fun e => by
      rw [e, eD] at nl
      cases nl
    generalize upd H1 l (.lst (bs.map V.ref)) = H2 at eD1 s01 el1 h01 ⊢
    refine ⟨fun m σ H' => ∃ (n : Nat) (u2 u6 : Option V) (kvs : List (List Key × V)) (E : List (Sd × Option Sd)) (L : List (Addr × Sd)), σ = [some (.ref x), some (.ref g), u2, some (.ref D), some (.ref l), some (.int (n : Int)), u6] ∧ m = 1000 - n ∧ n ≤ E.length ∧ Same H H' ∧ H' D = some (.dT kvs) ∧ AhK H' kvs E ∧ H' l = some (.lst (sdR L)) ∧ SdsAt H' L ∧ L.map (·.2) = E.map (·.1) ∧ Ahd tops rs (Ls.map (·.2)) E ∧ CloE tops rs E n,
      ⟨1000, 0, _, _, _, L.map (fun t => (t, none)), L0, rfl, rfl, Nat.zero_le _, s01, eD1, ahk_const L, el1, h01, ?_, ahd_const nd mL, fun x hx => absurd hx (by simp)⟩, fun m σ H3 W => ?_⟩
    · rw [m0, List.map_map]
      exact (List.map_id _).symm
    obtain ⟨n, u2, u6, kvs, E, L, rfl, rfl, nE, s3, eD3, aK, el3, hL3, eL3, A, cl⟩ := W
    have lE : E.length ≤ 280 := by
      have := A.few
      rw [List.length_map] at this
      omega
    have lLE : L.length = E.length := by
      have := congrArg List.length eL3
      rwa [List.length_map, List.length_map] at this
    refine ⟨_, rfl, .ref l, rfl, l, _, rfl, .inl (.inl (.inl el3)), _, _, rfl, rfl, _, rfl, ite2 (fun c => ?_) (fun c => ?_)⟩
    · have c' : n < L.length := by
        have := of_decide_eq_true c
        rw [List.length_map] at this
        omega
      have ez : L[n]? = some L[n] := List.getElem?_eq_getElem c'
      have hz := hL3 _ (List.getElem_mem c')
      have en : ∃ o, E[n]? = some (L[n].2, o) := by
        have h1 : (L.map (·.2))[n]? = some L[n].2 := by rw [List.getElem?_map, ez]; rfl
        rw [eL3] at h1
        obtain ⟨y, ey, e⟩ := mapGet h1
        exact ⟨y.2, by rw [ey, e]⟩
      obtain ⟨o, eo⟩ := en
      have okz : SideOk tops L[n].2 := (A.rea (n + 1) n (by omega) _ eo).ok rok fun s hs => by
        obtain ⟨z, hz, rfl⟩ := List.mem_map.mp hs
        exact okS z hz
      have mz : L[n].2 ∈ E.map (·.1) := List.mem_map.mpr ⟨_, List.mem_of_getElem? eo, rfl⟩
      refine ⟨fun σ' H' => ∃ (n' : Nat) (u2 u6 : Option V) (kvs : List (List Key × V)) (E : List (Sd × Option Sd)) (L : List (Addr × Sd)), σ' = [some (.ref x), some (.ref g), u2, some (.ref D), some (.ref l), some (.int (n' : Int)), u6] ∧ n' = n + 1 ∧ n' ≤ E.length ∧ Same H H' ∧ H' D = some (.dT kvs) ∧ AhK H' kvs E ∧ H' l = some (.lst (sdR L)) ∧ SdsAt H' L ∧ L.map (·.2) = E.map (·.1) ∧ Ahd tops rs (Ls.map (·.2)) E ∧ CloE tops rs E n', fun σ' H' w' => ?_, ?_⟩
      · obtain ⟨n', u2, u6, kvs, E', L', e1, e2, rest⟩ := w'
        exact ⟨1000 - n', by omega, n', u2, u6, kvs, E', L', e1, rfl, rest⟩
      refine ⟨.ref l, rfl, _, rfl, l, _, n, _, rfl, rfl, .inl (.inl el3), atI_nat (by rw [List.getElem?_map, ez]; rfl), ?_⟩
      refine ⟨.ref x, rfl, .ref L[n].1, rfl, x, L[n].1, tops, rs, L[n].2, rfl, hp.keep (.same s3), hz, okz, rok, l40, fun H4 fl F s4 nfl efl hF eF => ⟨fl, rfl, ⟨_, .inl (.inl efl)⟩, ?_⟩⟩
      have nflH : H fl = none := s3.free nfl
      have nll : fl ≠ l := fun e => by
        rw [e, el3] at nfl
        cases nfl
      have nlf : fl ≠ D := fun e => by
        rw [e, eD3] at nfl
        cases nfl
      have hzn : SideAt H4 L[n].1 L[n].2 := hz.keep (.same s4)
      refine for_it (walk_list (xs := sdR F)) (fun j σ H' => ∃ (u2 : Option V) (kvs : List (List Key × V)) (E' : List (Sd × Option Sd)) (L' : List (Addr × Sd)), σ = [some (.ref x), some (.ref g), u2, some (.ref D), some (.ref l), some (.int (n : Int)), some (.ref L[n].1)] ∧ Same H H' ∧ KT H4 H' ∧ H' fl = some (.lst (sdR F)) ∧ H' D = some (.dT kvs) ∧ AhK H' kvs E' ∧ H' l = some (.lst (sdR L')) ∧ SdsAt H' L' ∧ L'.map (·.2) = E'.map (·.1) ∧ Ahd tops rs (Ls.map (·.2)) E' ∧ (∃ Ex, E' = E ++ Ex) ∧ ∀ b ∈ (F.take j).map (·.2), b ∈ E'.map (·.1))
        ⟨_, kvs, E, L, rfl, s3.trans s4, KT.refl _, efl, s4 _ _ eD3, aK.kt (KT.same s4), s4 _ _ el3, hL3.keep (.same s4), eL3, A, ⟨[], (List.append_nil _).symm⟩, (fun b h => absurd h (by simp))⟩ (fun j σ H' _ y => by
          obtain ⟨_, _, _, _, _, _, _, e, _⟩ := y
          exact .inl (.inl e)) (fun j v σ H5 H5' hj y z => ?_) (fun σ H5 y => ?_)
      · obtain ⟨u2', kvs', E', L', rfl, s5, k5, ef5, eD5, aK5, el5, hL5, eL5, A5, ⟨Ex, rfl⟩, in5⟩ := y
        obtain ⟨rfl, gv⟩ := z
        obtain ⟨fz, efz, rfl⟩ := mapGet gv
        have hfz := (hF fz (List.mem_of_getElem? efz)).kt k5
        have lE5 : (E ++ Ex).length ≤ 280 := by
          have := A5.few
          rw [List.length_map] at this
          omega
        have lL5 : L'.length ≤ 280 := by
          have := congrArg List.length eL5
          rw [List.length_map, List.length_map] at this
          omega
        have mF : fz.2 ∈ ledL tops rs L[n].2 := by
          rw [← eF]
          exact List.mem_map.mpr ⟨fz, List.mem_of_getElem? efz, rfl⟩
        have tkF : (F.take (j + 1)).map (·.2) = (F.take j).map (·.2) ++ [fz.2] := by
          rw [List.take_add_one, efz, List.map_append]
          rfl
        refine ⟨.ref fz.1, rfl, .ref D, rfl, D, _, rfl, DGet.t (k := KS fz.2) eD5 hfz, _, rfl, ?_⟩
        rw [aK5.isSome A5.nd]
        by_cases cin : fz.2 ∈ (E ++ Ex).map (·.1)
        · rw [decide_eq_true cin]
          refine iteF ⟨_, kvs', E ++ Ex, L', rfl, s5, k5, ef5, eD5, aK5, el5, hL5, eL5, A5, ⟨Ex, rfl⟩, fun b hb => ?_⟩
          rw [tkF] at hb
          rcases List.mem_append.mp hb with h | h
          · exact in5 b h
          · rw [List.mem_singleton.mp h]
            exact cin
        · rw [decide_eq_false cin]
          refine iteT ⟨.ref L[n].1, rfl, .ref D, rfl, .ref fz.1, rfl, D, _, rfl, DPut.t (k := KS fz.2) eD5 hfz (small1000 (by rw [aK5.len]; omega)), ?_⟩
          rw [putK_new _ (aK5.no cin)]
          have kD : KT H5' (upd H5' D (.dT (kvs' ++ [(KS fz.2, V.ref L[n].1)]))) := KT.upd eD5 (fun xs e => nomatch e)
          have el6 : (upd H5' D (.dT (kvs' ++ [(KS fz.2, V.ref L[n].1)]))) l = some (.lst (sdR L')) := by rw [upd_ne nlD]; exact el5
          have s6 : Same H (upd H5' D (.dT (kvs' ++ [(KS fz.2, V.ref L[n].1)]))) := same_over s5 nD
          have ef6 : (upd H5' D (.dT (kvs' ++ [(KS fz.2, V.ref L[n].1)]))) fl = some (.lst (sdR F)) := by rw [upd_ne nlf]; exact ef5
          have eD6 : (upd H5' D (.dT (kvs' ++ [(KS fz.2, V.ref L[n].1)]))) D = some (.dT (kvs' ++ [(KS fz.2, V.ref L[n].1)])) := upd_same
          generalize upd H5' D (.dT (kvs' ++ [(KS fz.2, V.ref L[n].1)])) = H6 at kD el6 s6 ef6 eD6 ⊢
          have k6 := k5.trans kD
          refine ⟨.ref l, rfl, .inl ⟨rfl, _, .inl (.inl el6)⟩, .ref fz.1, rfl, l, _, _, rfl, rfl, el6, by rw [List.length_map]; exact small1000 (by omega), ?_⟩
          have kl : KT H6 (upd H6 l (.lst (sdR L' ++ [V.ref fz.1]))) := KT.upd el6 (fun xs e => by cases e)
          have k7 := k6.trans kl
          refine ⟨_, kvs' ++ [(KS fz.2, V.ref L[n].1)], (E ++ Ex) ++ [(fz.2, some L[n].2)], L' ++ [fz], rfl, same_over s6 nlH, k7, by rw [upd_ne nll]; exact ef6, by rw [upd_ne (Ne.symm nlD)]; exact eD6, Paired.snoc (aK5.kt (kD.trans kl)) ⟨rfl, _, rfl, hzn.kt k7⟩, by rw [upd_same]; simp [sdR], (hL5.kt (kD.trans kl)).snoc (hfz.kt (kD.trans kl)), by rw [List.map_append, List.map_append, eL5]; rfl, A5.grow cin mF (by rw [List.map_append]; exact List.mem_append_left _ mz), ⟨Ex ++ [(fz.2, some L[n].2)], List.append_assoc ..⟩, fun b hb => ?_⟩
          rw [tkF] at hb
          rw [List.map_append]
          rcases List.mem_append.mp hb with h | h
          · exact List.mem_append_left _ (in5 b h)
          · rw [List.mem_singleton.mp h]
            exact List.mem_append_right _ (by simp)
      · obtain ⟨u2', kvs', E', L', rfl, s5, k5, ef5, eD5, aK5, el5, hL5, eL5, A5, ⟨Ex, rfl⟩, in5⟩ := y
        rw [List.length_map, List.take_length, eF] at in5
        refine ⟨_, rfl, _, _, rfl, rfl, n + 1, _, _, kvs', E ++ Ex, L', rfl, rfl, ?_, s5, eD5, aK5, el5, hL5, eL5, A5, fun y hy b hb => ?_⟩
        · rw [List.length_append]
          omega
        · rw [List.take_append_of_le_length (by omega), List.take_add_one, eo] at hy
          rcases List.mem_append.mp hy with h | h
          · rw [List.map_append]
            exact List.mem_append_left _ (cl y h b hb)
          · have ey : y = (L[n].2, o) := by simpa using h
            rw [ey] at hb
            exact in5 b hb
    · have c' : n = E.length := by
        have : ¬ ((n : Int) < ((sdR L).length : Int)) := fun z => c (decide_eq_true z)
        rw [List.length_map] at this
        omega
      subst c'
      refine ⟨.ref D, rfl, D, _, rfl, eD3, trivial, fun od => ?_⟩
      have kd : KT H3 (upd H3 D (.frz od (.dT kvs))) := KT.upd eD3 (fun xs e => by cases e)
      exact q _ D od kvs E (same_over s3 nD) nD upd_same (aK.kt kd) A cl lE
end
end K11

set_option Elab.async false
set_option linter.all false
set_option maxRecDepth 100000
namespace K11
open PySem PySem.Spec PyProof.Rows L2 NB

/-! ### sides as data -/
def sdD (s : Sd) : PyData := .tuple [.int s.1, .str (word s.2.1), .int s.2.2]
theorem dp_sd {K : PySem.W.Frag} {H : Hp} {p : Addr} {s : Sd} (h : SideAt H p s) : Dp K H (.ref p) (sdD s) := .tup (.inl (.inl h)) (.cons (.int _) (.cons (.str _) (.cons (.int _) .nil)))
theorem shaped_sd (s : Sd) : SeqAt.shaped (sdD s) = true := by
  unfold SeqAt.shaped sdD
  have h : PyData.strOk (word s.2.1) = true := by
    cases s.2.1 <;> decide +kernel
  simp [PyData.canLay0, PyData.canLayAll0, PyData.depth, PyData.depthAll, h]
theorem eqv_sd (a b : Sd) : PyData.eqv (sdD a) (sdD b) = decide (a = b) := by
  unfold sdD
  simp only [PyData.eqv, PyData.eqvAll, Bool.and_true]
  rw [Bool.eq_iff_iff]
  simp only [Bool.and_eq_true, decide_eq_true_eq]
  constructor
  · rintro ⟨h1, h2, h3⟩
    obtain ⟨i, b', p⟩ := a
    obtain ⟨j, c, q⟩ := b
    simp only [beq_iff_eq] at h1 h2 h3
    have e1 : i = j := by omega
    have e2 : b' = c := word_inj h2
    rw [e1, e2, h3]
  · rintro rfl
    simp

/-! ### what follows -/
def BndAt (H : Hp) (p : Addr) (lows highs : List Int) : Prop := ∃ Us : List Addr, H p = some (.tup (Us.map V.ref)) ∧ Us.length = lows.length ∧ ∀ (j : Nat) (T : Addr), Us[j]? = some T → H T = some (.tup [.int (plc lows j), .int (plc highs j)])
theorem BndAt.keep {H H' : Hp} {p : Addr} {lows highs : List Int} (h : BndAt H p lows highs) (k : Keep H H') : BndAt H' p lows highs := by
  obtain ⟨Us, e, l, t⟩ := h
  exact ⟨Us, k.tup e, l, fun j T ej => k.tup (t j T ej)⟩
theorem plcSet {l : List Int} {i : Nat} {v : Int} (h : i < l.length) (j : Nat) : plc (l.set i v) j = if j = i then v else plc l j := by
  show (l.set i v).getD j 0 = _
  rw [List.getD_eq_getElem?_getD]
  by_cases c : j = i
  · rw [c, List.getElem?_set_self h, if_pos rfl]
    rfl
  · rw [List.getElem?_set_ne (Ne.symm c), if_neg c]
    exact (List.getD_eq_getElem?_getD ..).symm
structure FolP (tops : List Int) (ks : List Sd) (lows highs : List Int) : Prop where
  ll : lows.length = tops.length
  lh : highs.length = tops.length
  l0 : ∀ i, i < tops.length → plc lows i = 0 ∨ (i, true, plc lows i) ∈ ks
  h0 : ∀ i, i < tops.length → plc highs i = plc tops i ∨ (i, false, plc highs i) ∈ ks
  l1 : ∀ i p, (i, true, p) ∈ ks → p ≤ plc lows i
  h1 : ∀ i p, (i, false, p) ∈ ks → plc highs i ≤ p
  lz : ∀ i, i < tops.length → 0 ≤ plc lows i
  hz : ∀ i, i < tops.length → plc highs i ≤ plc tops i
theorem FolP.init (tops : List Int) : FolP tops [] (List.replicate tops.length 0) tops := by
  have e : ∀ i, plc (List.replicate tops.length (0 : Int)) i = 0 := fun i => by
    show (List.replicate tops.length (0 : Int)).getD i 0 = 0
    rw [List.getD_eq_getElem?_getD, List.getElem?_replicate]
    split <;> rfl
  exact ⟨List.length_replicate, rfl, fun i _ => .inl (e i), fun i _ => .inl rfl, fun _ _ h => absurd h List.not_mem_nil, fun _ _ h => absurd h List.not_mem_nil, fun i _ => by rw [e i]; exact Int.le_refl _, fun i _ => Int.le_refl _⟩
theorem FolP.from' {tops : List Int} {ks : List Sd} {lows highs : List Int} (F : FolP tops ks lows highs) {i : Nat} {p : Int} (li : i < tops.length) : FolP tops (ks ++ [(i, true, p)]) (lows.set i (if p > plc lows i then p else plc lows i)) highs := by
  have lw : i < lows.length := by rw [F.ll]; exact li
  refine ⟨by rw [List.length_set]; exact F.ll, F.lh, fun j hj => ?_, fun j hj => ?_, fun j r h => ?_, fun j r h => ?_, fun j hj => ?_, F.hz⟩
  · rw [plcSet lw]
    by_cases c : j = i
    · rw [if_pos c]
      split
      · rw [c]
        exact .inr (List.mem_append_right _ (List.mem_singleton.mpr rfl))
      · rcases F.l0 i li with h | h
        · exact .inl h
        · rw [c]
          exact .inr (List.mem_append_left _ h)
    · rw [if_neg c]
      rcases F.l0 j hj with h | h
      · exact .inl h
      · exact .inr (List.mem_append_left _ h)
  · rcases F.h0 j hj with h | h
    · exact .inl h
    · exact .inr (List.mem_append_left _ h)
  · rw [plcSet lw]
    rcases List.mem_append.mp h with h | h
    · have := F.l1 j r h
      by_cases c : j = i
      · rw [if_pos c]
        rw [c] at this
        split <;> omega
      · rw [if_neg c]
        exact this
    · have e := List.mem_singleton.mp h
      injection e with e1 e2
      injection e2 with _ e3
      rw [if_pos e1, e3]
      split <;> omega
  · rcases List.mem_append.mp h with h | h
    · exact F.h1 j r h
    · have e := List.mem_singleton.mp h
      injection e with e1 e2
      injection e2 with e2 _
      cases e2
  · rw [plcSet lw]
    have := F.lz j hj
    have := F.lz i li
    split
    · split <;> omega
    · omega
theorem FolP.to' {tops : List Int} {ks : List Sd} {lows highs : List Int} (F : FolP tops ks lows highs) {i : Nat} {p : Int} (li : i < tops.length) : FolP tops (ks ++ [(i, false, p)]) lows (highs.set i (if p < plc highs i then p else plc highs i)) := by
  have lw : i < highs.length := by rw [F.lh]; exact li
  refine ⟨F.ll, by rw [List.length_set]; exact F.lh, fun j hj => ?_, fun j hj => ?_, fun j r h => ?_, fun j r h => ?_, F.lz, fun j hj => ?_⟩
  · rcases F.l0 j hj with h | h
    · exact .inl h
    · exact .inr (List.mem_append_left _ h)
  · rw [plcSet lw]
    by_cases c : j = i
    · rw [if_pos c]
      split
      · rw [c]
        exact .inr (List.mem_append_right _ (List.mem_singleton.mpr rfl))
      · rcases F.h0 i li with h | h
        · rw [c]
          exact .inl h
        · rw [c]
          exact .inr (List.mem_append_left _ h)
    · rw [if_neg c]
      rcases F.h0 j hj with h | h
      · exact .inl h
      · exact .inr (List.mem_append_left _ h)
  · rcases List.mem_append.mp h with h | h
    · exact F.l1 j r h
    · have e := List.mem_singleton.mp h
      injection e with e1 e2
      injection e2 with e2 _
      cases e2
  · rw [plcSet lw]
    rcases List.mem_append.mp h with h | h
    · have := F.h1 j r h
      by_cases c : j = i
      · rw [if_pos c]
        rw [c] at this
        split <;> omega
      · rw [if_neg c]
        exact this
    · have e := List.mem_singleton.mp h
      injection e with e1 e2
      injection e2 with _ e3
      rw [if_pos e1, e3]
      split <;> omega
  · rw [plcSet lw]
    have := F.hz j hj
    have h2 := F.hz i li
    by_cases c : j = i
    · rw [if_pos c, c]
      split <;> omega
    · rw [if_neg c]
      exact this
theorem FolP.fol {tops : List Int} {rs : List Rl} {ks : List Sd} {lows highs : List Int} {S : Sd → Prop} (F : FolP tops ks lows highs) (m : ∀ s, s ∈ ks ↔ Rea tops rs S s) : Fol tops rs S lows highs :=
  ⟨F.ll, F.lh, fun i hi => (F.l0 i hi).imp_right (m _).mp, fun i hi => (F.h0 i hi).imp_right (m _).mp, fun i p h => F.l1 i p ((m _).mpr h), fun i p h => F.h1 i p ((m _).mpr h), F.lz, F.hz⟩
theorem rep_flat (n : Nat) : (List.replicate n [V.int 0]).flatten = (List.replicate n (0 : Int)).map V.int := by
  induction n with
  | zero => rfl
  | succ n ih =>
    rw [List.replicate_succ, List.flatten_cons, ih, List.replicate_succ]
    rfl
section
variable {P : Program} {w : World} {K : PySem.W.Frag} {mg : Str → Option Value} {base : Heap}
/-- what is handed to those who look at a want -/
structure Wnt (K : PySem.W.Frag) (C : Addr) (H : Hp) (x g : Addr) (tops : List Int) (rs : List Rl) (Ls : List (Addr × Sd)) : Prop where
  hp : PlanAt C H x tops rs
  eg : SqT K H g (sdR Ls)
  hL : SdsAt H Ls
  okS : ∀ z ∈ Ls, SideOk tops z.2
  rok : ∀ q ∈ rs, RuleOk tops q
  l40 : rs.length ≤ 40
  lS : Ls.length ≤ 200
  l12 : tops.length ≤ 12
  pl : ∀ i, i < tops.length → 0 ≤ plc tops i
theorem Wnt.same {C : Addr} {H H' : Hp} {x g : Addr} {tops : List Int} {rs : List Rl} {Ls : List (Addr × Sd)} (h : Wnt K C H x g tops rs Ls) (s : Same H H') : Wnt K C H' x g tops rs Ls :=
  ⟨h.hp.keep (.same s), sameT s h.eg, h.hL.keep (.same s), h.okS, h.rok, h.l40, h.lS, h.l12, h.pl⟩
theorem Wnt.ok {C : Addr} {H : Hp} {x g : Addr} {tops : List Int} {rs : List Rl} {Ls : List (Addr × Sd)} (h : Wnt K C H x g tops rs Ls) : ∀ s, s ∈ Ls.map (·.2) → SideOk tops s := fun s hs => by
  obtain ⟨z, hz, rfl⟩ := List.mem_map.mp hs
  exact h.okS z hz
def spFol (K : PySem.W.Frag) (C : Addr) : Sp := fun vs H Q _ => ∃ (x g : Addr) (tops : List Int) (rs : List Rl) (Ls : List (Addr × Sd)), vs = [.ref x, .ref g] ∧ Wnt K C H x g tops rs Ls ∧
  ∀ H' p lows highs, Same H H' → H p = none → BndAt H' p lows highs → Fol tops rs (· ∈ Ls.map (·.2)) lows highs → Q (.ref p) H'
abbrev a_follows : Stmt := topS 23
abbrev n_follows : List Str := ["plan", "want", "lows", "highs", "thing", "word", "place"]
theorem sc_follows : FnScope n_follows ["plan", "want"] (defScope a_follows) := ⟨rfl, rfl, rfl, by decide +kernel, rfl, by decide +kernel, by decide +kernel⟩
set_option maxHeartbeats 8000000 in
theorem ok_follows {f fRe : Addr} {fd fdRe : FuncData} {k : Nat} {C : Addr} (F : Fun K "follows" "follows" a_follows f fd) (Re : Kn P w K mg base 4 "reached" ["plan", "starts"] (spRea K C) fRe fdRe) (T : PlanTxt K mg C) (m_zip : mg "zip" = none) (m_len : mg "len" = none) (m_list : mg "list" = none) (m_max : mg "max" = none) (m_min : mg "min" = none) (m_tuple : mg "tuple" = none) : FnOk P w K mg base CX0 (k + 5) f fd ["plan", "want"] (spFol K C) := by
  refine F.ok sc_follows (fun vs H Q E h => ?_) (fun cdv A outer s H vs Q E hr h => ?_)
  · obtain ⟨x, g, tops, rs, Ls, rfl, _⟩ := h
    rfl
  · obtain ⟨x, g, tops, rs, Ls, rfl, W, q⟩ := h
    refine ⟨_, (pss_cons (ps_set (i := 2) sc_follows.nd rfl (.inl rfl) (pe_op op_rep (pe_lst (pa_cons pe_int pa_nil)) (pe_callB call_len_seq (by rfl) m_len (by decide +kernel) (pa_cons (pe_fld (pv 0) rfl) pa_nil))))
      (pss_cons (ps_set (i := 3) sc_follows.nd rfl (.inl rfl) (pe_callTy call_list_of (by rfl) m_list (by decide +kernel) (pa_cons (pe_fld (pv 0) rfl) pa_nil)))
      (pss_cons (ps_for PassesOwn.never rfl (pi_keys (pe_kn Re hr (by omega) (pa_cons (pv 0) (pa_cons (pv 1) pa_nil)))) (pg_tup rfl (pgs_cons (pg_name (i := 4) sc_follows.nd rfl (.inl rfl)) (pgs_cons (pg_name (i := 5) sc_follows.nd rfl (.inl rfl)) (pgs_cons (pg_name (i := 6) sc_follows.nd rfl (.inl rfl)) pgs_nil))))
        (pss_one (ps_if (pt_cmpR op_eq (pv 5) pe_str (nomark _)) (pss_one (ps_asg (pe_callB (call_max2 rfl) (by rfl) m_max (by decide +kernel) (pa_cons (pe_ix ix_list (pv 2) (pv 4) (fun _ _ => rfl)) (pa_cons (pv 6) pa_nil))) (pg_sub (pv 2) (pv 4) set_list))) (pss_one (ps_asg (pe_callB (call_min2 rfl) (by rfl) m_min (by decide +kernel) (pa_cons (pe_ix ix_list (pv 3) (pv 4) (fun _ _ => rfl)) (pa_cons (pv 6) pa_nil))) (pg_sub (pv 3) (pv 4) set_list))))))
      (pss_one (ps_ret (pe_tupZip rfl (by rfl) m_tuple (by rfl) m_zip (pa_cons (pv 2) (pa_cons (pv 3) pa_nil)))))))), ?_⟩
    have hp := W.hp
    have l12 := W.l12
    obtain ⟨dx, t, R, ex, et, hR⟩ := hp
    refine ⟨(show 1 ≤ sizeLine by decide), fun l0 nl0 => ?_⟩
    have s0 := same_new (o := HO.lst [V.int 0]) nl0
    refine ⟨.ref x, rfl, x, C, dx, _, _, rfl, s0 _ _ ex, T.cl, T.nT, look_tops _ _, t, _, rfl, .inr (.inl (.inl (s0 _ _ et))), l0, _, _, rfl, rfl, upd_same, by omega, by rw [List.length_map]; omega, ?_, fun lw nlw => ?_⟩
    · rw [List.length_map]
      exact Nat.le_of_lt (small1000 (by simp only [List.length_cons, List.length_nil]; omega))
    have s1 := s0.trans (same_new (o := HO.lst (List.replicate (((tops.map V.int).length : Int)).toNat [V.int 0]).flatten) nlw)
    have nlwH : H lw = none := s0.free nlw
    have elw : (upd (upd H l0 (.lst [V.int 0])) lw (.lst (List.replicate (((tops.map V.int).length : Int)).toNat [V.int 0]).flatten)) lw = some (.lst ((List.replicate tops.length (0 : Int)).map V.int)) := by
      rw [upd_same, rep_flat, List.length_map]
      simp
    generalize upd (upd H l0 (.lst [V.int 0])) lw (.lst (List.replicate (((tops.map V.int).length : Int)).toNat [V.int 0]).flatten) = H1 at s1 elw ⊢
    refine ⟨.ref x, rfl, x, C, dx, _, _, rfl, s1 _ _ ex, T.cl, T.nT, look_tops _ _, t, _, rfl, .inr (.inl (.inl (s1 _ _ et))), fun hg nhg => ?_⟩
    have sh := same_new (o := HO.lst (tops.map V.int)) nhg
    have s2 := s1.trans sh
    have nhgH : H hg = none := s1.free nhg
    have nlh : lw ≠ hg := ne_of_none elw nhg
    have elw2 := sh _ _ elw
    have ehg2 : (upd H1 hg (.lst (tops.map V.int))) hg = some (.lst (tops.map V.int)) := upd_same
    generalize upd H1 hg (.lst (tops.map V.int)) = H2 at s2 elw2 ehg2 ⊢
    have W2 := W.same s2
    refine ⟨.ref x, rfl, .ref g, rfl, x, g, tops, rs, Ls, rfl, W2.hp, W2.eg, W2.hL, W2.okS, W2.rok, W2.l40, W2.lS, fun H3 d od kvs E s3 nd ed aK A cl lE => ?_⟩
    have okR : ∀ s, s ∈ E.map (·.1) → SideOk tops s := fun s hs => ((A.mem cl).mp hs).ok W.rok W.ok
    refine ⟨d, od, rfl, .inr ⟨kvs, ed, for_it walk_keysT (fun i σ H' => (∃ u4 u5 u6, σ = [some (.ref x), some (.ref g), some (.ref lw), some (.ref hg), u4, u5, u6]) ∧ Same H H' ∧ H' d = some (.frz od (.dT kvs)) ∧ ∃ lows highs, H' lw = some (.lst (lows.map V.int)) ∧ H' hg = some (.lst (highs.map V.int)) ∧ FolP tops ((E.take i).map (·.1)) lows highs) ⟨⟨_, _, _, rfl⟩, s2.trans s3, ed, _, _, s3 _ _ elw2, s3 _ _ ehg2, FolP.init tops⟩ (fun i σ H' _ y => y.2.2.1) (fun i v σ H4 H4' hi y z => ?_) (fun σ H4 y => ?_)⟩⟩
    · obtain ⟨⟨u4, u5, u6, rfl⟩, s4, ed4, lows, highs, el4, eh4, F⟩ := y
      obtain ⟨rfl, k, v', qa, ekv, rfl, eqa⟩ := z
      obtain ⟨e, ee, ek, _⟩ := aK.get ekv
      have ek' : k = KS e.1 := ek
      subst ek'
      have hqa : SideAt H4' qa e.1 := eqa
      have ok := okR e.1 (List.mem_map.mpr ⟨e, List.mem_of_getElem? ee, rfl⟩)
      have tk : (E.take (i + 1)).map (·.1) = (E.take i).map (·.1) ++ [e.1] := by
        rw [List.take_add_one, ee, List.map_append]
        rfl
      have ndl : d ≠ lw := fun z => by
        rw [z, el4] at ed4
        cases ed4
      have ndh : d ≠ hg := fun z => by
        rw [z, eh4] at ed4
        cases ed4
      have li := ok.lt
      obtain ⟨⟨j, b, p⟩, o⟩ := e
      have li' : j < tops.length := li
      refine ⟨qa, _, rfl, .inl (.inl hqa), rfl, _, _, rfl, _, _, rfl, _, _, rfl, rfl, _, rfl, rfl, _, rfl, ?_⟩
      cases b with
      | true =>
        refine iteTr w_from ⟨.ref lw, rfl, _, rfl, lw, _, j, _, rfl, rfl, .inl (.inl el4), plc_at (by rw [F.ll]; exact li'), _, rfl, _, _, rfl, .ref lw, rfl, _, rfl, lw, _, j, j, rfl, rfl, el4, by rw [List.length_map, F.ll]; exact ixN_nat li', ⟨_, _, _, rfl⟩, same_over s4 nlwH, by rw [upd_ne ndl]; exact ed4, _, highs, by rw [upd_same, List.map_set], by rw [upd_ne (Ne.symm nlh)]; exact eh4, by rw [tk]; exact F.from' li'⟩
      | false =>
        refine iteFa w_to ⟨.ref hg, rfl, _, rfl, hg, _, j, _, rfl, rfl, .inl (.inl eh4), plc_at (by rw [F.lh]; exact li'), _, rfl, _, _, rfl, .ref hg, rfl, _, rfl, hg, _, j, j, rfl, rfl, eh4, by rw [List.length_map, F.lh]; exact ixN_nat li', ⟨_, _, _, rfl⟩, same_over s4 nhgH, by rw [upd_ne ndh]; exact ed4, lows, _, by rw [upd_ne nlh]; exact el4, by rw [upd_same, List.map_set], by rw [tk]; exact F.to' li'⟩
    · obtain ⟨⟨u4, u5, u6, rfl⟩, s4, ed4, lows, highs, el4, eh4, F⟩ := y
      rw [aK.len, List.take_length] at F
      refine ⟨.ref lw, rfl, .ref hg, rfl, lw, hg, _, _, rfl, .inl (.inl el4), .inl (.inl eh4), by rw [List.length_map, List.length_map, F.ll, F.lh], by rw [List.length_map, F.ll]; omega, fun H5 p Us s5 np ep lU aU => q H5 p lows highs (s4.trans s5) (s4.free np) ⟨Us, ep, by rw [lU, List.length_map], fun j T ej => ?_⟩ (F.fol fun s => A.mem cl)⟩
      obtain ⟨a, b, ea, eb, eT⟩ := aU j T ej
      obtain ⟨a', ea', rfl⟩ := mapGet ea
      obtain ⟨b', eb', rfl⟩ := mapGet eb
      have e1 : plc lows j = a' := by
        show lows.getD j 0 = a'
        rw [List.getD_eq_getElem?_getD, ea']
        rfl
      have e2 : plc highs j = b' := by
        show highs.getD j 0 = b'
        rw [List.getD_eq_getElem?_getD, eb']
        rfl
      rw [e1, e2]
      exact eT
end
end K11

set_option Elab.async false
set_option linter.all false
set_option maxRecDepth 100000
namespace K11
open PySem PySem.Spec PyProof.Rows L2 NB

/-! ### wants had, the nearest that has one, whether a way leads -/
/-- the good standing that has a want and lies between -/
structure Nrst (tops : List Int) (rs : List Rl) (W : List Sd) (st n : List Int) : Prop where
  good : n ∈ goods tops rs
  has : ∀ s ∈ W, inB n s = true
  btw : ∀ g ∈ goods tops rs, (∀ s ∈ W, inB g s = true) → ∀ i, i < tops.length → Btw (plc st i) (plc n i) (plc g i)
theorem Fol.nrst {tops : List Int} {rs : List Rl} (rok : ∀ q ∈ rs, RuleOk tops q) {W : List Sd} (ok : ∀ s, s ∈ W → SideOk tops s) {lows highs st g0 : List Int} (F : Fol tops rs (· ∈ W) lows highs) (hst : st ∈ goods tops rs) (hg0 : g0 ∈ goods tops rs) (i0 : ∀ s ∈ W, inB g0 s = true) : Nrst tops rs W st (pullF lows highs st) := by
  have cr := F.cross rok ok hg0 i0
  obtain ⟨h1, h2⟩ := F.good rok ok cr hst
  refine ⟨h1, fun s hs => h2 s (.base hs), fun g hg ig i hi => ?_⟩
  have sd := F.sound rok ok hg ig hi
  have ls := goods_len hst
  rw [plc_pull (by omega)]
  unfold Btw
  omega
section
variable {P : Program} {w : World} {K : PySem.W.Frag} {mg : Str → Option Value} {base : Heap}
def spHas (K : PySem.W.Frag) : Sp := fun vs H Q _ => ∃ (g a : Addr) (Ls : List (Addr × Sd)) (st : List Int), vs = [.ref g, .ref a] ∧ SqT K H g (sdR Ls) ∧ SdsAt H Ls ∧ (∀ z ∈ Ls, z.2.1 < st.length) ∧ Ls.length ≤ 200 ∧ H a = some (.tup (st.map V.int)) ∧ ∀ H', Same H H' → Q (.bl ((Ls.map (·.2)).all (inB st))) H'
abbrev a_has : Stmt := topS 22
abbrev n_has : List Str := ["want", "standing", "side"]
theorem sc_has : FnScope n_has ["want", "standing"] (defScope a_has) := ⟨rfl, rfl, rfl, by decide +kernel, rfl, by decide +kernel, by decide +kernel⟩
set_option maxHeartbeats 8000000 in
theorem ok_has {f fIn : Addr} {fd fdIn : FuncData} {k : Nat}  (F : Fun K "has" "has" a_has f fd) (In : Kn P w K mg base 1 "is_in" ["side", "standing"] spIn fIn fdIn)  (m_all : mg "all" = none) : FnOk P w K mg base CX0 (k + 2) f fd ["want", "standing"] (spHas K) := by
  refine F.ok sc_has (fun vs H Q E h => ?_) (fun cdv A outer s H vs Q E hr h => ?_)
  · obtain ⟨g, a, Ls, st, rfl, _⟩ := h
    rfl
  · obtain ⟨g, a, Ls, st, rfl, eg, hL, lt, l200, ea, q⟩ := h
    refine ⟨_, (pss_one (ps_ret (pe_callB (cr_all rfl) (by rfl) m_all (by decide +kernel) (pa_cons (
        pe_lc (own := [("side", 2)]) (g := (gName 2)) (tt := tYes) (te := (tCall spIn [] E0 (tCons (tVar 2) (tCons (tVar 1) tNil)))) rfl sc_has.nd (pi_tup (pv 0)) (blkOk_by (N := n_has) (sc := defScope a_has) (by decide +kernel))
          (fun _ _ _ _ _ => (pg_name (i := 2) sc_has.nd rfl (.inl rfl) (hf := .inr rfl))) (fun _ _ _ _ _ => pts_nil) (fun _ _ _ _ _ => (pe_kn In hr (by omega) (pa_cons (pv 2) (pa_cons (pv 1) pa_nil))))) pa_nil)))), ?_⟩
    refine ⟨.ref g, rfl, g, rfl, ⟨_, eg⟩, fun D nD => lc_it (walk_tup (xs := sdR Ls)) (fun i H' => Same H H' ∧ H' D = some (.lst ((((Ls.map (·.2)).take i).map (inB st)).map V.bl))) ⟨same_new nD, upd_same⟩ (fun i H' _ y => sameT y.1 eg) (fun i v H1 H2 hi y z => ?_) (fun H1 y => ?_)⟩
    · obtain ⟨s1, eD⟩ := y
      obtain ⟨rfl, gv⟩ := z
      obtain ⟨zz, ez, rfl⟩ := mapGet gv
      have hz := List.mem_of_getElem? ez
      refine ⟨wipe_one, .ref zz.1, rfl, .ref a, rfl, zz.1, a, zz.2, st, rfl, (hL zz hz).keep (.same s1), s1 _ _ ea, lt zz hz, _, eD, ?_, same_over s1 nD, ?_⟩
      · rw [List.length_map, List.length_map, List.length_take, List.length_map]
        exact small1000 (by omega)
      · rw [upd_same, List.take_add_one, List.getElem?_map, ez, List.map_append, List.map_append]
        rfl
    · obtain ⟨s1, eD⟩ := y
      have hl : (sdR Ls).length = (Ls.map (·.2)).length := by rw [List.length_map, List.length_map]
      rw [hl, List.take_length] at eD
      refine ⟨D, _, rfl, .inl (.inl eD), ?_⟩
      have e : ((Ls.map (·.2)).map (inB st)).all id = (Ls.map (·.2)).all (inB st) := by
        rw [List.all_map]
        rfl
      rw [e]
      exact q H1 s1
end
end K11

set_option Elab.async false
set_option linter.all false
set_option maxRecDepth 100000
namespace NB
open PySem PySem.Spec PyProof.Rows L2
section
variable {X : Cx}
/-- what stands at the keys of a dict of tuples of whole numbers -/
def KeyInts (ks : List (List Key)) (ns : List (List Int)) : Prop := ks = ns.map fun n => n.map Sum.inl
theorem kv_ints (n : List Int) : (n.map (Sum.inl : Int → Key)).map kV = n.map V.int := by
  rw [List.map_map]
  rfl
/-- sorted(d), d a dict of fewer than 64 tuples of whole numbers -/
def rSortD (d : Nat) (B : Int) : List V → Hp → VK → Prop := fun vs H Q => ∃ (a : Addr) (kvs : List (List Key × V)) (ns : List (List Int)), vs = [V.ref a] ∧ H a = some (.dT kvs) ∧
  kvs.map (·.1) = (ns.map fun n => n.map Sum.inl) ∧ ns.length < 64 ∧ (∀ n ∈ ns, n.length = d ∧ TS.Bd B n) ∧
  ∀ (L : List (Addr × List Int)) (p : Addr), (L.map (·.2)).Perm ns → (∀ z ∈ L, H z.1 = some (.tup (z.2.map V.int))) → L.Pairwise (fun y z => TS.code B y.2 ≤ TS.code B z.2) → H p = none → Q (.ref p) (upd H p (.lst (L.map fun z => V.ref z.1)))
theorem paired_at {α β : Type} {F : α → β → Prop} : ∀ {l₁ : List α} {l₂ : List β}, Paired F l₁ l₂ → ∀ (j : Nat) (x : α) (y : β), l₁[j]? = some x → l₂[j]? = some y → F x y
  | _, _, .nil, j, x, y, h, _ => by simp at h
  | _, _, .cons h t, 0, x, y, h1, h2 => by
    cases h1
    cases h2
    exact h
  | _, _, .cons h t, j + 1, x, y, h1, h2 => paired_at t j x y (by simpa using h1) (by simpa using h2)
/-- values that are addresses of tuples, put in another order -/
theorem back_refs {H : Hp} : ∀ {vs : List Value} {L : List (Addr × List Int)}, vs.Perm (L.map fun z => Value.ref z.1) → ∃ L' : List (Addr × List Int), L'.Perm L ∧ vs = L'.map fun z => Value.ref z.1 := fun {vs L} h => by
  have main : ∀ {us vs : List Value}, us.Perm vs → ∀ L : List (Addr × List Int), us = (L.map fun z => Value.ref z.1) → ∃ L' : List (Addr × List Int), L'.Perm L ∧ vs = L'.map fun z => Value.ref z.1 := by
    intro us vs h
    induction h with
    | nil => exact fun L e => ⟨L, .refl _, e⟩
    | cons x p ih =>
      intro L e
      cases L with
      | nil => cases e
      | cons z L =>
        simp only [List.map_cons, List.cons.injEq] at e
        obtain ⟨L', p', e'⟩ := ih L e.2
        exact ⟨z :: L', .cons _ p', by rw [e', e.1, List.map_cons]⟩
    | swap x y l =>
      intro L e
      match L, e with
      | z1 :: z2 :: L, e =>
        simp only [List.map_cons, List.cons.injEq] at e
        exact ⟨z2 :: z1 :: L, .swap _ _ _, by rw [e.1, e.2.1, e.2.2]; rfl⟩
    | trans p q ih1 ih2 =>
      intro L e
      obtain ⟨L1, p1, e1⟩ := ih1 L e
      obtain ⟨L2', p2, e2⟩ := ih2 L1 e1
      exact ⟨L2', p2.trans p1, e2⟩
  exact main h.symm L rfl
theorem sortD (hc : X.calm = true) {d : Nat} {B : Int} (hd1 : 1 ≤ d) : CallR X (.builtin "sorted") (rSortD d B) := by
  intro pins s σ H vs us Q I r h
  obtain ⟨a, kvs, ns, rfl, ha, hkeys, h64, hbd, q⟩ := h
  obtain ⟨u, rfl, rx⟩ := r.one
  cases rx
  obtain ⟨z, lo, ks, pr, o, es, ep, ho, hx, hdt, hen, hnd⟩ := (show ObjOk X.prog X.w H s.heap a (.dT kvs) from I.hok a _ ha)
  have l1 : es.size = ks.length := size_of_entries hen
  have l2 : kvs.length = ks.length := Paired.length pr
  have l3 : kvs.length = ns.length := by
    have e := congrArg List.length hkeys
    rwa [List.length_map, List.length_map] at e
  have few : es.size ≤ sizeLine := by rw [l1, ← l2, l3, sizeLine_eq]; omega
  refine Calls.call_function_entry PyProof.Rows.kind_sorted PyProof.Rows.plain_sorted PyProof.Rows.entry_sorted (PyProof.Rows.args_sorted1 _) ?_
  unfold Builtin.«sorted»
  refine wpAny_bind (m := checkCount "sorted" 1 1 _) (wpAny_pure ?_)
  refine wpAny_bind (PySem.W.kdu_collect (A := X.A.in1) (kdl_raw lo hx hdt) (I.ok.hd hc) ho few fun h1 tk acc kp it => ?_)
  -- the collected keys are the addresses of the key tuples
  have hal : acc.toList.length = ks.length := by rw [Array.length_toList, it.1]; exact l1
  let L0 : List (Addr × List Int) := (ks.map fun x => x.2.1).zip ns
  have lz : L0.length = ks.length := by
    show ((ks.map fun x => x.2.1).zip ns).length = _
    rw [List.length_zip, List.length_map]
    omega
  have eacc : acc.toList = L0.map fun y => Value.ref y.1 := by
    apply List.ext_getElem?
    intro j
    rw [List.getElem?_map]
    cases hj : acc.toList[j]? with
    | none =>
      have h0 := List.getElem?_eq_none_iff.mp hj
      rw [List.getElem?_eq_none (by omega)]
      rfl
    | some v =>
      obtain ⟨en, hen', hv⟩ := it.2 j v (by rw [← Array.getElem?_toList]; exact hj)
      have qe := entry_at hen j
      rw [hen'] at qe
      have hjl : j < ks.length := by
        have := (List.getElem?_eq_some_iff.mp hj).1
        omega
      have hjn : j < ns.length := by omega
      rw [List.getElem?_eq_getElem hjl] at qe
      have e2 : en = entryOfKey (tupleKind (mixKind X.prog X.w)) ks[j] := Option.some.inj qe
      have ez : L0[j]? = some (ks[j].2.1, ns[j]) := by
        show ((ks.map fun x => x.2.1).zip ns)[j]? = _
        exact List.getElem?_zip_eq_some.mpr ⟨by rw [List.getElem?_map, List.getElem?_eq_getElem hjl]; rfl, List.getElem?_eq_getElem hjn⟩
      rw [hv, e2, ez]
      rfl
  have hL2 : L0.map (·.2) = ns := List.map_snd_zip (by rw [List.length_map]; omega)
  have hT : ∀ y ∈ L0, H y.1 = some (.tup (y.2.map V.int)) ∧ y.2.length = d ∧ TS.Bd B y.2 := fun y hy => by
    obtain ⟨j, hj, ej⟩ := List.getElem_of_mem hy
    have hjk : j < ks.length := by omega
    have hjn : j < ns.length := by omega
    have hjv : j < kvs.length := by omega
    have hy' : L0[j]? = some (ks[j].2.1, ns[j]) := by
      show ((ks.map fun x => x.2.1).zip ns)[j]? = _
      exact List.getElem?_zip_eq_some.mpr ⟨by rw [List.getElem?_map, List.getElem?_eq_getElem hjk]; rfl, List.getElem?_eq_getElem hjn⟩
    rw [List.getElem?_eq_getElem hj, ej] at hy'
    have ey : y = (ks[j].2.1, ns[j]) := Option.some.inj hy'
    have kk := paired_at (isKeys_of pr) j kvs[j] ks[j].2.1 (List.getElem?_eq_getElem hjv) (by rw [List.getElem?_map, List.getElem?_eq_getElem hjk]; rfl)
    have ek : kvs[j].1 = ns[j].map Sum.inl := by
      have e := congrArg (fun l => l[j]?) hkeys
      simp only [List.getElem?_map, List.getElem?_eq_getElem hjv, List.getElem?_eq_getElem hjn, Option.map_some, Option.some.injEq] at e
      exact e
    rw [ek, kv_ints] at kk
    rw [ey]
    exact ⟨kk, hbd _ (List.getElem_mem hjn)⟩
  have I1 : Inv X pins σ H { s with heap := h1, toks := tk } := I.kept kp
  have raw : ∀ y ∈ L0, TS.TupInts h1 (.ref y.1) y.2 := fun y hy => tupI_raw I1 (.inl (.inl (hT y hy).1))
  refine wpAny_bind (wpAny_newList ?_ (by rw [hal, ← l2, l3, sizeLine_eq]; omega))
  have hoL : (h1.push (seqObj "list" acc.toList.toArray 0)).get? h1.objs.size = some (seqObj "list" acc.toList.toArray 0) := Heap.get?_push_size _ rfl
  have keep : ∀ b o', h1.get? b = some o' → o'.cls = .type "tuple" → (h1.push (seqObj "list" acc.toList.toArray 0)).get? b = some o' := fun b o' e _ => Heap.get?_push_of_some _ e
  have oks : TS.TupsOk h1 d B acc.toList := fun v hv => by
    rw [eacc] at hv
    obtain ⟨y, hy, rfl⟩ := List.mem_map.mp hv
    exact ⟨y.2, raw y hy, (hT y hy).2.1, (hT y hy).2.2⟩
  show wpAny _ _ _ _ _ { s with heap := h1.push (seqObj "list" acc.toList.toArray 0), toks := tk }
  refine wpAny_bind (wpAny_holding (wpAny_call_entry PyProof.Rows.slot_list_sort ⟨_, hoL, rfl⟩ PyProof.Rows.entry_list_sort
    (TS.sort_tups (s := { s with heap := h1.push (seqObj "list" acc.toList.toArray 0), toks := tk }) hoL (by rw [hal]; omega) hd1 (oks.keeps keep) (fun v => TS.code B (TS.intsOf h1 v)) (fun v hv n t => ?_) fun out g1 g2 => ⟨_, rfl, ?_⟩) (PyProof.Rows.args_list_sort _)))
  · obtain ⟨n0, t0, _⟩ := oks v hv
    have e : n = n0 := t.ints.symm.trans (t0.keeps keep).ints
    rw [e]
    show TS.code B (TS.intsOf h1 v) = TS.code B n0
    rw [t0.ints]
  rw [eacc] at g1
  obtain ⟨L', pL, eo⟩ := back_refs (H := H) g1
  have hm : ∀ y ∈ L', y ∈ L0 := fun y hy => pL.mem_iff.mp hy
  obtain ⟨e', he'⟩ := PyProof.Rows.sortedHeap_at (vs := acc.toList) (out := out) hoL
  have hlen : (L'.map fun y => V.ref y.1).length ≤ sizeLine := by
    rw [List.length_map, pL.length_eq, lz, ← l2, l3, sizeLine_eq]
    omega
  have hv' : Vals (L'.map fun y => V.ref y.1) out.toList := by rw [eo]; exact vals_of_refs L'
  refine wpAny_pure ⟨_, rfl, .ref h1.objs.size, upd H h1.objs.size (.lst (L'.map fun y => V.ref y.1)), I1.laid (t' := tk) (fun b u e => ?_) (Nat.le_refl _)
    (show ObjOk X.prog X.w _ _ _ (.lst (L'.map fun y => V.ref y.1)) from ⟨hlen, out.toList, e', hv', by rw [Array.toArray_toList]; exact he'⟩), rfl, q L' _ ?_ (fun y hy => (hT y (hm y hy)).1) ?_ (I1.hok.fresh (Nat.le_refl _))⟩
  · have hb : b < h1.objs.size := Heap.lt_size e
    rw [PyProof.Rows.sortedHeap_old (Nat.ne_of_lt hb) (by rw [size_push']; exact Nat.lt_succ_of_lt hb)]
    exact Heap.get?_push_of_some _ e
  · have p2 := pL.map (·.2)
    rw [hL2] at p2
    exact p2
  · rw [eo, List.pairwise_map] at g2
    refine List.Pairwise.imp_of_mem (fun {y z} hy hz h => ?_) g2
    have h' : TS.code B (TS.intsOf h1 (.ref y.1)) ≤ TS.code B (TS.intsOf h1 (.ref z.1)) := h
    rw [(raw y (hm y hy)).ints, (raw z (hm z hz)).ints] at h'
    exact h'
end
end NB

set_option Elab.async false
set_option linter.all false
set_option maxRecDepth 100000
namespace NB
open PySem PySem.Spec PyProof.Rows L2
section
variable {X : Cx}
/-- the whole numbers a, a - 1, .. down to above b -/
def dnV (a b : Int) : List V := (List.range (a - b).toNat).map fun i => V.int (a - (i : Nat))
/-- list(range(a, b, c)), c being -1 -/
def tLstDn (ta : TA) : TE := fun σ H Q => ta σ H fun vs H1 => ∃ a b : Int, vs = [.int a, .int b, .int (-1)] ∧ (-(2 ^ 62) ≤ a ∧ a < 2 ^ 62 ∧ -(2 ^ 62) ≤ b ∧ b < 2 ^ 62 ∧ (a - b).toNat ≤ 2 ^ 24) ∧ ∀ q, H1 q = none → Q (.ref q) (upd H1 q (.lst (dnV a b)))
theorem pe_listDn {x y z : Expr} {ta : TA} {p p' pos pos' : Pos} (hc : X.calm = true) (hl : Gl X "list") (ml : X.mg "list" = none) (hg : Gl X "range") (hm : X.mg "range" = none) (ha : PA X [x, y, z] ta)
    (hs : starEach [x, y, z] X.env = (false, eval x X.env) :: starEach [y, z] X.env := by rfl) (hpl : (backTo pos (starEach [y, z] X.env)).any (·.1) = false := by rfl)
    (na : starEach [Expr.Call (.Name "range" p) [x, y, z] [] pos] X.env = (false, eval (.Call (.Name "range" p) [x, y, z] [] pos) X.env) :: starEach [] X.env := by rfl) :
    PE X (.Call (.Name "list" p') [.Call (.Name "range" p) [x, y, z] [] pos] [] pos') (tLstDn ta) := by
  refine ⟨fun pins s σ H Q I h => ?_⟩
  refine Call_ (ld_blt I hl ml boot_list (PyProof.Rows.callWith_type1 (args_cons ?_ na) na))
  refine Call_ (ld_blt I hg hm boot_range (PyProof.Rows.callWith_type1 (thn (ha.run pos pins s σ H _ I h) fun us s1 ⟨vs, H1, I1, r1, q1⟩ => ?_) hs hpl))
  obtain ⟨i, j, rfl, ⟨b1, b2, b3, b4, b5⟩, q⟩ := q1
  cases r1 with
  | cons r rr =>
    cases rr with
    | cons r' rr =>
      cases rr with
      | cons r'' rr =>
        cases rr
        obtain ⟨t, rfl⟩ := r
        obtain ⟨t', rfl⟩ := r'
        obtain ⟨t'', rfl⟩ := r''
        have C := RgC.neg b1 b2 b3 b4
        refine call_range_3 C.1 ?_ (.inl (PyProof.noPylong_small C.2.1))
        have I2 : Inv X pins σ H1 { s1 with heap := s1.heap.push { cls := .type "range", data := .fields #[.int i t, .int j t', .int (-1) t''] } } := I1.kept (t' := s1.toks) fun b o e => Heap.get?_push_of_some _ e
        refine args_nil ?_
        refine call_list_range (n := (i - j).toNat) (I2.ok.hd hc) (IsRange.new ..) C.2.2.1 C.2.2.2 b5 fun h2 tk acc c' hk e' hi => ?_
        have el : acc.toList.length = (i - j).toNat := by rw [Array.length_toList]; exact hi.1
        have hv : Vals (dnV i j) acc.toList := by
          unfold dnV
          rw [← el]
          refine vals_of_get acc.toList _ fun k u hk => ?_
          obtain ⟨tt, rfl⟩ := hi.2 k u (by rw [← hk, Array.getElem?_toList])
          exact ⟨tt, by congr 1; omega⟩
        refine ⟨.ref _, upd H1 _ (.lst (dnV i j)), I2.laid hk (Nat.le_refl _) (show ObjOk X.prog X.w _ _ _ (.lst (dnV i j)) from ⟨?_, acc.toList, c', hv, ?_⟩), rfl, q _ (I2.hok.fresh (Nat.le_refl _))⟩
        · unfold dnV
          rw [List.length_map, List.length_range, sizeLine_eq]
          omega
        · rw [Array.toArray_toList]
          exact e'
end
end NB

set_option Elab.async false
set_option linter.all false
set_option maxRecDepth 100000
namespace K11
open PySem PySem.Spec PyProof.Rows L2 NB

/-! ### one thing at another place: t[:i] + (x,) + t[i + 1:] -/
theorem cut_to {K : PySem.W.Frag} {H : Hp} {p : Addr} {vs : List V} {c : Nat} {Q : VK} (h : H p = some (.tup vs)) (hc : c ≤ vs.length) (q : ∀ g H', Same H H' → H' g = some (.tup (vs.take c)) → Q (.ref g) H') : rSlA K (.ref p) none (some (c : Int)) H Q := by
  have e1 : HT.sIx vs.length vs.length (some (c : Int)) = c := by
    rw [HT.sIx_nat]
    omega
  refine ⟨p, _, rfl, .inl (.inl h), fun w => ?_, fun w g ng => ?_⟩
  · rw [e1] at w
    refine q p H (Same.refl H) ?_
    rw [List.take_of_length_le (by omega)]
    exact h
  · refine q g _ (same_new ng) ?_
    rw [upd_same]
    unfold cutV
    rw [e1, HT.sIx_none, List.drop_zero]
    rfl
theorem cut_from {K : PySem.W.Frag} {H : Hp} {p : Addr} {vs : List V} {c : Nat} {Q : VK} (h : H p = some (.tup vs)) (hc : c ≤ vs.length) (q : ∀ g H', Same H H' → H' g = some (.tup (vs.drop c)) → Q (.ref g) H') : rSlA K (.ref p) (some (c : Int)) none H Q := by
  have e1 : HT.sIx vs.length 0 (some (c : Int)) = c := by
    rw [HT.sIx_nat]
    omega
  refine ⟨p, _, rfl, .inl (.inl h), fun w => ?_, fun w g ng => ?_⟩
  · rw [e1] at w
    refine q p H (Same.refl H) ?_
    rw [w.1, List.drop_zero]
    exact h
  · refine q g _ (same_new ng) ?_
    rw [upd_same]
    unfold cutV
    rw [e1, HT.sIx_none, List.take_of_length_le (by rw [List.length_drop]; exact Nat.le_refl _)]
theorem cat_tups {K : PySem.W.Frag} {H : Hp} {a b : Addr} {xs ys : List V} {Q : VK} (ha : H a = some (.tup xs)) (hb : H b = some (.tup ys)) (hz : xs.length + ys.length ≤ sizeLine) (q : ∀ g H', Same H H' → H' g = some (.tup (xs ++ ys)) → Q (.ref g) H') : rCatA K (.ref a) (.ref b) H Q := by
  refine ⟨a, b, xs, ys, rfl, rfl, .inl (.inl ha), .inl (.inl hb), hz, fun e => ?_, fun _ e => ?_, fun _ _ g ng => q g _ (same_new ng) upd_same⟩
  · subst e
    exact q b H (Same.refl H) hb
  · subst e
    exact q a H (Same.refl H) (by rw [List.append_nil]; exact ha)
abbrev tMoved (K : PySem.W.Frag) (a i x : Nat) : TE := tOp (rCatA K) (tOp (rCatA K) (tSl (rSlA K) (tVar a) tNoPart (tPart (tVar i))) (tTup (tCons (tVar x) tNil))) (tSl (rSlA K) (tVar a) (tPart (tOp (rI0 fun i j => .int (i + j)) (tVar i) (tC (.int 1)))) tNoPart)
theorem set_cut {α : Type} {xs : List α} {n : Nat} {v : α} (h : n < xs.length) : (xs.take n ++ [v]) ++ xs.drop (n + 1) = xs.set n v := by
  rw [List.set_eq_take_append_cons_drop, if_pos h, List.append_assoc]
  rfl
theorem moved_val {K : PySem.W.Frag} {σ : L2.St} {H : Hp} {Q : VK} {a i x n : Nat} {p : Addr} {v : Int} {xs : List Int} (ha : σ[a]? = some (some (.ref p))) (hi : σ[i]? = some (some (.int (n : Int)))) (hx : σ[x]? = some (some (.int v))) (e : H p = some (.tup (xs.map V.int))) (hn : n < xs.length) (l12 : xs.length ≤ 12)
    (q : ∀ g H', Same H H' → H' g = some (.tup ((xs.set n v).map V.int)) → Q (.ref g) H') : tMoved K a i x σ H Q := by
  have lm : (xs.map V.int).length = xs.length := List.length_map _
  refine ⟨.ref p, ha, ?_⟩
  show tNoPart _ _ _
  unfold tNoPart
  refine ⟨.int n, hi, n, rfl, cut_to e (by omega) fun g1 H1 s1 e1 => ?_⟩
  refine ⟨.int v, hx, (show 1 ≤ sizeLine by decide), fun g2 n2 => ?_⟩
  have s2 := same_new (o := HO.tup [V.int v]) n2
  refine cat_tups (s2 _ _ e1) upd_same (Nat.le_of_lt (small1000 (by rw [List.length_take]; simp only [List.length_cons, List.length_nil]; omega))) fun g3 H3 s3 e3 => ?_
  have s03 := (s1.trans s2).trans s3
  refine ⟨.ref p, ha, .int n, hi, n, 1, rfl, rfl, n + 1, by rfl, ?_⟩
  show rSlA _ _ (some ((n : Int) + 1)) none _ _
  have ec : ((n : Int) + 1) = ((n + 1 : Nat) : Int) := by omega
  rw [ec]
  refine cut_from (s03 _ _ e) (by omega) fun g4 H4 s4 e4 => ?_
  refine cat_tups (s4 _ _ e3) e4 (Nat.le_of_lt (small1000 (by rw [List.length_append, List.length_take, List.length_drop]; simp only [List.length_cons, List.length_nil]; omega))) fun g5 H5 s5 e5 => ?_
  refine q g5 H5 ((s03.trans s4).trans s5) ?_
  rw [e5, set_cut (by omega), List.map_set]

theorem eqv_nilL (xs : List Int) : PyData.eqv (.list (xs.map PyData.int)) (.list []) = decide (xs = []) := by
  have := eqv_ints xs []
  simp only [PyData.eqv]
  exact this
theorem shaped_ints_l (xs : List Int) : SeqAt.shaped (.list (xs.map PyData.int)) = true := by
  unfold SeqAt.shaped
  simp only [PyData.canLay0, lay_ints, PyData.depth, depth_ints, Bool.true_and]
  decide

/-! ### the law: which sides are in, which rules are broken -/
abbrev aIn : Stmt := topS 39
theorem scLIn : FnScope ["_law_side_here", "_law_standing_here", "_law_thing", "_law_word", "_law_place"] ["_law_side_here", "_law_standing_here"] (defScope aIn) := ⟨rfl, rfl, rfl, by decide +kernel, rfl, by decide +kernel, by decide +kernel⟩
section
variable {P : Program} {w : World} {K : PySem.W.Frag} {mg : Str → Option Value} {base : Heap}
theorem ok_lin {f : Addr} {fd : FuncData} {k : Nat} (F : Fun K "_law_is_in" "_law_is_in" aIn f fd) : FnOk P w K mg base CX0 (k + 1) f fd ["_law_side_here", "_law_standing_here"] spIn := by
  refine F.ok scLIn (fun vs H Q E h => ?_) (fun cdv A outer s H vs Q E hr h => ?_)
  · obtain ⟨p, t, sd, xs, rfl, _⟩ := h
    rfl
  · obtain ⟨p, t, ⟨n, b, pl⟩, xs, rfl, ep, et, ln, q⟩ := h
    have ep' : H p = some (.tup [.int (n : Int), .str (word b), .int pl]) := ep
    have ln' : n < xs.length := ln
    have eg := at_int ln'
    have eb : inB xs (n, b, pl) = if b then decide (pl ≤ xs[n]) else decide (xs[n] ≤ pl) := by
      unfold inB
      simp only [List.getElem?_eq_getElem ln']
    rw [eb] at q
    refine ⟨_, pss_cons (ps_asg (pv 0) (pg_tup (by rfl) (pgs_cons (pg_name (i := 2) scLIn.nd rfl (.inl rfl)) (pgs_cons (pg_name (i := 3) scLIn.nd rfl (.inl rfl)) (pgs_cons (pg_name (i := 4) scLIn.nd rfl (.inl rfl)) pgs_nil)))))
      (pss_one (ps_ret (pe_ifExp (pt_cmpR op_eq (pv 3) pe_str (nomark _)) (pe_cmpR op_ge (pe_ix ix_tup (pv 1) (pv 2) (fun _ _ => rfl)) (pv 4) (nomark _)) (pe_cmpR op_le (pe_ix ix_tup (pv 1) (pv 2) (fun _ _ => rfl)) (pv 4) (nomark _))))), ?_⟩
    refine ⟨.ref p, rfl, p, _, rfl, .inl (.inl ep'), rfl, _, _, rfl, _, _, rfl, _, _, rfl, rfl, ?_⟩
    cases b with
    | true =>
      refine ⟨_, rfl, rfl, true, congrArg V.bl w_from, iteT ?_⟩
      exact ⟨.ref t, rfl, .int n, rfl, t, _, n, _, rfl, rfl, .inl (.inl et), eg, .int pl, rfl, _, pl, rfl, rfl, q⟩
    | false =>
      refine ⟨_, rfl, rfl, false, congrArg V.bl w_to, iteF ?_⟩
      exact ⟨.ref t, rfl, .int n, rfl, t, _, n, _, rfl, rfl, .inl (.inl et), eg, .int pl, rfl, _, pl, rfl, rfl, q⟩
end
end K11

set_option Elab.async false
set_option linter.all false
set_option maxRecDepth 100000
namespace NB
open PySem PySem.Spec PyProof.Rows L2
section
variable {X : Cx}
/-- x in t, x not in t, t a tuple of data of any depth -/
def rInT (K : PySem.W.Frag) (neg : Bool) : R2 := fun x y H Q => ∃ d ds, Dp K H x d ∧ Dp K H y (.tuple ds) ∧ SeqAt.shaped d = true ∧ SeqAt.shaped (.tuple ds) = true ∧ Q (.bl (if neg then !ds.any fun z => PyData.eqv z d else ds.any fun z => PyData.eqv z d)) H
theorem inT (hu : X.A.units + 65 < cLine) : OpR X (compareOp .In) (rInT X.K false) := by
  intro pins s σ H x y v u Q I rx ry h
  obtain ⟨d, ds, h1, h2, sh1, sh2, q⟩ := h
  obtain ⟨as, r1⟩ := Dp.reads I d x v h1 rx
  obtain ⟨bs, r2⟩ := Dp.reads I (.tuple ds) y u h2 ry
  exact SeqAt.in_tuple_reads r2 r1 (SeqAt.canLay_of_shaped sh2) (SeqAt.canLay_of_shaped sh1) (room_in_shaped sh1 hu) ⟨.bl _, H, I, rfl, q⟩
theorem notInT (hu : X.A.units + 65 < cLine) : OpR X (compareOp .NotIn) (rInT X.K true) := by
  intro pins s σ H x y v u Q I rx ry h
  obtain ⟨d, ds, h1, h2, sh1, sh2, q⟩ := h
  obtain ⟨as, r1⟩ := Dp.reads I d x v h1 rx
  obtain ⟨bs, r2⟩ := Dp.reads I (.tuple ds) y u h2 ry
  exact SeqAt.notIn_tuple_reads r2 r1 (SeqAt.canLay_of_shaped sh2) (SeqAt.canLay_of_shaped sh1) (room_in_shaped sh1 hu) ⟨.bl _, H, I, rfl, q⟩
end
end NB

set_option Elab.async false
set_option linter.all false
set_option maxRecDepth 100000
namespace K11
open PySem PySem.Spec PyProof.Rows L2 NB

/-! ### all standings, all good ones -/
/-- a list of standings -/
def LsAt (H : Hp) (ps : List (Addr × List Int)) : Prop := ∀ z ∈ ps, H z.1 = some (.tup (z.2.map V.int))
theorem LsAt.same {H H' : Hp} {ps : List (Addr × List Int)} (h : LsAt H ps) (s : Same H H') : LsAt H' ps := fun z hz => s _ _ (h z hz)
theorem LsAt.keep {H H' : Hp} {ps : List (Addr × List Int)} (h : LsAt H ps) (k : Keep H H') : LsAt H' ps := fun z hz => k.tup (h z hz)
theorem LsAt.app {H : Hp} {ps qs : List (Addr × List Int)} (h : LsAt H ps) (h' : LsAt H qs) : LsAt H (ps ++ qs) := fun z hz => by
  rcases List.mem_append.mp hz with q | q
  · exact h z q
  · exact h' z q

/-! ### lists of standings as data -/
theorem Room.u65 {k : Nat} {A : Around} (r : Room k A) : A.units + 65 < cLine := by have := r.un; omega
theorem not_diff {a b : V} (e : a = b) {P Q : Prop} (h : Q) : if (!decide (a = b)) = true then P else Q := by
  rw [decide_eq_true e]
  exact h
def lsD (ps : List (Addr × List Int)) : List PyData := ps.map fun z => .tuple (z.2.map PyData.int)
theorem lsD_dp {K : PySem.W.Frag} {H : Hp} : ∀ {ps : List (Addr × List Int)}, LsAt H ps → DpAll K H (refs ps) (lsD ps)
  | [], _ => .nil
  | z :: ps, h => .cons (dpt (h z List.mem_cons_self)) (lsD_dp fun y hy => h y (List.mem_cons_of_mem _ hy))
theorem lsD_lay : ∀ ps : List (Addr × List Int), PyData.canLayAll0 (lsD ps) = true
  | [] => rfl
  | z :: ps => by
    show PyData.canLayAll0 (PyData.tuple (z.2.map PyData.int) :: lsD ps) = true
    simp only [PyData.canLayAll0, PyData.canLay0, lay_ints, lsD_lay ps, Bool.and_self]
theorem lsD_depth : ∀ ps : List (Addr × List Int), PyData.depthAll (lsD ps) ≤ 1
  | [] => Nat.zero_le _
  | z :: ps => by
    show PyData.depthAll (PyData.tuple (z.2.map PyData.int) :: lsD ps) ≤ 1
    have := lsD_depth ps
    simp only [PyData.depthAll, PyData.depth, depth_ints]
    omega
theorem lsD_shaped (ps : List (Addr × List Int)) : SeqAt.shaped (.list (lsD ps)) = true := by
  have := lsD_depth ps
  unfold SeqAt.shaped
  rw [Bool.and_eq_true, decide_eq_true_eq]
  simp only [PyData.canLay0, lsD_lay, PyData.depth, true_and]
  omega
theorem lsD_in {ps : List (Addr × List Int)} {s : List Int} (h : s ∈ ps.map (·.2)) : ((lsD ps).any fun z => PyData.eqv z (.tuple (s.map PyData.int))) = true := by
  obtain ⟨z, hz, e⟩ := List.mem_map.mp h
  rw [List.any_eq_true]
  refine ⟨.tuple (z.2.map PyData.int), List.mem_map.mpr ⟨z, hz, rfl⟩, ?_⟩
  simp only [PyData.eqv]
  rw [eqv_ints, e, decide_eq_true rfl]
theorem eqv_same (s : List Int) : PyData.eqv (.tuple (s.map PyData.int)) (.tuple (s.map PyData.int)) = true := by
  simp only [PyData.eqv]
  rw [eqv_ints, decide_eq_true rfl]
theorem show_bd {s : List Int} (h : TS.Bd 4 s) (l : s.length ≤ 12) : Showable (.tuple (s.map PyData.int)) :=
  (Small.tuple (SmallAll.ints fun x hx => Nat.lt_of_lt_of_le (show x.natAbs < 4 by have := h x hx; omega) (by decide))).ok (by omega) (by decide)

/-! ### wiped slots -/
theorem wipe_get (σ : L2.St) : ∀ (vs : List Nat) (j : Nat), (wipe σ vs)[j]? = if j ∈ vs then σ[j]?.map (fun _ => none) else σ[j]?
  | [], j => by rw [if_neg List.not_mem_nil]; rfl
  | v :: vs, j => by
    show ((wipe σ vs).set v none)[j]? = _
    rw [List.getElem?_set, wipe_get σ vs j, wipe_length]
    by_cases c : v = j
    · subst c
      rw [if_pos rfl, if_pos List.mem_cons_self]
      by_cases d : v < σ.length
      · rw [if_pos d, List.getElem?_eq_getElem d]
        rfl
      · rw [if_neg d, List.getElem?_eq_none (by omega)]
        rfl
    · rw [if_neg c]
      have : j ∈ v :: vs ↔ j ∈ vs := by rw [List.mem_cons]; exact ⟨fun h => h.elim (fun e => absurd e.symm c) id, .inr⟩
      by_cases d : j ∈ vs
      · rw [if_pos d, if_pos (this.mpr d)]
      · rw [if_neg d, if_neg (fun h => d (this.mp h))]
theorem wipe_any {σ τ : L2.St} {vs : List Nat} (l : τ.length = σ.length) (h : ∀ j, j ∉ vs → τ[j]? = σ[j]?) : wipe τ vs = wipe σ vs := by
  refine List.ext_getElem? fun j => ?_
  rw [wipe_get, wipe_get]
  by_cases d : j ∈ vs
  · rw [if_pos d, if_pos d]
    by_cases e : j < σ.length
    · rw [List.getElem?_eq_getElem e, List.getElem?_eq_getElem (by omega)]
      rfl
    · rw [List.getElem?_eq_none (by omega), List.getElem?_eq_none (by omega)]
  · rw [if_neg d, if_neg d, h j d]

theorem wipe_two {σ : L2.St} {i j : Nat} {a b : Option V} {m n : Str} : wipe (((wipe σ ([(m, i), (n, j)].map (·.2))).set i a).set j b) ([(m, i), (n, j)].map (·.2)) = wipe σ ([(m, i), (n, j)].map (·.2)) := by
  refine wipe_any (by rw [List.length_set, List.length_set, wipe_length]) fun k hk => ?_
  have h1 : i ≠ k := fun e => hk (by simp [e])
  have h2 : j ≠ k := fun e => hk (by simp [e])
  rw [List.getElem?_set_ne h2, List.getElem?_set_ne h1, wipe_get, if_neg hk]
theorem wipe_three {σ : L2.St} {i j l : Nat} {a b c : Option V} {m n o : Str} : wipe ((((wipe σ ([(o, l), (m, i), (n, j)].map (·.2))).set i a).set j b).set l c) ([(o, l), (m, i), (n, j)].map (·.2)) = wipe σ ([(o, l), (m, i), (n, j)].map (·.2)) := by
  refine wipe_any (by rw [List.length_set, List.length_set, List.length_set, wipe_length]) fun k hk => ?_
  have h1 : i ≠ k := fun e => hk (by simp [e])
  have h2 : j ≠ k := fun e => hk (by simp [e])
  have h3 : l ≠ k := fun e => hk (by simp [e])
  rw [List.getElem?_set_ne h3, List.getElem?_set_ne h2, List.getElem?_set_ne h1, wipe_get, if_neg hk]
theorem wipe_seq3 {σ : L2.St} {i j l : Nat} {a b c : Option V} {m n o : Str} : wipe ((((wipe σ ([(m, i), (n, j), (o, l)].map (·.2))).set i a).set j b).set l c) ([(m, i), (n, j), (o, l)].map (·.2)) = wipe σ ([(m, i), (n, j), (o, l)].map (·.2)) := by
  refine wipe_any (by rw [List.length_set, List.length_set, List.length_set, wipe_length]) fun k hk => ?_
  have h1 : i ≠ k := fun e => hk (by simp [e])
  have h2 : j ≠ k := fun e => hk (by simp [e])
  have h3 : l ≠ k := fun e => hk (by simp [e])
  rw [List.getElem?_set_ne h3, List.getElem?_set_ne h2, List.getElem?_set_ne h1, wipe_get, if_neg hk]

/-! ### chains looked at -/
theorem walk_zipS {K : PySem.W.Frag} {a b : Addr} {xs ys : List V} (h2 : ys.length ≤ xs.length) :
    Walk (RZ.ItzT K a b) ys.length (fun H => SqT K H a xs ∧ SqT K H b ys) (YPair (fun i => xs[i]?) (fun i => ys[i]?)) := by
  refine ⟨fun i _ hi q => ?_, fun _ q => ⟨xs, ys, q.1, q.2, .inr (Nat.le_refl _)⟩, fun i H v H' _ q y => ?_⟩
  · exact ⟨xs, ys, xs[i]'(by omega), ys[i], q.1, q.2, List.getElem?_eq_getElem (by omega), List.getElem?_eq_getElem hi⟩
  · obtain ⟨T, x, u, e1, e2, e3, f1, f2⟩ := y
    exact ⟨T, x, u, e1, e2, e3, f1 xs q.1, f2 ys q.2⟩
def ldsB (tops : List Int) (rs : List Rl) (a b : Sd) : Bool := withinB tops a b || decide (b ∈ ledL tops rs a)
def chB (tops : List Int) (rs : List Rl) (l : List Sd) : Bool := (l.zip l.tail).all fun p => ldsB tops rs p.1 p.2
theorem chB_cons {tops : List Int} {rs : List Rl} {a b : Sd} {l : List Sd} : chB tops rs (a :: b :: l) = (ldsB tops rs a b && chB tops rs (b :: l)) := rfl
theorem chB_snoc {tops : List Int} {rs : List Rl} {a b : Sd} : ∀ {l : List Sd}, chB tops rs (l ++ [a]) = true → ldsB tops rs a b = true → chB tops rs (l ++ [a] ++ [b]) = true
  | [], _, h => by
    show chB tops rs [a, b] = true
    rw [chB_cons, h]
    rfl
  | [c], h, h' => by
    have h1 : chB tops rs [c, a] = true := h
    rw [chB_cons, Bool.and_eq_true] at h1
    show chB tops rs [c, a, b] = true
    rw [chB_cons, chB_cons, h1.1, h']
    rfl
  | c :: d :: l, h, h' => by
    have h1 : chB tops rs (c :: d :: (l ++ [a])) = true := h
    rw [chB_cons, Bool.and_eq_true] at h1
    show chB tops rs (c :: d :: (l ++ [a] ++ [b])) = true
    rw [chB_cons, Bool.and_eq_true]
    exact ⟨h1.1, chB_snoc (l := d :: l) h1.2 h'⟩
def sdsD (L : List (Addr × Sd)) : List PyData := L.map fun z => sdD z.2
theorem dp_sds {K : PySem.W.Frag} {H : Hp} : ∀ {L : List (Addr × Sd)}, SdsAt H L → DpAll K H (sdR L) (sdsD L)
  | [], _ => .nil
  | z :: L, h => .cons (dp_sd (h z List.mem_cons_self)) (dp_sds fun y hy => h y (List.mem_cons_of_mem _ hy))
theorem sds_any (L : List (Addr × Sd)) (s : Sd) : ((sdsD L).any fun z => PyData.eqv z (sdD s)) = decide (s ∈ L.map (·.2)) := by
  rw [Bool.eq_iff_iff, List.any_eq_true, decide_eq_true_eq]
  constructor
  · rintro ⟨d, hd, e⟩
    obtain ⟨z, hz, rfl⟩ := List.mem_map.mp hd
    rw [eqv_sd] at e
    rw [← of_decide_eq_true e]
    exact List.mem_map.mpr ⟨z, hz, rfl⟩
  · intro h
    obtain ⟨z, hz, e⟩ := List.mem_map.mp h
    exact ⟨_, List.mem_map.mpr ⟨z, hz, rfl⟩, by rw [eqv_sd]; exact decide_eq_true e⟩
theorem sds_lay : ∀ L : List (Addr × Sd), PyData.canLayAll0 (sdsD L) = true ∧ PyData.depthAll (sdsD L) ≤ 1
  | [] => ⟨rfl, Nat.zero_le _⟩
  | z :: L => by
    obtain ⟨h1, h2⟩ := sds_lay L
    have a : PyData.canLay0 (sdD z.2) = true ∧ PyData.depth (sdD z.2) ≤ 1 := by
      have w : ∀ b, PyData.strOk (word b) = true := fun b => by cases b <;> decide +kernel
      unfold sdD
      refine ⟨by simp only [PyData.canLayAll0, PyData.canLay0, w, Bool.and_self], by simp [PyData.depthAll, PyData.depth]⟩
    show PyData.canLayAll0 (sdD z.2 :: sdsD L) = true ∧ PyData.depthAll (sdD z.2 :: sdsD L) ≤ 1
    simp only [PyData.canLayAll0, PyData.depthAll, a.1, h1, Bool.and_self, true_and]
    omega
theorem shaped_sdsL (L : List (Addr × Sd)) : SeqAt.shaped (.list (sdsD L)) = true := by
  obtain ⟨h1, h2⟩ := sds_lay L
  unfold SeqAt.shaped
  rw [Bool.and_eq_true, decide_eq_true_eq]
  simp only [PyData.canLay0, h1, PyData.depth, true_and]
  omega
theorem shaped_sdsT (L : List (Addr × Sd)) : SeqAt.shaped (.tuple (sdsD L)) = true := by
  obtain ⟨h1, h2⟩ := sds_lay L
  unfold SeqAt.shaped
  rw [Bool.and_eq_true, decide_eq_true_eq]
  simp only [PyData.canLay0, h1, PyData.depth, true_and]
  omega
theorem ledL_len (tops : List Int) (rs : List Rl) (s : Sd) : (ledL tops rs s).length ≤ 2 * rs.length := led_len tops s rs
section
variable {P : Program} {w : World} {K : PySem.W.Frag} {mg : Str → Option Value} {base : Heap}
def spLeads (C : Addr) : Sp := fun vs H Q _ => ∃ (x p r : Addr) (tops : List Int) (rs : List Rl) (a b : Sd), vs = [.ref x, .ref p, .ref r] ∧ PlanAt C H x tops rs ∧ SideAt H p a ∧ SideAt H r b ∧ SideOk tops a ∧ SideOk tops b ∧ (∀ q ∈ rs, RuleOk tops q) ∧ rs.length ≤ 40 ∧
  ∀ H', Same H H' → Q (.bl (ldsB tops rs a b)) H'
theorem cut_one {K : PySem.W.Frag} {H : Hp} {p : Addr} {xs : List V} {Q : VK} (e : SqT K H p xs) (h : 1 ≤ xs.length) (q : ∀ g H', Same H H' → H' g = some (.tup (xs.drop 1)) → Q (.ref g) H') : rSlA K (.ref p) (some 1) none H Q := by
  have e1 : HT.sIx xs.length 0 (some (1 : Int)) = 1 := by
    have := HT.sIx_nat xs.length 0 1
    have e : ((1 : Nat) : Int) = 1 := rfl
    rw [e] at this
    omega
  refine ⟨p, _, rfl, e, fun w => by rw [e1] at w; omega, fun _ g ng => q g _ (same_new ng) ?_⟩
  rw [upd_same]
  unfold cutV
  rw [e1, HT.sIx_none, List.take_of_length_le (by rw [List.length_drop]; exact Nat.le_refl _)]
end

/-! ### chains of anything -/
theorem line_lt {n : Nat} (h : n ≤ 299999) : n < sizeLine := by
  rw [sizeLine_eq]
  omega
def areSidesD (tops : List Int) : PyData → Bool
  | .tuple ds => ds.all (sideD tops)
  | _ => false
theorem areS_no {tops : List Int} {d : PyData} (h : isTupD d = false) : areSidesD tops d = false := by
  cases d with
  | tuple ds => cases h
  | _ => rfl
def numD : PyData → Int
  | .int i => i
  | _ => 0
def sdOf : PyData → Sd
  | .tuple ds => (natD (ds.getD 0 .none), strIs "from" (ds.getD 1 .none), numD (ds.getD 2 .none))
  | _ => (0, true, 0)
def chainD (tops : List Int) (rs : List Rl) : PyData → Bool
  | .tuple ds => ds.all (sideD tops) && (!ds.isEmpty && chB tops rs (ds.map sdOf))
  | _ => false
theorem chain_no {tops : List Int} {rs : List Rl} {d : PyData} (h : areSidesD tops d = false) : chainD tops rs d = false := by
  cases d with
  | tuple ds =>
    have h' : ds.all (sideD tops) = false := h
    show (ds.all (sideD tops) && _) = false
    rw [h', Bool.false_and]
  | _ => rfl
theorem side_at {n : Addr} {H : Hp} {v : V} {d : PyData} {tops : List Int} (h : Da n H v d) (s : sideD tops d = true) : ∃ p, v = .ref p ∧ SideAt H p (sdOf d) ∧ SideOk tops (sdOf d) := by
  rcases tup_or d with ⟨ds, rfl⟩ | hn
  · have s' : (decide (ds.length = 3) && (placeD ((tops.length : Int) - 1) (ds.getD 0 .none) && (wordD (ds.getD 1 .none) && placeD (tops.getD (natD (ds.getD 0 .none)) 0) (ds.getD 2 .none)))) = true := s
    simp only [Bool.and_eq_true] at s'
    obtain ⟨l3, p0, w1, p2⟩ := s'
    have l3 := of_decide_eq_true l3
    cases h with
    | tup e ha =>
    match ds, l3, ha, p0, w1, p2 with
    | [d0, d1, d2], _, .cons h0 (.cons h1 (.cons h2 .nil)), p0, w1, p2 =>
    obtain ⟨i, rfl, hi⟩ := place_int p0
    obtain ⟨x, rfl, hx⟩ := place_int p2
    cases h0
    cases h2
    have li : i < tops.length := by omega
    have ei : natD (.int (i : Int)) = i := Int.toNat_natCast i
    have w1' : wordD d1 = true := w1
    obtain ⟨b, rfl, eb⟩ : ∃ b : Bool, d1 = .str (word b) ∧ strIs "from" d1 = b := by
      rcases str_or d1 with ⟨z, rfl⟩ | hs
      · have w2 : (decide (z = "from") || decide (z = "to")) = true := w1'
        simp only [Bool.or_eq_true, decide_eq_true_eq] at w2
        rcases w2 with rfl | rfl
        · exact ⟨true, rfl, rfl⟩
        · exact ⟨false, rfl, rfl⟩
      · rw [word_no hs] at w1'
        cases w1'
    cases h1
    rename_i a _ e
    refine ⟨a, rfl, ?_, ?_⟩
    · show H a = some (.tup [.int ((natD (.int (i : Int)) : Nat) : Int), .str (word (strIs "from" (.str (word b)))), .int (x : Int)])
      rw [ei, eb]
      exact e
    · show SideOk tops (natD (.int (i : Int)), strIs "from" (.str (word b)), (x : Int))
      rw [ei]
      have hx' : (x : Int) ≤ tops.getD (natD (.int (i : Int))) 0 := hx
      rw [ei] at hx'
      exact SideOk.mk' li (by omega) hx'
  · rw [side_no hn] at s
    cases s
theorem sides_at {n : Addr} {H : Hp} {tops : List Int} : ∀ {ds : List PyData} {vs : List V}, DaAll n H vs ds → ds.all (sideD tops) = true → ∃ L : List (Addr × Sd), vs = sdR L ∧ SdsAt H L ∧ (∀ z ∈ L, SideOk tops z.2) ∧ L.map (·.2) = ds.map sdOf
  | [], _, h, _ => by
    cases h
    exact ⟨[], rfl, (fun z hz => absurd hz List.not_mem_nil), (fun z hz => absurd hz List.not_mem_nil), rfl⟩
  | d :: ds, _, h, s => by
    cases h with
    | cons h1 h2 =>
      rw [List.all_cons, Bool.and_eq_true] at s
      obtain ⟨p, rfl, hs, ok⟩ := side_at h1 s.1
      obtain ⟨L, rfl, hL, oL, eL⟩ := sides_at h2 s.2
      refine ⟨(p, sdOf d) :: L, rfl, fun z hz => ?_, fun z hz => ?_, by rw [List.map_cons, List.map_cons, eL]⟩
      · rcases List.mem_cons.mp hz with rfl | hz
        · exact hs
        · exact hL z hz
      · rcases List.mem_cons.mp hz with rfl | hz
        · exact ok
        · exact oL z hz
section
variable {P : Program} {w : World} {K : PySem.W.Frag} {mg : Str → Option Value} {base : Heap}
def dLen : PyData → Nat
  | .tuple ds => ds.length
  | _ => 0
def spLookT4 (g : List Int → PyData → Bool) : Sp := fun vs H Q _ => ∃ (n t : Addr) (tops : List Int) (v : V) (d : PyData), vs = [.ref t, v] ∧ H t = some (.tup (tops.map V.int)) ∧ Da n H v d ∧ dLen d ≤ 200000 ∧ ∀ H', Same H H' → Q (.bl (g tops d)) H'
abbrev a_are_sides_of : Stmt := topS 9
abbrev n_are_sides_of : List Str := ["tops", "thing", "side"]
theorem sc_are_sides_of : FnScope n_are_sides_of ["tops", "thing"] (defScope a_are_sides_of) := ⟨rfl, rfl, rfl, by decide +kernel, rfl, by decide +kernel, by decide +kernel⟩
set_option maxHeartbeats 8000000 in
theorem ok_are_sides_of {f fSi : Addr} {fd fdSi : FuncData} {k : Nat}  (F : Fun K "are_sides_of" "are_sides_of" a_are_sides_of f fd) (Si : Kn P w K mg base 3 "is_side_of" ["tops", "thing"] (spLookT sideD) fSi fdSi)  (m_all : mg "all" = none) (m_isinstance : mg "isinstance" = none) (m_tuple : mg "tuple" = none) : FnOk P w K mg base CX0 (k + 4) f fd ["tops", "thing"] (spLookT4 areSidesD) := by
  refine F.ok sc_are_sides_of (fun vs H Q E h => ?_) (fun cdv A outer s H vs Q E hr h => ?_)
  · obtain ⟨n, t, tops, v, d, rfl, _⟩ := h
    rfl
  · obtain ⟨n, t, tops, v, d, rfl, et, hd, l4, q⟩ := h
    refine ⟨_, (pss_one (ps_ret (pe_and (pe_callB call_isiD (by rfl) m_isinstance (by decide +kernel) (pa_cons (pv 1) (pa_cons (pe_bltn (v := .ty "tuple") (u := .type "tuple") (by rfl) m_tuple (by decide +kernel) rfl) pa_nil))) (pe_one (pe_callB (cr_all rfl) (by rfl) m_all (by decide +kernel) (pa_cons (
        pe_lc (own := [("side", 2)]) (g := (gName 2)) (tt := tYes) (te := (tCall (spLookT sideD) [] E0 (tCons (tVar 0) (tCons (tVar 2) tNil)))) rfl sc_are_sides_of.nd (pi_tup (pv 1)) (blkOk_by (N := n_are_sides_of) (sc := defScope a_are_sides_of) (by decide +kernel))
          (fun _ _ _ _ _ => (pg_name (i := 2) sc_are_sides_of.nd rfl (.inl rfl) (hf := .inr rfl))) (fun _ _ _ _ _ => pts_nil) (fun _ _ _ _ _ => (pe_kn Si hr (by omega) (pa_cons (pv 0) (pa_cons (pv 2) pa_nil))))) pa_nil)))))), ?_⟩
    rcases tup_or d with ⟨ds, rfl⟩ | hn
    · cases hd with
      | tup e ha =>
      rename_i a xs
      have ll := ha.len
      have l4' : ds.length ≤ 200000 := l4
      refine ⟨_, rfl, n, _, _, "tuple", _, rfl, .tup e ha, kit_tup _, _, rfl, iteT ?_⟩
      refine ⟨_, rfl, a, rfl, ⟨_, .inl (.inl e)⟩, fun D nD => lc_it (walk_tup (xs := xs)) (fun i H' => Same H H' ∧ H' D = some (.lst (((ds.take i).map (sideD tops)).map V.bl))) ⟨same_new nD, upd_same⟩ (fun i H' _ p => .inl (.inl (p.1 _ _ e))) (fun i v H1 H2 hi p y => ?_) (fun H' p => ?_)⟩
      · obtain ⟨sm, eD⟩ := p
        obtain ⟨rfl, gv⟩ := y
        obtain ⟨dd, ed, hdd⟩ := ha.get i v gv
        refine ⟨wipe_one, .ref t, rfl, v, rfl, n, t, tops, v, dd, rfl, sm _ _ et, hdd.same sm, fun H4 s4 => ⟨_, s4 _ _ eD, ?_, same_over (sm.trans s4) nD, ?_⟩⟩
        · rw [List.length_map, List.length_map, List.length_take]
          exact line_lt (by omega)
        · rw [upd_same, all_take (sideD tops) _ i dd ed]
      · obtain ⟨sm, eD⟩ := p
        rw [List.take_of_length_le (by omega)] at eD
        refine ⟨D, _, rfl, .inl (.inl eD), ?_⟩
        rw [all_id]
        exact q H' sm
    · rw [areS_no hn] at q
      refine ⟨_, rfl, n, _, _, "tuple", _, rfl, hd, kit_tup _, _, rfl, ?_⟩
      rw [hn]
      exact iteF (q H (Same.refl H))
def spChD (C : Addr) : Sp := fun vs H Q _ => ∃ (n x : Addr) (tops : List Int) (rs : List Rl) (v : V) (d : PyData), vs = [.ref x, v] ∧ PlanAt C H x tops rs ∧ Da n H v d ∧ (∀ q ∈ rs, RuleOk tops q) ∧ rs.length ≤ 40 ∧ dLen d ≤ 200000 ∧
  ∀ H', Same H H' → Q (.bl (chainD tops rs d)) H'
end
end K11

set_option Elab.async false
set_option linter.all false
/-! A conditional expression as a test. -/
namespace NB
open PySem PySem.Spec PyProof.Rows L2
def tIfT (t ta tb : TT) : TT := fun σ H Q => t σ H fun c H1 => if c = true then ta σ H1 Q else tb σ H1 Q
theorem pt_ifT {X : Cx} {c a b : Expr} {pos : Pos} {tc ta tb : TT} (hc : PT X c tc) (ha : PT X a ta) (hb : PT X b tb) : PT X (.IfExp c a b pos) (tIfT tc ta tb) := by
  refine ⟨fun pins s σ H Q I h => ?_⟩
  refine isTrue_IfExp (thn (hc.run pins s σ H _ I h) fun d s1 ⟨H1, I1, q1⟩ => ?_)
  cases d with
  | true => exact ha.run pins s1 σ H1 Q I1 q1
  | false => exact hb.run pins s1 σ H1 Q I1 q1
end NB

set_option Elab.async false
set_option linter.all false
set_option maxRecDepth 100000
namespace K11
open PySem PySem.Spec PyProof.Rows L2 NB

/-! ### the law's sides: places, barring, leading -/
def okP (sd : Sd) (y : Int) : Bool := if sd.2.1 then decide (sd.2.2 ≤ y) else decide (y ≤ sd.2.2)
def plN (tops : List Int) (sd : Sd) : List Nat := (List.range ((plc tops sd.1).toNat + 1)).filter fun y : Nat => okP sd y
theorem plN_mem {tops : List Int} {sd : Sd} {y : Nat} (ok : SideOk tops sd) : y ∈ plN tops sd ↔ loS sd ≤ y ∧ (y : Int) ≤ hiS tops sd := by
  have b := ok.bd
  unfold plN
  rw [List.mem_filter, List.mem_range]
  unfold okP loS hiS
  split <;> simp only [decide_eq_true_eq] <;> omega
theorem filt_succ (f : Nat → Bool) (k : Nat) : (List.range (k + 1)).filter f = (List.range k).filter f ++ (if f k = true then [k] else []) := by
  rw [List.range_succ, List.filter_append]
  congr 1
  show List.filter f [k] = _
  by_cases c : f k = true
  · rw [if_pos c, List.filter_cons_of_pos c, List.filter_nil]
  · rw [if_neg c, List.filter_cons_of_neg c, List.filter_nil]
theorem plN_bars {tops : List Int} {a b : Sd} (oa : SideOk tops a) (ob : SideOk tops b) : barsB tops a b = (decide (a.1 = b.1) && !((plN tops a).any fun y => decide (y ∈ plN tops b))) := by
  unfold barsB
  by_cases c : a.1 = b.1
  · have ba := oa.bd
    have bb := ob.bd
    have la : 0 ≤ loS a ∧ loS a ≤ hiS tops a := by unfold loS hiS; split <;> omega
    have lb : 0 ≤ loS b ∧ loS b ≤ hiS tops b := by unfold loS hiS; split <;> omega
    congr 1
    rw [Bool.eq_iff_iff, Bool.or_eq_true, decide_eq_true_eq, decide_eq_true_eq, Bool.not_eq_true', ← Bool.not_eq_true, List.any_eq_true]
    constructor
    · rintro h ⟨y, hy, hz⟩
      have h1 := (plN_mem oa).mp hy
      have h2 := (plN_mem ob).mp (of_decide_eq_true hz)
      omega
    · intro h
      refine Classical.byContradiction fun no => h ⟨(max (loS a) (loS b)).toNat, (plN_mem oa).mpr (by omega), decide_eq_true ((plN_mem ob).mpr (by omega))⟩
  · rw [decide_eq_false c, Bool.false_and, Bool.false_and]
theorem plN_within {tops : List Int} {a b : Sd} (oa : SideOk tops a) (ob : SideOk tops b) : withinB tops a b = (decide (a.1 = b.1) && ((plN tops a).all fun y => decide (y ∈ plN tops b))) := by
  unfold withinB
  by_cases c : a.1 = b.1
  · have ba := oa.bd
    have bb := ob.bd
    have la : 0 ≤ loS a ∧ loS a ≤ hiS tops a := by unfold loS hiS; split <;> omega
    congr 1
    rw [Bool.eq_iff_iff, Bool.and_eq_true, decide_eq_true_eq, decide_eq_true_eq, List.all_eq_true]
    constructor
    · intro h y hy
      have h1 := (plN_mem oa).mp hy
      exact decide_eq_true ((plN_mem ob).mpr (by omega))
    · intro h
      have h1 := (plN_mem ob).mp (of_decide_eq_true (h (loS a).toNat ((plN_mem oa).mpr (by omega))))
      have h2 := (plN_mem ob).mp (of_decide_eq_true (h (hiS tops a).toNat ((plN_mem oa).mpr (by omega))))
      omega
  · rw [decide_eq_false c, Bool.false_and, Bool.false_and]
theorem inV_nats (k : Nat) (ys : List Nat) : inV (V.int k) (ys.map fun y : Nat => V.int (y : Int)) = decide (k ∈ ys) := by
  rw [Bool.eq_iff_iff, decide_eq_true_eq]
  unfold inV
  rw [List.any_eq_true]
  constructor
  · rintro ⟨z, hz, e⟩
    obtain ⟨y, hy, rfl⟩ := List.mem_map.mp hz
    have e' : ((y : Int) == (k : Int)) = true ∨ ((k : Int) == (y : Int)) = true := by
      first
        | exact .inl e
        | exact .inr e
    have : k = y := by
      rcases e' with e' | e' <;> (have := beq_iff_eq.mp e'; omega)
    rw [this]
    exact hy
  · intro h
    refine ⟨_, List.mem_map.mpr ⟨k, h, rfl⟩, ?_⟩
    exact beq_self_eq_true (k : Int)
theorem flat_nats (ys : List Nat) : (ys.map fun y : Nat => V.int (y : Int)).all flatV = true := by
  rw [List.all_map]
  exact List.all_eq_true.mpr fun _ _ => rfl
theorem plN_len {tops : List Int} {sd : Sd} (h : plc tops sd.1 ≤ 3) : (plN tops sd).length ≤ 4 := by
  unfold plN
  refine Nat.le_trans (List.length_filter_le _ _) ?_
  rw [List.length_range]
  omega
theorem few_plc {tops : List Int} (fw : Few tops) (i : Nat) : plc tops i ≤ 3 := by
  rcases Nat.lt_or_ge i tops.length with c | c
  · rw [plc_get c]
    exact (fw _ (List.getElem_mem c)).2
  · show tops.getD i 0 ≤ 3
    rw [List.getD_eq_getElem?_getD, List.getElem?_eq_none c]
    decide
section
variable {P : Program} {w : World} {K : PySem.W.Frag} {mg : Str → Option Value} {base : Heap}
def spPlc : Sp := fun vs H Q _ => ∃ (t p : Addr) (tops : List Int) (sd : Sd), vs = [.ref t, .ref p] ∧ H t = some (.tup (tops.map V.int)) ∧ SideAt H p sd ∧ SideOk tops sd ∧ plc tops sd.1 ≤ 3 ∧
  ∀ H' l, Same H H' → H l = none → H' l = some (.lst ((plN tops sd).map fun y : Nat => V.int (y : Int))) → Q (.ref l) H'
abbrev a__law_places : Stmt := topS 43
abbrev n__law_places : List Str := ["_law_tops_here", "_law_side_here", "_law_thing", "_law_word", "_law_place", "_law_one"]
theorem sc__law_places : FnScope n__law_places ["_law_tops_here", "_law_side_here"] (defScope a__law_places) := ⟨rfl, rfl, rfl, by decide +kernel, rfl, by decide +kernel, by decide +kernel⟩
set_option maxHeartbeats 8000000 in
theorem ok__law_places {f  : Addr} {fd  : FuncData} {k : Nat}  (F : Fun K "_law_places" "_law_places" a__law_places f fd)   (m_range : mg "range" = none) : FnOk P w K mg base CX0 (k + 1) f fd ["_law_tops_here", "_law_side_here"] spPlc := by
  refine F.ok sc__law_places (fun vs H Q E h => ?_) (fun cdv A outer s H vs Q E hr h => ?_)
  · obtain ⟨t, p, tops, sd, rfl, _⟩ := h
    rfl
  · obtain ⟨t, p, tops, sd, rfl, et, hs, ok, f3, q⟩ := h
    refine ⟨_, (pss_cons (ps_asg (pv 1) (pg_tup rfl (pgs_cons (pg_name (i := 2) sc__law_places.nd rfl (.inl rfl)) (pgs_cons (pg_name (i := 3) sc__law_places.nd rfl (.inr rfl)) (pgs_cons (pg_name (i := 4) sc__law_places.nd rfl (.inr rfl)) pgs_nil)))))
      (pss_one (ps_ret (
        pe_lc (own := [("_law_one", 5)]) (g := (gName 5)) (tt := (tIfT (tTest (tOp rEq (tVar 3) (tC (.str "from")))) (tTest (tOp (rI0 fun i j => .bl (decide (j ≤ i))) (tVar 5) (tVar 4))) (tTest (tOp (rI0 fun i j => .bl (decide (i ≤ j))) (tVar 5) (tVar 4))))) (te := (tVar 5)) rfl sc__law_places.nd (pi_range1 (by rfl) m_range (pa_cons (pe_op op_add (pe_ix ix_tup (pv 0) (pv 2) (fun _ _ => rfl)) pe_int) pa_nil)) (blkOk_by (N := n__law_places) (sc := defScope a__law_places) (by decide +kernel))
          (fun _ _ _ _ _ => (pg_name (i := 5) sc__law_places.nd rfl (.inl rfl) (hf := .inr rfl))) (fun _ _ _ _ _ => pts_one (pt_ifT (pt_cmpR op_eq (pv 3) pe_str (nomark _)) (pt_cmpR op_ge (pv 5) (pv 4) (nomark _)) (pt_cmpR op_le (pv 5) (pv 4) (nomark _)))) (fun _ _ _ _ _ => (pv 5)))))), ?_⟩
    obtain ⟨i, b, pl⟩ := sd
    have li : i < tops.length := ok.lt
    have bd : 0 ≤ pl ∧ pl ≤ plc tops i := ok.bd
    have f3' : plc tops i ≤ 3 := f3
    have hs' : H p = some (.tup [.int (i : Int), .str (word b), .int pl]) := hs
    have at1 : atI (tops.map V.int) (i : Int) = some (.int (plc tops i)) := by
      rw [plc_get li]
      exact at_int li
    refine ⟨.ref p, rfl, p, _, rfl, .inl (.inl hs'), rfl, _, _, rfl, _, _, rfl, _, _, rfl, rfl, ?_⟩
    refine ⟨.ref t, rfl, .int i, rfl, t, _, i, _, rfl, rfl, .inl (.inl et), at1, _, 1, rfl, rfl, plc tops i + 1, rfl, by omega, by omega, fun D nD => lc_it walk_range (fun k H' => Same H H' ∧ H' D = some (.lst (((List.range k).filter fun y : Nat => okP (i, b, pl) y).map fun y : Nat => V.int (y : Int)))) ⟨same_new nD, upd_same⟩ (fun _ _ _ _ => trivial) (fun k v H1' H1 hk y z => ?_) (fun H1 y => ?_)⟩
    · obtain ⟨sm, eD⟩ := y
      obtain ⟨rfl, rfl⟩ := z
      have hk4 : k < 4 := by omega
      have lD : (((List.range k).filter fun y : Nat => okP (i, b, pl) y).map fun y : Nat => V.int (y : Int)).length < 1000 := by
        rw [List.length_map]
        have := List.length_filter_le (fun y : Nat => okP (i, b, pl) y) (List.range k)
        rw [List.length_range] at this
        omega
      have push : okP (i, b, pl) k = true → Same H (upd H1 D (.lst ((((List.range k).filter fun y : Nat => okP (i, b, pl) y).map fun y : Nat => V.int (y : Int)) ++ [V.int (0 + (k : Int))]))) ∧ (upd H1 D (.lst ((((List.range k).filter fun y : Nat => okP (i, b, pl) y).map fun y : Nat => V.int (y : Int)) ++ [V.int (0 + (k : Int))]))) D = some (.lst (((List.range (k + 1)).filter fun y : Nat => okP (i, b, pl) y).map fun y : Nat => V.int (y : Int))) := fun c => by
        refine ⟨same_over sm nD, ?_⟩
        rw [upd_same, filt_succ, if_pos c, List.map_append, Int.zero_add]
        rfl
      have skip : ¬ okP (i, b, pl) k = true → Same H H1 ∧ H1 D = some (.lst (((List.range (k + 1)).filter fun y : Nat => okP (i, b, pl) y).map fun y : Nat => V.int (y : Int))) := fun c => by
        refine ⟨sm, ?_⟩
        rw [filt_succ, if_neg c, List.append_nil]
        exact eD
      cases b with
      | true =>
        refine ⟨wipe_one, _, rfl, rfl, _, rfl, iteTr (by decide +kernel) ⟨_, rfl, _, rfl, _, pl, rfl, rfl, _, rfl, ite2 (fun c => ?_) (fun c => ?_)⟩⟩
        · have c' : okP (i, true, pl) k = true := by
            have := of_decide_eq_true c
            exact decide_eq_true (show pl ≤ (k : Int) by omega)
          obtain ⟨x1, x2⟩ := push c'
          exact ⟨_, rfl, _, eD, small1000 (by omega), x1, x2⟩
        · have c' : ¬ okP (i, true, pl) k = true := fun z => c (by
            have := of_decide_eq_true z
            exact decide_eq_true (show pl ≤ 0 + (k : Int) by have h : pl ≤ (k : Int) := this; omega))
          exact skip c'
      | false =>
        refine ⟨wipe_one, _, rfl, rfl, _, rfl, iteFa (by decide +kernel) ⟨_, rfl, _, rfl, _, pl, rfl, rfl, _, rfl, ite2 (fun c => ?_) (fun c => ?_)⟩⟩
        · have c' : okP (i, false, pl) k = true := by
            have := of_decide_eq_true c
            exact decide_eq_true (show (k : Int) ≤ pl by omega)
          obtain ⟨x1, x2⟩ := push c'
          exact ⟨_, rfl, _, eD, small1000 (by omega), x1, x2⟩
        · have c' : ¬ okP (i, false, pl) k = true := fun z => c (by
            have := of_decide_eq_true z
            exact decide_eq_true (show 0 + (k : Int) ≤ pl by have h : (k : Int) ≤ pl := this; omega))
          exact skip c'
    · obtain ⟨sm, eD⟩ := y
      refine q H1 D sm nD ?_
      rw [eD]
      unfold plN
      rw [show (plc tops i + 1).toNat = (plc tops i).toNat + 1 by omega]
end
end K11

set_option Elab.async false
set_option linter.all false
set_option maxRecDepth 100000
namespace K11
open PySem PySem.Spec PyProof.Rows L2 NB

/-! ### the law's barring and leading -/
theorem any_id {α : Type} (g : α → Bool) (xs : List α) : (xs.map g).any id = xs.any g := by
  rw [List.any_map]
  rfl
section
variable {P : Program} {w : World} {K : PySem.W.Frag} {mg : Str → Option Value} {base : Heap}
def spLB : Sp := fun vs H Q _ => ∃ (t p r : Addr) (tops : List Int) (a b : Sd), vs = [.ref t, .ref p, .ref r] ∧ H t = some (.tup (tops.map V.int)) ∧ SideAt H p a ∧ SideAt H r b ∧ SideOk tops a ∧ SideOk tops b ∧ Few tops ∧
  ∀ H', Same H H' → Q (.bl (barsB tops a b)) H'
abbrev a__law_bars : Stmt := topS 44
abbrev n__law_bars : List Str := ["_law_tops_here", "_law_one", "_law_other", "_law_there", "_law_place"]
theorem sc__law_bars : FnScope n__law_bars ["_law_tops_here", "_law_one", "_law_other"] (defScope a__law_bars) := ⟨rfl, rfl, rfl, by decide +kernel, rfl, by decide +kernel, by decide +kernel⟩
set_option maxHeartbeats 8000000 in
theorem ok__law_bars {f fPl : Addr} {fd fdPl : FuncData} {k : Nat}  (F : Fun K "_law_bars" "_law_bars" a__law_bars f fd) (Pl : Kn P w K mg base 1 "_law_places" ["_law_tops_here", "_law_side_here"] spPlc fPl fdPl)  (m_any : mg "any" = none) : FnOk P w K mg base CX0 (k + 2) f fd ["_law_tops_here", "_law_one", "_law_other"] spLB := by
  refine F.ok sc__law_bars (fun vs H Q E h => ?_) (fun cdv A outer s H vs Q E hr h => ?_)
  · obtain ⟨t, p, r, tops, a, b, rfl, _⟩ := h
    rfl
  · obtain ⟨t, p, r, tops, a, b, rfl, et, hp, hr', oa, ob, fw, q⟩ := h
    refine ⟨_, (pss_cons (ps_if (pt_cmpR op_ne (pe_ix ix_tup (pv 1) pe_int (fun _ _ => rfl)) (pe_ix ix_tup (pv 2) pe_int (fun _ _ => rfl)) (nomark _)) (pss_one (ps_ret pe_bl)) pss_nil)
      (pss_cons (ps_set (i := 3) sc__law_bars.nd rfl (.inr rfl) (pe_kn Pl hr (by omega) (pa_cons (pv 0) (pa_cons (pv 2) pa_nil))))
      (pss_one (ps_ret (pe_not (pe_callB (cr_any rfl) (by rfl) m_any (by decide +kernel) (pa_cons (
        pe_lc (own := [("_law_place", 4)]) (g := (gName 4)) (tt := tYes) (te := (tOp (rIn K false) (tVar 4) (tVar 3))) rfl sc__law_bars.nd (pi_list (pe_kn Pl hr (by omega) (pa_cons (pv 0) (pa_cons (pv 1) pa_nil)))) (blkOk_by (N := n__law_bars) (sc := defScope a__law_bars) (by decide +kernel))
          (fun _ _ _ _ _ => (pg_name (i := 4) sc__law_bars.nd rfl (.inl rfl) (hf := .inr rfl))) (fun _ _ _ _ _ => pts_nil) (fun _ _ _ _ _ => (pe_cmpR op_in_seq (pv 4) (pv 3) (by rfl)))) pa_nil))))))), ?_⟩
    have hp0 : H p = some (.tup [.int (a.1 : Int), .str (word a.2.1), .int a.2.2]) := hp
    have hr0 : H r = some (.tup [.int (b.1 : Int), .str (word b.2.1), .int b.2.2]) := hr'
    rw [plN_bars oa ob] at q
    refine ⟨.ref p, rfl, p, _, 0, _, rfl, rfl, .inl (.inl hp0), rfl, .ref r, rfl, r, _, 0, _, rfl, rfl, .inl (.inl hr0), rfl, rfl, _, rfl, ite2 (fun c => ?_) (fun c => ?_)⟩
    · have ne : ¬ a.1 = b.1 := fun z => by
        rw [z] at c
        simp at c
      rw [decide_eq_false ne, Bool.false_and] at q
      exact q H (Same.refl H)
    · have eq : a.1 = b.1 := by
        rw [Bool.not_eq_true, Bool.not_eq_false'] at c
        have := of_decide_eq_true c
        injection this with h
        omega
      rw [decide_eq_true eq, Bool.true_and] at q
      refine ⟨.ref t, rfl, .ref r, rfl, t, r, tops, b, rfl, et, hr', ob, few_plc fw _, fun H1 l s1 nl el => ?_⟩
      refine ⟨.ref t, rfl, .ref p, rfl, t, p, tops, a, rfl, s1 _ _ et, hp.keep (.same s1), oa, few_plc fw _, fun H2 l2 s2 nl2 el2 => ?_⟩
      have el' := s2 _ _ el
      have la := plN_len (sd := a) (few_plc fw a.1)
      refine ⟨l2, rfl, ⟨_, .inl (.inl el2)⟩, fun D nD => lc_it (walk_list (xs := (plN tops a).map fun y : Nat => V.int (y : Int))) (fun k H' => Same H2 H' ∧ H' D = some (.lst ((((plN tops a).take k).map fun y => decide (y ∈ plN tops b)).map V.bl))) ⟨same_new nD, upd_same⟩ (fun k H' _ y => .inl (.inl (y.1 _ _ el2))) (fun k v H3' H3 hk y z => ?_) (fun H3 y => ?_)⟩
      · obtain ⟨sm, eD⟩ := y
        obtain ⟨rfl, gv⟩ := z
        obtain ⟨y, ey, rfl⟩ := mapGet gv
        refine ⟨wipe_one, _, rfl, _, rfl, l, _, rfl, .inl (.inl (.inl (sm _ _ el'))), rfl, flat_nats _, _, eD, ?_, same_over sm nD, ?_⟩
        · rw [List.length_map, List.length_map, List.length_take]
          exact small1000 (by omega)
        · rw [upd_same, all_take _ _ k y ey]
          show some (HO.lst (_ ++ [V.bl (inV (V.int (y : Int)) _)])) = _
          rw [inV_nats]
      · obtain ⟨sm, eD⟩ := y
        rw [List.length_map, List.take_length] at eD
        refine ⟨D, _, rfl, .inl (.inl eD), ?_⟩
        rw [any_id]
        exact ⟨_, rfl, q H3 ((s1.trans s2).trans sm)⟩
end
end K11

set_option Elab.async false
set_option linter.all false
set_option maxRecDepth 100000
namespace K11
open PySem PySem.Spec PyProof.Rows L2 NB

/-! ### the law's leading -/
section
variable {P : Program} {w : World} {K : PySem.W.Frag} {mg : Str → Option Value} {base : Heap}
def spLdL : Sp := fun vs H Q _ => ∃ (t R p r : Addr) (tops : List Int) (rs : List Rl) (a b : Sd), vs = [.ref t, .ref R, .ref p, .ref r] ∧ H t = some (.tup (tops.map V.int)) ∧ RulesAt H R rs ∧ SideAt H p a ∧ SideAt H r b ∧ SideOk tops a ∧ SideOk tops b ∧ Few tops ∧ (∀ q ∈ rs, RuleOk tops q) ∧
  ∀ H', Same H H' → Q (.bl (ldsB tops rs a b)) H'
abbrev a__law_leads : Stmt := topS 45
abbrev n__law_leads : List Str := ["_law_tops_here", "_law_rules", "_law_one", "_law_other", "_law_there", "_law_first", "_law_second", "_law_place"]
theorem sc__law_leads : FnScope n__law_leads ["_law_tops_here", "_law_rules", "_law_one", "_law_other"] (defScope a__law_leads) := ⟨rfl, rfl, rfl, by decide +kernel, rfl, by decide +kernel, by decide +kernel⟩
set_option maxHeartbeats 8000000 in
theorem ok__law_leads {f fPl fBs : Addr} {fd fdPl fdBs : FuncData} {k : Nat}  (F : Fun K "_law_leads" "_law_leads" a__law_leads f fd) (Pl : Kn P w K mg base 1 "_law_places" ["_law_tops_here", "_law_side_here"] spPlc fPl fdPl) (Bs : Kn P w K mg base 2 "_law_bars" ["_law_tops_here", "_law_one", "_law_other"] spLB fBs fdBs)  (m_all : mg "all" = none) : FnOk P w K mg base CX0 (k + 3) f fd ["_law_tops_here", "_law_rules", "_law_one", "_law_other"] spLdL := by
  refine F.ok sc__law_leads (fun vs H Q E h => ?_) (fun cdv A outer s H vs Q E hr h => ?_)
  · obtain ⟨t, R, p, r, tops, rs, a, b, rfl, _⟩ := h
    rfl
  · obtain ⟨t, R, p, r, tops, rs, a, b, rfl, et, hR, hp, hr', oa, ob, fw, rok, q⟩ := h
    refine ⟨_, (pss_cons (ps_set (i := 4) sc__law_leads.nd rfl (.inr rfl) (pe_kn Pl hr (by omega) (pa_cons (pv 0) (pa_cons (pv 3) pa_nil))))
      (C8.pss_cut (ps_if (PW.pt (pw_and (pt_cmpR op_eq (pe_ix ix_tup (pv 2) pe_int (fun _ _ => rfl)) (pe_ix ix_tup (pv 3) pe_int (fun _ _ => rfl)) (nomark _)) (pw_and1 (pt_val (pe_callB (cr_all rfl) (by rfl) m_all (by decide +kernel) (pa_cons (
        pe_lc (own := [("_law_place", 7)]) (g := (gName 7)) (tt := tYes) (te := (tOp (rIn K false) (tVar 7) (tVar 4))) rfl sc__law_leads.nd (pi_list (pe_kn Pl hr (by omega) (pa_cons (pv 0) (pa_cons (pv 2) pa_nil)))) (blkOk_by (N := n__law_leads) (sc := defScope a__law_leads) (by decide +kernel))
          (fun _ _ _ _ _ => (pg_name (i := 7) sc__law_leads.nd rfl (.inl rfl) (hf := .inr rfl))) (fun _ _ _ _ _ => pts_nil) (fun _ _ _ _ _ => (pe_cmpR op_in_seq (pv 7) (pv 4) (by rfl)))) pa_nil)))))) (pss_one (ps_ret pe_bl)) pss_nil)
      (pss_cons (ps_for PassesOwn.never rfl (pi_tup (pv 1)) (pg_tup rfl (pgs_cons (pg_name (i := 5) sc__law_leads.nd rfl (.inl rfl)) (pgs_cons (pg_name (i := 6) sc__law_leads.nd rfl (.inl rfl)) pgs_nil)))
        (pss_one (ps_if (PW.pt (pw_or (PW.pt (pw_and (pt_cmpR (op_eqD hr.units) (pv 3) (pv 6) (nomark _)) (pw_and1 (pt_val (pe_kn Bs hr (by omega) (pa_cons (pv 0) (pa_cons (pv 2) (pa_cons (pv 5) pa_nil)))))))) (pw_or1 (PW.pt (pw_and (pt_cmpR (op_eqD hr.units) (pv 3) (pv 5) (nomark _)) (pw_and1 (pt_val (pe_kn Bs hr (by omega) (pa_cons (pv 0) (pa_cons (pv 2) (pa_cons (pv 6) pa_nil))))))))))) (pss_one (ps_ret pe_bl)) pss_nil)))
      (pss_one (ps_ret pe_bl))))), ?_⟩
    have hp0 : H p = some (.tup [.int (a.1 : Int), .str (word a.2.1), .int a.2.2]) := hp
    have hr0 : H r = some (.tup [.int (b.1 : Int), .str (word b.2.1), .int b.2.2]) := hr'
    refine ⟨.ref t, rfl, .ref r, rfl, t, r, tops, b, rfl, et, hr', ob, few_plc fw _, fun H1 l s1 nl el => ?_⟩
    refine ⟨fun σ H' => σ = [some (.ref t), some (.ref R), some (.ref p), some (.ref r), some (.ref l), none, none, none] ∧ Same H H' ∧ withinB tops a b = false, ?_, fun σ H2 y => ?_⟩
    · refine ⟨_, rfl, p, _, 0, _, rfl, rfl, .inl (.inl (s1 _ _ hp0)), rfl, _, rfl, r, _, 0, _, rfl, rfl, .inl (.inl (s1 _ _ hr0)), rfl, rfl, _, rfl, ite2 (fun c => ?_) (fun c => ?_)⟩
      · have eq : a.1 = b.1 := by
          have := of_decide_eq_true c
          injection this with h
          omega
        refine ⟨.ref t, rfl, .ref p, rfl, t, p, tops, a, rfl, s1 _ _ et, hp.keep (.same s1), oa, few_plc fw _, fun H2 l2 s2 nl2 el2 => ?_⟩
        have el' := s2 _ _ el
        have la := plN_len (sd := a) (few_plc fw a.1)
        refine ⟨l2, rfl, ⟨_, .inl (.inl el2)⟩, fun D nD => lc_it (walk_list (xs := (plN tops a).map fun y : Nat => V.int (y : Int))) (fun k H' => Same H2 H' ∧ H' D = some (.lst ((((plN tops a).take k).map fun y => decide (y ∈ plN tops b)).map V.bl))) ⟨same_new nD, upd_same⟩ (fun k H' _ y => .inl (.inl (y.1 _ _ el2))) (fun k v H3' H3 hk y z => ?_) (fun H3 y => ?_)⟩
        · obtain ⟨sm, eD⟩ := y
          obtain ⟨rfl, gv⟩ := z
          obtain ⟨y, ey, rfl⟩ := mapGet gv
          refine ⟨wipe_one, _, rfl, _, rfl, l, _, rfl, .inl (.inl (.inl (sm _ _ el'))), rfl, flat_nats _, _, eD, ?_, same_over sm nD, ?_⟩
          · rw [List.length_map, List.length_map, List.length_take]
            exact small1000 (by omega)
          · rw [upd_same, all_take _ _ k y ey]
            show some (HO.lst (_ ++ [V.bl (inV (V.int (y : Int)) _)])) = _
            rw [inV_nats]
        · obtain ⟨sm, eD⟩ := y
          rw [List.length_map, List.take_length] at eD
          refine ⟨D, _, rfl, .inl (.inl eD), ?_⟩
          rw [all_id]
          have ew := plN_within oa ob
          rw [decide_eq_true eq, Bool.true_and] at ew
          rw [← ew]
          have s13 := (s1.trans s2).trans sm
          refine ⟨_, rfl, ?_⟩
          cases cw : withinB tops a b with
          | true =>
            have e : ldsB tops rs a b = true := by
              unfold ldsB
              rw [cw, Bool.true_or]
            rw [e] at q
            exact iteT (q H3 s13)
          | false => exact iteF ⟨rfl, s13, rfl⟩
      · have ne : ¬ a.1 = b.1 := fun z => by
          rw [z] at c
          simp at c
        have ew := plN_within oa ob
        rw [decide_eq_false ne, Bool.false_and] at ew
        exact iteF ⟨rfl, s1, ew⟩
    obtain ⟨rfl, s2, nw⟩ := y
    have eL : ldsB tops rs a b = decide (b ∈ ledL tops rs a) := by
      unfold ldsB
      rw [nw, Bool.false_or]
    rw [eL] at q
    obtain ⟨as, eR, lr, ar⟩ := id hR
    refine ⟨.ref R, rfl, R, rfl, ⟨_, .inl (.inl (s2 _ _ eR))⟩, for_it (walk_tup (xs := as.map V.ref)) (fun k σ H' => (∃ u5 u6 u7, σ = [some (.ref t), some (.ref R), some (.ref p), some (.ref r), some (.ref l), u5, u6, u7]) ∧ Same H H' ∧ ∀ j, j < k → ∀ y, rs[j]? = some y → ¬ ((barsB tops a y.1 = true ∧ b = y.2) ∨ (barsB tops a y.2 = true ∧ b = y.1))) ⟨⟨_, _, _, rfl⟩, s2, fun j hj => absurd hj (Nat.not_lt_zero _)⟩ (fun k σ H' _ y => .inl (.inl (y.2.1 _ _ eR))) (fun k v σ H3' H3 hk y z => ?_) (fun σ H3 y => ?_)⟩
    · obtain ⟨⟨u5, u6, u7, rfl⟩, s3, nb⟩ := y
      obtain ⟨rfl, gv⟩ := z
      obtain ⟨rr, er, rfl⟩ := mapGet gv
      have hk' : k < as.length := by
        rw [List.length_map] at hk
        exact hk
      have hw : k < rs.length := by omega
      have eq0 : rs[k]? = some rs[k] := List.getElem?_eq_getElem hw
      have hq : rs[k] ∈ rs := List.getElem_mem hw
      obtain ⟨r1, r2, e3, h1, h2⟩ := (ar k rr _ er eq0).keep (.same s3)
      generalize rs[k] = q0 at eq0 hq h1 h2
      have hit : ∀ H5, Same H H5 → ((barsB tops a q0.1 = true ∧ b = q0.2) ∨ (barsB tops a q0.2 = true ∧ b = q0.1)) → Q (.bl true) H5 := fun H5 s5 h => by
        have : decide (b ∈ ledL tops rs a) = true := decide_eq_true (led_iff.mpr ⟨q0, hq, h⟩)
        rw [this] at q
        exact q H5 s5
      have go : ∀ H5, Same H H5 → ¬ (barsB tops a q0.1 = true ∧ b = q0.2) → ¬ (barsB tops a q0.2 = true ∧ b = q0.1) → (∃ v5 v6 v7, [some (V.ref t), some (V.ref R), some (V.ref p), some (V.ref r), some (V.ref l), some (V.ref r1), some (V.ref r2), u7] = [some (V.ref t), some (V.ref R), some (V.ref p), some (V.ref r), some (V.ref l), v5, v6, v7]) ∧ Same H H5 ∧ ∀ j, j < k + 1 → ∀ y, rs[j]? = some y → ¬ ((barsB tops a y.1 = true ∧ b = y.2) ∨ (barsB tops a y.2 = true ∧ b = y.1)) := fun H5 s5 n6 n8 => by
        refine ⟨⟨_, _, _, rfl⟩, s5, fun j hj y ey => ?_⟩
        rcases Nat.lt_or_ge j k with c | c
        · exact nb j c y ey
        · rw [show j = k by omega, eq0] at ey
          cases ey
          rintro (h | h)
          · exact n6 h
          · exact n8 h
      refine ⟨rr, _, rfl, .inl (.inl e3), rfl, _, _, rfl, _, _, rfl, rfl, ?_⟩
      refine ⟨_, rfl, _, rfl, _, _, dp_sd (hr'.keep (.same s3)), dp_sd h2, shaped_sd _, shaped_sd _, _, rfl, ?_⟩
      rw [eqv_sd]
      cases e6 : decide (b = q0.2) with
      | true =>
        refine iteT ⟨.ref t, rfl, .ref p, rfl, .ref r1, rfl, t, p, r1, tops, a, q0.1, rfl, s3 _ _ et, hp.keep (.same s3), h1, oa, (rok q0 hq).1, fw, fun H4 s4 => ⟨_, rfl, ?_⟩⟩
        have s34 := s3.trans s4
        cases e7 : barsB tops a q0.1 with
        | true => exact iteT (hit H4 s34 (.inl ⟨e7, of_decide_eq_true e6⟩))
        | false =>
          have no6 : ¬ (barsB tops a q0.1 = true ∧ b = q0.2) := fun h => by rw [e7] at h; exact absurd h.1 (by decide)
          refine iteF ?_
          refine ⟨_, rfl, _, rfl, _, _, dp_sd (hr'.keep (.same s34)), dp_sd (h1.keep (.same s4)), shaped_sd _, shaped_sd _, _, rfl, ?_⟩
          rw [eqv_sd]
          cases e8 : decide (b = q0.1) with
          | true =>
            refine iteT ⟨.ref t, rfl, .ref p, rfl, .ref r2, rfl, t, p, r2, tops, a, q0.2, rfl, s34 _ _ et, hp.keep (.same s34), h2.keep (.same s4), oa, (rok q0 hq).2, fw, fun H5 s5 => ⟨_, rfl, ?_⟩⟩
            cases e9 : barsB tops a q0.2 with
            | true => exact iteT (hit H5 ((s34).trans s5) (.inr ⟨e9, of_decide_eq_true e8⟩))
            | false => exact iteF (go H5 ((s34).trans s5) no6 fun h => by rw [e9] at h; exact absurd h.1 (by decide))
          | false => exact iteF (go H4 s34 no6 fun h => absurd h.2 (of_decide_eq_false e8))
      | false =>
        have no6 : ¬ (barsB tops a q0.1 = true ∧ b = q0.2) := fun h => absurd h.2 (of_decide_eq_false e6)
        refine iteF ?_
        refine ⟨_, rfl, _, rfl, _, _, dp_sd (hr'.keep (.same s3)), dp_sd (h1.keep (.same (Same.refl _))), shaped_sd _, shaped_sd _, _, rfl, ?_⟩
        rw [eqv_sd]
        cases e8 : decide (b = q0.1) with
        | true =>
          refine iteT ⟨.ref t, rfl, .ref p, rfl, .ref r2, rfl, t, p, r2, tops, a, q0.2, rfl, s3 _ _ et, hp.keep (.same s3), h2.keep (.same (Same.refl _)), oa, (rok q0 hq).2, fw, fun H5 s5 => ⟨_, rfl, ?_⟩⟩
          cases e9 : barsB tops a q0.2 with
          | true => exact iteT (hit H5 ((s3).trans s5) (.inr ⟨e9, of_decide_eq_true e8⟩))
          | false => exact iteF (go H5 ((s3).trans s5) no6 fun h => by rw [e9] at h; exact absurd h.1 (by decide))
        | false => exact iteF (go _ s3 no6 fun h => absurd h.2 (of_decide_eq_false e8))
    · obtain ⟨⟨u5, u6, u7, rfl⟩, s3, nb⟩ := y
      have : decide (b ∈ ledL tops rs a) = false := decide_eq_false fun h => by
        obtain ⟨y, hy, h⟩ := led_iff.mp h
        obtain ⟨j, hj, e⟩ := List.getElem_of_mem hy
        exact nb j (by rw [List.length_map]; omega) y (by rw [List.getElem?_eq_getElem hj, e]) h
      rw [this] at q
      exact q H3 s3
end
end K11

set_option Elab.async false
set_option linter.all false
set_option maxRecDepth 100000
namespace K11
open PySem PySem.Spec PyProof.Rows L2 NB

/-! ### the law's look at a side, of anything -/
abbrev rIsi : List V → Hp → VK → Prop := fun xs H Q => ∃ n v d T b, xs = [v, .ty T] ∧ Da n H v d ∧ kitB (tyD d) T = some b ∧ Q (.bl b) H
theorem side3 {tops : List Int} {d0 d1 d2 : PyData} : sideD tops (.tuple [d0, d1, d2]) = (placeD ((tops.length : Int) - 1) d0 && (wordD d1 && placeD (tops.getD (natD d0) 0) d2)) := by simp [sideD]
theorem place_no {t : Int} {d : PyData} (h : isIntD d = false) : placeD t d = false := by
  cases d <;> first | rfl | cases h
theorem place_bool {t : Int} {d : PyData} (h : isBoolD d = true) : placeD t d = false := by
  cases d <;> first | rfl | cases h
theorem int_of {d : PyData} (h : isIntD d = true) (h' : isBoolD d = false) : ∃ i, d = .int i := by
  cases d with
  | int i => exact ⟨i, rfl⟩
  | bool b => cases h'
  | _ => cases h
section
variable {P : Program} {w : World} {K : PySem.W.Frag} {mg : Str → Option Value} {base : Heap}
abbrev a__law_is_side : Stmt := topS 47
abbrev n__law_is_side : List Str := ["_law_tops_here", "_law_item", "_law_k"]
theorem sc__law_is_side : FnScope n__law_is_side ["_law_tops_here", "_law_item"] (defScope a__law_is_side) := ⟨rfl, rfl, rfl, by decide +kernel, rfl, by decide +kernel, by decide +kernel⟩
set_option maxHeartbeats 8000000 in
theorem ok__law_is_side {f  : Addr} {fd  : FuncData} {k : Nat}  (F : Fun K "_law_is_side" "_law_is_side" a__law_is_side f fd)   (m_all : mg "all" = none) (m_bool : mg "bool" = none) (m_int : mg "int" = none) (m_isinstance : mg "isinstance" = none) (m_len : mg "len" = none) (m_str : mg "str" = none) (m_tuple : mg "tuple" = none) : FnOk P w K mg base CX0 (k + 1) f fd ["_law_tops_here", "_law_item"] (spLookT sideD) := by
  refine F.ok sc__law_is_side (fun vs H Q E h => ?_) (fun cdv A outer s H vs Q E hr h => ?_)
  · obtain ⟨n, t, tops, v, d, rfl, _⟩ := h
    rfl
  · obtain ⟨n, t, tops, v, d, rfl, et, hd, q⟩ := h
    refine ⟨_, (pss_cons (ps_if (PW.pt (pw_or (pt_not (pt_val (pe_callB call_isiD (by rfl) m_isinstance (by decide +kernel) (pa_cons (pv 1) (pa_cons (pe_bltn (v := .ty "tuple") (u := .type "tuple") (by rfl) m_tuple (by decide +kernel) rfl) pa_nil))))) (pw_or (pt_cmpR op_ne (pe_callB call_len_seq (by rfl) m_len (by decide +kernel) (pa_cons (pv 1) pa_nil)) pe_int (nomark _)) (pw_or1 (pt_not (pt_val (pe_callB (cr_all rfl) (by rfl) m_all (by decide +kernel) (pa_cons (
        pe_lc (own := [("_law_k", 2)]) (g := (gName 2)) (tt := tYes) (te := tCB rIsi (tCons (tOp (rIxT K) (tVar 1) (tVar 2)) (tCons (tC (.ty "int")) tNil))) rfl sc__law_is_side.nd (pi_tup (pe_tup (pa_cons pe_int (pa_cons pe_int pa_nil)))) (blkOk_by (N := n__law_is_side) (sc := defScope a__law_is_side) (by decide +kernel))
          (fun _ _ _ _ _ => (pg_name (i := 2) sc__law_is_side.nd rfl (.inl rfl) (hf := .inr rfl))) (fun _ _ _ _ _ => pts_nil) (fun _ _ _ _ _ => (pe_callB call_isiD (by rfl) m_isinstance (by decide +kernel) (pa_cons (pe_ix (r := rIxT K) ix_tup (pv 1) (pv 2) (fun _ _ => rfl)) (pa_cons (pe_bltn (v := .ty "int") (u := .type "int") (by rfl) m_int (by decide +kernel) rfl) pa_nil))))) pa_nil)))))))) (pss_one (ps_ret pe_bl)) pss_nil)
      (pss_cons (ps_if (PW.pt (pw_or (pt_val (pe_callB call_isiD (by rfl) m_isinstance (by decide +kernel) (pa_cons (pe_ix ix_tup (pv 1) pe_int (fun _ _ => rfl)) (pa_cons (pe_bltn (v := .ty "bool") (u := .type "bool") (by rfl) m_bool (by decide +kernel) rfl) pa_nil)))) (pw_or (pt_val (pe_callB call_isiD (by rfl) m_isinstance (by decide +kernel) (pa_cons (pe_ix ix_tup (pv 1) pe_int (fun _ _ => rfl)) (pa_cons (pe_bltn (v := .ty "bool") (u := .type "bool") (by rfl) m_bool (by decide +kernel) rfl) pa_nil)))) (pw_or1 (pt_not (pt_chain op_le op_lt pe_int (pe_ix ix_tup (pv 1) pe_int (fun _ _ => rfl)) (pe_callB call_len_seq (by rfl) m_len (by decide +kernel) (pa_cons (pv 0) pa_nil)))))))) (pss_one (ps_ret pe_bl)) pss_nil)
      (pss_one (ps_ret (pe_and (pe_callB call_isiD (by rfl) m_isinstance (by decide +kernel) (pa_cons (pe_ix ix_tup (pv 1) pe_int (fun _ _ => rfl)) (pa_cons (pe_bltn (v := .ty "str") (u := .type "str") (by rfl) m_str (by decide +kernel) rfl) pa_nil))) (pe_and (pe_cmpR op_in_seq (pe_ix ix_tup (pv 1) pe_int (fun _ _ => rfl)) (pe_tup (pa_cons pe_str (pa_cons pe_str pa_nil))) (by rfl)) (pe_one (pe_chain op_le op_le pe_int (pe_ix ix_tup (pv 1) pe_int (fun _ _ => rfl)) (pe_ix ix_tup (pv 0) (pe_ix ix_tup (pv 1) pe_int (fun _ _ => rfl)) (fun _ _ => rfl)))))))))), ?_⟩
    rcases tup_or d with ⟨ds, rfl⟩ | hn
    · cases hd with
      | tup e ha =>
      rename_i a xs
      have ll := ha.len
      refine ⟨_, rfl, n, _, _, "tuple", _, rfl, .tup e ha, kit_tup _, _, rfl, iteF ⟨_, rfl, a, xs, rfl, .inr (.inl (.inl e)), rfl, _, rfl, ite2 (fun c => ?_) (fun c => ?_)⟩⟩
      · have c' : ¬ ds.length = 3 := fun z => by rw [ll, z] at c; exact absurd c (by decide)
        have : sideD tops (.tuple ds) = false := by simp [sideD, c']
        rw [this] at q
        exact q H (Same.refl H)
      have c' : ds.length = 3 := Classical.byContradiction fun z => c (by
        have : ¬ ((xs.length : Int) = 3) := by omega
        simp [this])
      match ds, c', ha with
      | [d0, d1, d2], _, .cons h0 (.cons h1 (.cons h2 .nil)) =>
      rename_i v0 v1 v2
      rw [side3] at q
      refine ⟨(show 2 ≤ sizeLine by decide), fun T nT => ?_⟩
      have sT := same_new (o := HO.tup [V.int 0, V.int 2]) nT
      have eT : (upd H T (.tup [V.int 0, V.int 2])) T = some (.tup [V.int 0, V.int 2]) := upd_same
      have e1 := sT _ _ e
      have h01 := h0.same sT
      have h11 := h1.same sT
      have h21 := h2.same sT
      generalize upd H T (.tup [V.int 0, V.int 2]) = H1 at sT eT e1 h01 h11 h21 ⊢
      refine ⟨T, rfl, ⟨_, .inl (.inl eT)⟩, fun D nD => lc_it (walk_tup (xs := [V.int 0, V.int 2])) (fun k H' => Same H1 H' ∧ H' D = some (.lst (([isIntD d0, isIntD d2].take k).map V.bl))) ⟨same_new nD, upd_same⟩ (fun k H' _ y => .inl (.inl (y.1 _ _ eT))) (fun k u H2' H2 hk y z => ?_) (fun H2 y => ?_)⟩
      · obtain ⟨sm, eD⟩ := y
        obtain ⟨rfl, gv⟩ := z
        have k2 : k < 2 := hk
        obtain ⟨ix, vv, dd, rfl, ga, hdd, gb⟩ : ∃ (ix : Nat) (vv : V) (dd : PyData), u = .int (ix : Int) ∧ atI [v0, v1, v2] (ix : Int) = some vv ∧ Da n H1 vv dd ∧ [isIntD d0, isIntD d2][k]? = some (isIntD dd) := by
          have : k = 0 ∨ k = 1 := by omega
          rcases this with rfl | rfl
          · exact ⟨0, v0, d0, (Option.some.inj gv).symm, rfl, h01, rfl⟩
          · exact ⟨2, v2, d2, (Option.some.inj gv).symm, rfl, h21, rfl⟩
        refine ⟨wipe_one, _, rfl, _, rfl, a, _, (ix : Int), vv, rfl, rfl, .inl (.inl (sm _ _ e1)), ga, n, vv, dd, "int", _, rfl, hdd.same sm, kit_int dd, _, eD, ?_, same_over sm nD, ?_⟩
        · rw [List.length_map, List.length_take]
          exact small1000 (by omega)
        · rw [upd_same, List.take_add_one, gb, List.map_append]
          rfl
      · obtain ⟨sm, eD⟩ := y
        have s2 := sT.trans sm
        have e2 := sm _ _ e1
        have h02 := h01.same sm
        have h12 := h11.same sm
        have h22 := h21.same sm
        refine ⟨D, _, rfl, .inl (.inl eD), _, rfl, ?_⟩
        have ev : ([isIntD d0, isIntD d2].take [V.int 0, V.int 2].length).all id = (isIntD d0 && isIntD d2) := by simp
        rw [ev]
        cases i0 : isIntD d0 with
        | false =>
          rw [place_no i0, Bool.false_and] at q
          exact iteT (q H2 s2)
        | true =>
        cases i2 : isIntD d2 with
        | false =>
          rw [place_no i2, Bool.and_false, Bool.and_false] at q
          exact iteT (q H2 s2)
        | true =>
        refine iteF ?_
        refine ⟨_, rfl, a, _, 0, v0, rfl, rfl, .inl (.inl e2), rfl, n, v0, d0, "bool", _, rfl, h02, kit_bool d0, _, rfl, ?_⟩
        cases b0 : isBoolD d0 with
        | true =>
          rw [place_bool b0, Bool.false_and] at q
          exact iteT (q H2 s2)
        | false =>
        refine iteF ⟨_, rfl, a, _, 2, v2, rfl, rfl, .inl (.inl e2), rfl, n, v2, d2, "bool", _, rfl, h22, kit_bool d2, _, rfl, ?_⟩
        cases b2 : isBoolD d2 with
        | true =>
          rw [place_bool b2, Bool.and_false, Bool.and_false] at q
          exact iteT (q H2 s2)
        | false =>
        obtain ⟨i, rfl⟩ := int_of i0 b0
        obtain ⟨x, rfl⟩ := int_of i2 b2
        cases h0
        cases h2
        refine iteF ⟨_, rfl, a, _, 0, V.int i, rfl, rfl, .inl (.inl e2), rfl, 0, i, rfl, rfl, ?_⟩
        refine ⟨_, rfl, ite2 (fun c => ?_) (fun c => ?_)⟩
        rotate_left 1
        · have c' : placeD ((tops.length : Int) - 1) (.int i) = false := by
            show (decide (0 ≤ i) && _) = false
            rw [Bool.eq_false_iff.mpr c, Bool.false_and]
          rw [c', Bool.false_and] at q
          exact ⟨false, rfl, iteT (q H2 s2)⟩
        have i0' : 0 ≤ i := of_decide_eq_true c
        have et2 := s2 _ _ et
        refine ⟨_, rfl, t, _, rfl, .inr (.inl (.inl et2)), i, _, rfl, rfl, _, rfl, ?_⟩
        rw [List.length_map]
        cases cl : decide (i < (tops.length : Int)) with
        | false =>
          have c' : placeD ((tops.length : Int) - 1) (.int i) = false := by
            have := of_decide_eq_false cl
            show (decide (0 ≤ i) && decide (i ≤ (tops.length : Int) - 1)) = false
            rw [decide_eq_false (show ¬ i ≤ (tops.length : Int) - 1 by omega), Bool.and_false]
          rw [c', Bool.false_and] at q
          exact iteT (q H2 s2)
        | true =>
        have il := of_decide_eq_true cl
        have c' : placeD ((tops.length : Int) - 1) (.int i) = true := by
          show (decide (0 ≤ i) && decide (i ≤ (tops.length : Int) - 1)) = true
          rw [decide_eq_true i0', decide_eq_true (show i ≤ (tops.length : Int) - 1 by omega)]
          rfl
        rw [c', Bool.true_and] at q
        obtain ⟨i, rfl⟩ : ∃ k : Nat, i = k := ⟨i.toNat, by omega⟩
        have li : i < tops.length := by omega
        have et3 : tops.getD (natD (.int (i : Int))) 0 = tops[i] := by
          rw [show natD (.int (i : Int)) = i from Int.toNat_natCast i, getD_at li]
        rw [et3] at q
        refine iteF ⟨_, rfl, a, _, 1, v1, rfl, rfl, .inl (.inl e2), rfl, n, v1, d1, "str", _, rfl, h12, kit_str d1, _, rfl, ?_⟩
        rcases str_or d1 with ⟨z, rfl⟩ | hs
        · refine iteT ?_
          cases h1
          have ew : wordD (.str z) = (decide (z = "from") || decide (z = "to")) := rfl
          rw [ew] at q
          refine ⟨_, rfl, a, _, 1, _, rfl, rfl, .inl (.inl e2), rfl, (show 2 ≤ sizeLine by decide), fun W nW => ⟨W, _, rfl, .inr (.inl (.inl upd_same)), rfl, by decide, _, rfl, ?_⟩⟩
          have sW := same_new (o := HO.tup [V.str "from", V.str "to"]) nW
          have s3 := s2.trans sW
          have e3 := sW _ _ e2
          have et4 := sW _ _ et2
          show if inV (V.str z) [V.str "from", V.str "to"] = true then _ else _
          rw [inV_str2]
          generalize upd H2 W (.tup [V.str "from", V.str "to"]) = H3 at s3 e3 et4 ⊢
          cases hz : (decide (z = "from") || decide (z = "to")) with
          | false =>
            rw [hz, Bool.false_and] at q
            exact iteF (q H3 s3)
          | true =>
            rw [hz, Bool.true_and] at q
            have ep : placeD tops[i] (.int x) = (decide (0 ≤ x) && decide (x ≤ tops[i])) := rfl
            rw [ep] at q
            refine iteT ⟨_, rfl, a, _, 2, V.int x, rfl, rfl, .inl (.inl e3), rfl, 0, x, rfl, rfl, ?_⟩
            refine ⟨_, rfl, ite2 (fun c => ?_) (fun c => ?_)⟩
            · rw [show decide (0 ≤ x) = true from c, Bool.true_and] at q
              exact ⟨_, rfl, _, rfl, a, _, 0, _, rfl, rfl, .inl (.inl e3), rfl, t, _, i, _, rfl, rfl, .inl (.inl et4), atI_nat (by rw [List.getElem?_map, List.getElem?_eq_getElem li]; rfl), x, _, rfl, rfl, q H3 s3⟩
            · rw [Bool.eq_false_iff.mpr c, Bool.false_and] at q
              exact q H3 s3
        · rw [hs]
          rw [word_no hs, Bool.false_and] at q
          exact iteF (q H2 s2)
    · refine ⟨_, rfl, n, _, d, "tuple", _, rfl, hd, kit_tup d, _, rfl, ?_⟩
      rw [hn]
      rw [side_no hn] at q
      exact iteT (q H (Same.refl H))
end
end K11

set_option Elab.async false
set_option linter.all false
set_option maxRecDepth 100000
namespace K11
open PySem PySem.Spec PyProof.Rows L2 NB

/-! ### all sides of a plan -/
def lineS (i : Nat) (n : Nat) (b : Bool) : List Sd := (List.range n).map fun p : Nat => (i, b, (p : Int))
def cntT (tops : List Int) (i : Nat) : Nat := (plc tops i).toNat + 1
def sidesS (tops : List Int) (i : Nat) : List Sd := [true, false].flatMap (lineS i (cntT tops i))
def allS (tops : List Int) : List Sd := (List.range tops.length).flatMap (sidesS tops)
theorem allS_ok {tops : List Int} (fw : Few tops) {s : Sd} : s ∈ allS tops ↔ SideOk tops s := by
  unfold allS sidesS lineS cntT
  constructor
  · intro h
    obtain ⟨i, hi, h⟩ := List.mem_flatMap.mp h
    obtain ⟨b, _, h⟩ := List.mem_flatMap.mp h
    obtain ⟨p, hp, rfl⟩ := List.mem_map.mp h
    have li := List.mem_range.mp hi
    have lp := List.mem_range.mp hp
    have := fw.pl _ (List.getElem_mem li)
    rw [← plc_get li] at this
    exact SideOk.mk' li (by omega) (by omega)
  · intro ok
    have lt := ok.lt
    have bd := ok.bd
    refine List.mem_flatMap.mpr ⟨s.1, List.mem_range.mpr lt, List.mem_flatMap.mpr ⟨s.2.1, by cases s.2.1 <;> simp, List.mem_map.mpr ⟨s.2.2.toNat, List.mem_range.mpr (by omega), ?_⟩⟩⟩
    obtain ⟨i, b, p⟩ := s
    have b0 : 0 ≤ p := bd.1
    show (i, b, ((p.toNat : Nat) : Int)) = (i, b, p)
    rw [Int.toNat_of_nonneg b0]
theorem sidesS_len {tops : List Int} (fw : Few tops) (i : Nat) : (sidesS tops i).length ≤ 8 := by
  have h := few_plc fw i
  unfold sidesS lineS cntT
  simp only [List.flatMap_cons, List.flatMap_nil, List.length_append, List.length_map, List.length_range, List.length_nil]
  omega
theorem allS_len {tops : List Int} (fw : Few tops) : (allS tops).length ≤ 8 * tops.length := by
  unfold allS
  have : ∀ n : Nat, ((List.range n).flatMap (sidesS tops)).length ≤ 8 * n := fun n => by
    induction n with
    | zero => exact Nat.le_refl _
    | succ n ih =>
      rw [List.range_succ, List.flatMap_append, List.length_append, List.flatMap_cons, List.flatMap_nil, List.append_nil]
      have := sidesS_len fw n
      omega
  exact this _
theorem SdsAt.app {H : Hp} {L M : List (Addr × Sd)} (h : SdsAt H L) (h' : SdsAt H M) : SdsAt H (L ++ M) := fun z hz => by
  rcases List.mem_append.mp hz with c | c
  · exact h z c
  · exact h' z c
section
variable {P : Program} {w : World} {K : PySem.W.Frag} {mg : Str → Option Value} {base : Heap}
def spAS : Sp := fun vs H Q _ => ∃ (t : Addr) (tops : List Int), vs = [.ref t] ∧ H t = some (.tup (tops.map V.int)) ∧ Few tops ∧ tops.length ≤ 4 ∧
  ∀ H' l L, Same H H' → H l = none → H' l = some (.lst (sdR L)) → SdsAt H' L → L.map (·.2) = allS tops → Q (.ref l) H'
abbrev a__law_all_sides : Stmt := topS 46
abbrev n__law_all_sides : List Str := ["_law_tops_here", "_law_found", "_law_thing", "_law_top", "_law_word", "_law_place"]
theorem sc__law_all_sides : FnScope n__law_all_sides ["_law_tops_here"] (defScope a__law_all_sides) := ⟨rfl, rfl, rfl, by decide +kernel, rfl, by decide +kernel, by decide +kernel⟩
set_option maxHeartbeats 8000000 in
theorem ok__law_all_sides {f  : Addr} {fd  : FuncData} {k : Nat}  (F : Fun K "_law_all_sides" "_law_all_sides" a__law_all_sides f fd)   (m_enumerate : mg "enumerate" = none) (m_range : mg "range" = none) : FnOk P w K mg base CX0 (k + 1) f fd ["_law_tops_here"] spAS := by
  refine F.ok sc__law_all_sides (fun vs H Q E h => ?_) (fun cdv A outer s H vs Q E hr h => ?_)
  · obtain ⟨t, tops, rfl, _⟩ := h
    rfl
  · obtain ⟨t, tops, rfl, et, fw, l4, q⟩ := h
    refine ⟨_, (pss_cons (ps_set (i := 1) sc__law_all_sides.nd rfl (.inl rfl) (pe_lst pa_nil))
      (pss_cons (ps_for PassesOwn.never rfl (pi_enumT (by rfl) m_enumerate (pa_cons (pv 0) pa_nil)) (pg_tup rfl (pgs_cons (pg_name (i := 2) sc__law_all_sides.nd rfl (.inr rfl)) (pgs_cons (pg_name (i := 3) sc__law_all_sides.nd rfl (.inl rfl)) pgs_nil)))
        (pss_one (ps_for PassesOwn.never rfl (pi_tup (pe_tup (pa_cons pe_str (pa_cons pe_str pa_nil)))) (pg_name (i := 4) sc__law_all_sides.nd rfl (.inr rfl))
        (pss_one (ps_expr (pe_bm PySem.F.plainAttrs_list PySem.F.slot_list_extend PySem.F.type_list_extend mt_extend (pv 1) (pa_cons (
        pe_lc (own := [("_law_place", 5)]) (g := (gName 5)) (tt := tYes) (te := (tTup (tCons (tVar 2) (tCons (tVar 4) (tCons (tVar 5) tNil))))) rfl sc__law_all_sides.nd (pi_range1 (by rfl) m_range (pa_cons (pe_op op_add (pv 3) pe_int) pa_nil)) (blkOk_by (N := n__law_all_sides) (sc := defScope a__law_all_sides) (by decide +kernel))
          (fun _ _ _ _ _ => (pg_name (i := 5) sc__law_all_sides.nd rfl (.inl rfl) (hf := .inr rfl))) (fun _ _ _ _ _ => pts_nil) (fun _ _ _ _ _ => (pe_tup (pa_cons (pv 2) (pa_cons (pv 4) (pa_cons (pv 5) pa_nil)))))) pa_nil)))))))
      (pss_one (ps_ret (pv 1))))), ?_⟩
    refine ⟨Nat.zero_le _, fun l nl => ?_⟩
    have sl := same_new (o := HO.lst []) nl
    have el1 : (upd H l (.lst [])) l = some (.lst (sdR [])) := upd_same
    have et1 := sl _ _ et
    generalize upd H l (.lst []) = H1 at sl el1 et1 ⊢
    refine ⟨.ref t, rfl, t, _, rfl, .inl (.inl et1), for_it (walk_enumT (xs := tops.map V.int)) (fun k σ H' => (∃ u2 u3 u4 u5, σ = [some (.ref t), some (.ref l), u2, u3, u4, u5]) ∧ Same H H' ∧ KT H1 H' ∧ ∃ L, H' l = some (.lst (sdR L)) ∧ SdsAt H' L ∧ L.map (·.2) = (List.range k).flatMap (sidesS tops) ∧ L.length ≤ 8 * k) ⟨⟨_, _, _, _, rfl⟩, sl, KT.refl _, [], el1, (fun z hz => absurd hz List.not_mem_nil), rfl, Nat.le_refl _⟩ (fun k σ H' _ y => .inl (.inl (y.2.2.1 _ _ et1))) (fun k v σ H2 H3 hk y z => ?_) (fun σ H2 y => ?_)⟩
    · obtain ⟨⟨u2, u3, u4, u5, rfl⟩, s2, k2, L, el, hL, eL, lL⟩ := y
      obtain ⟨T, v1, v2, rfl, nT, rfl, g1, g2⟩ := z
      obtain rfl := Option.some.inj g1
      obtain ⟨n, en, rfl⟩ := mapGet g2
      have hk' : k < tops.length := by
        rw [List.length_map] at hk
        exact hk
      have epn : plc tops k = n := by
        show tops.getD k 0 = n
        rw [List.getD_eq_getElem?_getD, en]
        rfl
      have hn := fw n (List.mem_of_getElem? en)
      have sT := same_new (o := HO.tup [V.int (k : Int), V.int n]) nT
      refine ⟨T, _, rfl, .inl (.inl upd_same), rfl, _, _, rfl, _, _, rfl, rfl, ?_⟩
      have s3 := s2.trans sT
      have k3 : KT H1 _ := k2.trans (.same sT)
      have el3 := sT _ _ el
      have hL3 := hL.keep (.same sT)
      generalize upd H2 T (.tup [V.int (k : Int), V.int n]) = H3 at s3 k3 el3 hL3 ⊢
      refine ⟨(show 2 ≤ sizeLine by decide), fun W nW => ?_⟩
      have sW := same_new (o := HO.tup [V.str "from", V.str "to"]) nW
      have eW : (upd H3 W (.tup [V.str "from", V.str "to"])) W = some (.tup ([true, false].map fun b => V.str (word b))) := upd_same
      have s4 := s3.trans sW
      have k4 : KT H1 _ := k3.trans (.same sW)
      have el4 := sW _ _ el3
      have hL4 := hL3.keep (.same sW)
      generalize upd H3 W (.tup [V.str "from", V.str "to"]) = H4 at s4 k4 el4 hL4 eW ⊢
      refine ⟨W, rfl, ⟨_, .inl (.inl eW)⟩, for_it (walk_tup (xs := [true, false].map fun b => V.str (word b))) (fun j σ H' => (∃ u4 u5, σ = [some (.ref t), some (.ref l), some (.int (k : Int)), some (.int n), u4, u5]) ∧ Same H H' ∧ KT H4 H' ∧ ∃ M, H' l = some (.lst (sdR M)) ∧ SdsAt H' M ∧ M.map (·.2) = (List.range k).flatMap (sidesS tops) ++ ([true, false].take j).flatMap (lineS k (cntT tops k)) ∧ M.length ≤ 8 * k + 4 * j) ⟨⟨_, _, rfl⟩, s4, KT.refl _, L, el4, hL4, by rw [List.take_zero, List.flatMap_nil, List.append_nil]; exact eL, lL⟩ (fun j σ H' _ y => .inl (.inl (y.2.2.1 _ _ eW))) (fun j v σ H5x H5 hj y z => ?_) (fun σ H5 y => ?_)⟩
      · obtain ⟨⟨u4, u5, rfl⟩, s5, k5, M, eM, hM, emM, lM⟩ := y
        obtain ⟨rfl, gv⟩ := z
        obtain ⟨b, eb, rfl⟩ := mapGet gv
        have hj2 : j < 2 := hj
        have hl2 : ∀ M : List (Addr × Sd), M.length ≤ 40 → ((sdR M).length : Nat) ≤ 40 := fun M h => by
          show (M.map fun z => V.ref z.1).length ≤ 40
          rw [List.length_map]
          exact h
        have lcl : ∀ H7 D (N : List (Addr × Sd)), Same H5 H7 → H5 D = none → H7 D = some (.lst (sdR N)) → SdsAt H7 N → N.map (·.2) = lineS k (cntT tops k) b → N.length ≤ 4 → Same H (upd H7 l (.lst (sdR M ++ sdR N))) ∧ KT H4 (upd H7 l (.lst (sdR M ++ sdR N))) ∧ ∃ M', (upd H7 l (.lst (sdR M ++ sdR N))) l = some (.lst (sdR M')) ∧ SdsAt (upd H7 l (.lst (sdR M ++ sdR N))) M' ∧ M'.map (·.2) = (List.range k).flatMap (sidesS tops) ++ ([true, false].take (j + 1)).flatMap (lineS k (cntT tops k)) ∧ M'.length ≤ 8 * k + 4 * (j + 1) := fun H7 D N s7 nD eD hN eN lN => by
          have eM7 := s7 _ _ eM
          have kU : Keep H7 (upd H7 l (.lst (sdR M ++ sdR N))) := .upd eM7
          refine ⟨same_over (s5.trans s7) nl, (k5.trans (.same s7)).trans (.of kU), M ++ N, by rw [upd_same]; show _ = some (HO.lst ((M ++ N).map _)); rw [List.map_append], ((hM.keep (.same s7)).app hN).keep kU, ?_, by rw [List.length_append]; omega⟩
          rw [List.map_append, emM, eN, List.take_add_one, eb, List.flatMap_append, List.append_assoc]
          congr 2
          show _ = [b].flatMap _
          simp
        refine ⟨.ref l, rfl, .inl ⟨rfl, _, .inl (.inl eM)⟩, _, rfl, _, 1, rfl, rfl, n + 1, rfl, by omega, by omega, fun D nD => ?_⟩
        refine lc_it walk_range (fun m H' => Same H5 H' ∧ ∃ N, H' D = some (.lst (sdR N)) ∧ SdsAt H' N ∧ N.map (·.2) = (List.range m).map (fun p : Nat => (k, b, (p : Int))) ∧ N.length = m) ⟨same_new nD, [], upd_same, (fun z hz => absurd hz List.not_mem_nil), rfl, rfl⟩ (fun _ _ _ _ => trivial) (fun m v H6x H6 hm y z => ?_) (fun H6 y => ?_)
        · obtain ⟨s6, N, eD, hN, eN, lN⟩ := y
          obtain ⟨rfl, rfl⟩ := z
          refine ⟨wipe_one, _, rfl, _, rfl, _, rfl, (show 3 ≤ sizeLine by decide), fun g ng => ?_⟩
          have sg := same_new (o := HO.tup [V.int (k : Int), V.str (word b), V.int (0 + (m : Int))]) ng
          have eD' := sg _ _ eD
          have hg : SideAt (upd H6 g (.tup [V.int (k : Int), V.str (word b), V.int (0 + (m : Int))])) g (k, b, (m : Int)) := by
            show _ = some (HO.tup [V.int (k : Int), V.str (word b), V.int (m : Int)])
            rw [upd_same, Int.zero_add]
          refine ⟨_, eD', by show (N.map fun z => V.ref z.1).length < sizeLine; rw [List.length_map]; exact small1000 (by omega), same_over (s6.trans sg) nD, N ++ [(g, (k, b, (m : Int)))], by rw [upd_same]; show _ = some (HO.lst ((N ++ [_]).map _)); rw [List.map_append]; rfl, ?_, ?_, by rw [List.length_append, lN]; rfl⟩
          · refine ((hN.keep (.same sg)).app (fun z hz => ?_)).keep (.upd eD')
            obtain rfl := List.mem_singleton.mp hz
            exact hg
          · rw [List.map_append, eN, List.range_succ, List.map_append]
            rfl
        · obtain ⟨s6, N, eD, hN, eN, lN⟩ := y
          have en : (n + 1).toNat = cntT tops k := by
            unfold cntT
            rw [epn]
            omega
          rw [en] at eN lN
          have lN4 : N.length ≤ 4 := by
            rw [lN]
            unfold cntT
            rw [epn]
            omega
          obtain ⟨i1, i2, i3⟩ := lcl H6 D N s6 nD eD hN eN lN4
          exact ⟨l, D, _, _, rfl, rfl, s6 _ _ eM, eD, by show (M.map fun z => V.ref z.1).length + (N.map fun z => V.ref z.1).length ≤ _; rw [List.length_map, List.length_map]; exact Nat.le_of_lt (small1000 (by omega)), ⟨_, _, rfl⟩, i1, i2, i3⟩
      · obtain ⟨⟨u4, u5, rfl⟩, s5, k5, M, eM, hM, emM, lM⟩ := y
        refine ⟨⟨_, _, _, _, rfl⟩, s5, k4.trans k5, M, eM, hM, ?_, ?_⟩
        · rw [emM, List.range_succ, List.flatMap_append, List.flatMap_cons, List.flatMap_nil, List.append_nil]
          rfl
        · have : ([true, false].map fun b => V.str (word b)).length = 2 := rfl
          rw [this] at lM
          omega
    · obtain ⟨⟨u2, u3, u4, u5, rfl⟩, s2, k2, L, el, hL, eL, lL⟩ := y
      rw [List.length_map] at eL
      exact ⟨.ref l, rfl, q H2 l L s2 nl el hL eL⟩
end
end K11

set_option Elab.async false
set_option linter.all false
set_option maxRecDepth 100000
namespace K11
open PySem PySem.Spec PyProof.Rows L2 NB

/-! ### roads -/
def scRd : Scope := { kind := .function, names := [(".0", .local), ("_law_one", .cell), ("_law_rules", .cell), ("_law_sides", .cell), ("_law_tops_here", .cell)], isGenerator := false, isCoroutine := false }
theorem put_fold (k : List Key) : ∀ (ms acc : List (List Key × V)), (∃ v, (k, v) ∈ ms ∧ valV (ms.foldl (fun acc kv => putK acc kv.1 kv.2) acc) k = some v) ∨ (k ∉ ms.map (·.1) ∧ valV (ms.foldl (fun acc kv => putK acc kv.1 kv.2) acc) k = valV acc k)
  | [], acc => .inr ⟨List.not_mem_nil, rfl⟩
  | m :: ms, acc => by
    rcases put_fold k ms (putK acc m.1 m.2) with ⟨v, hv, e⟩ | ⟨n, e⟩
    · exact .inl ⟨v, List.mem_cons_of_mem _ hv, e⟩
    · rw [valV_put] at e
      by_cases c : k = m.1
      · rw [if_pos c] at e
        refine .inl ⟨m.2, ?_, e⟩
        rw [c]
        exact List.mem_cons_self
      · rw [if_neg c] at e
        refine .inr ⟨fun h => ?_, e⟩
        rw [List.map_cons] at h
        rcases List.mem_cons.mp h with h | h
        · exact c h
        · exact n h
theorem put_at {ms : List (List Key × V)} {k : List Key} (h : k ∈ ms.map (·.1)) : ∃ v, (k, v) ∈ ms ∧ valV (putAll ms) k = some v := by
  rcases put_fold k ms [] with h' | ⟨n, _⟩
  · exact h'
  · exact absurd h n
theorem put_key {ms : List (List Key × V)} {p : List Key × V} (h : p ∈ putAll ms) : p.1 ∈ ms.map (·.1) := by
  rcases put_fold p.1 ms [] with ⟨v, hv, _⟩ | ⟨_, e⟩
  · exact List.mem_map.mpr ⟨_, hv, rfl⟩
  · exfalso
    have h1 : ((putAll ms).any fun kv => decide (kv.1 = p.1)) = true := List.any_eq_true.mpr ⟨p, h, decide_eq_true rfl⟩
    rw [valV_any] at h1
    have e' : valV (putAll ms) p.1 = none := e
    rw [e'] at h1
    cases h1
structure LstS (tops : List Int) (H : Hp) (l : Addr) (L : List (Addr × Sd)) : Prop where
  el : H l = some (.lst (sdR L))
  at' : SdsAt H L
  ok : ∀ z ∈ L, SideOk tops z.2
  ne : L ≠ []
  len : L.length ≤ 32
theorem LstS.same {tops : List Int} {H H' : Hp} {l : Addr} {L : List (Addr × Sd)} (h : LstS tops H l L) (s : Same H H') : LstS tops H' l L := ⟨s _ _ h.el, h.at'.keep (.same s), h.ok, h.ne, h.len⟩
theorem LstS.nep {tops : List Int} {H : Hp} {l p : Addr} {c : Nat} {L : List (Addr × Sd)} (h : LstS tops H l L) (pp : PotAt H p c) : l ≠ p := by
  rintro rfl
  obtain ⟨a1, a2, a3, e, _⟩ := pp
  have e2 := h.el
  rw [e] at e2
  cases L with
  | nil => exact h.ne rfl
  | cons z L =>
    injection e2 with e2
    injection e2 with e2
    injection e2 with e3 e4
    cases e3
theorem LstS.but {tops : List Int} {H H' : Hp} {l p : Addr} {c : Nat} {L : List (Addr × Sd)} (h : LstS tops H l L) (b : But p H H') (pp : PotAt H p c) : LstS tops H' l L := ⟨b _ _ (h.nep pp) h.el, h.at'.keep (Keep.but b pp), h.ok, h.ne, h.len⟩
/-- a list of all sides that one leads to -/
def LdTo (tops : List Int) (rs : List Rl) (s : Sd) (M : List (Addr × Sd)) : Prop := ∀ y, y ∈ M.map (·.2) ↔ SideOk tops y ∧ ldsB tops rs s y = true
structure Rds (tops : List Int) (rs : List Rl) (H : Hp) (d : Addr) (kvs : List (List Key × V)) : Prop where
  ed : H d = some (.dT kvs)
  keys : ∀ p ∈ kvs, ∃ s, p.1 = KS s ∧ SideOk tops s
  ne : kvs ≠ []
  len : kvs.length ≤ 32
  at' : ∀ s, SideOk tops s → ∃ l L, valV kvs (KS s) = some (.ref l) ∧ LstS tops H l L ∧ LdTo tops rs s L
theorem Rds.same {tops : List Int} {rs : List Rl} {H H' : Hp} {d : Addr} {kvs : List (List Key × V)} (h : Rds tops rs H d kvs) (s : Same H H') : Rds tops rs H' d kvs := ⟨s _ _ h.ed, h.keys, h.ne, h.len, fun z hz => by
  obtain ⟨l, L, e, x, y⟩ := h.at' z hz
  exact ⟨l, L, e, x.same s, y⟩⟩
theorem Rds.but {tops : List Int} {rs : List Rl} {H H' : Hp} {d p : Addr} {c : Nat} {kvs : List (List Key × V)} (h : Rds tops rs H d kvs) (b : But p H H') (pp : PotAt H p c) : Rds tops rs H' d kvs := ⟨b _ _ (fun z => by
    obtain ⟨a1, a2, a3, e, _⟩ := pp
    have := h.ed
    rw [z, e] at this
    cases this) h.ed, h.keys, h.ne, h.len, fun z hz => by
  obtain ⟨l, L, e, x, y⟩ := h.at' z hz
  exact ⟨l, L, e, x.but b pp, y⟩⟩
theorem keys_ok {H : Hp} {tops : List Int} : ∀ {kvs : List (List Key × V)} {bs : List Addr}, IsKeys H kvs bs → (∀ p ∈ kvs, ∃ s, p.1 = KS s ∧ SideOk tops s) → ∃ L : List (Addr × Sd), sdR L = bs.map V.ref ∧ SdsAt H L ∧ (∀ z ∈ L, SideOk tops z.2) ∧ L.length = kvs.length
  | [], bs, h, _ => by
    cases h
    exact ⟨[], rfl, (fun _ h => absurd h List.not_mem_nil), (fun _ h => absurd h List.not_mem_nil), rfl⟩
  | p :: kvs, bs, h, k => by
    cases h with
    | cons a h =>
      obtain ⟨s, e, ok⟩ := k p List.mem_cons_self
      obtain ⟨L, e1, e2, e3, e4⟩ := keys_ok h fun y hy => k y (List.mem_cons_of_mem _ hy)
      refine ⟨(_, s) :: L, congrArg (V.ref _ :: ·) e1, fun z hz => ?_, fun z hz => ?_, by rw [List.length_cons, List.length_cons, e4]⟩
      · rcases List.mem_cons.mp hz with rfl | hz
        · rw [e] at a
          exact a
        · exact e2 z hz
      · rcases List.mem_cons.mp hz with rfl | hz
        · exact ok
        · exact e3 z hz
theorem unit8' {n : Nat} (h : n + 64 < cLine) : n + 8 < cLine := by omega
theorem lds_self {tops : List Int} {rs : List Rl} (s : Sd) : ldsB tops rs s s = true := by
  have : withinB tops s s = true := by
    unfold withinB
    rw [decide_eq_true rfl, decide_eq_true (Int.le_refl _), decide_eq_true (Int.le_refl _)]
    rfl
  unfold ldsB
  rw [this, Bool.true_or]
section
variable {P : Program} {w : World} {K : PySem.W.Frag} {mg : Str → Option Value} {base : Heap}
def spRds : Sp := fun vs H Q _ => ∃ (t R : Addr) (tops : List Int) (rs : List Rl), vs = [.ref t, .ref R] ∧ H t = some (.tup (tops.map V.int)) ∧ RulesAt H R rs ∧ Few tops ∧ 1 ≤ tops.length ∧ tops.length ≤ 4 ∧ (∀ q ∈ rs, RuleOk tops q) ∧
  ∀ H' d kvs, Same H H' → Rds tops rs H' d kvs → Q (.ref d) H'
abbrev a__law_roads : Stmt := topS 48
abbrev n__law_roads : List Str := ["_law_tops_here", "_law_rules", "_law_sides", "_law_one", "_law_side_here"]
theorem sc__law_roads : FnScope n__law_roads ["_law_tops_here", "_law_rules"] (defScope a__law_roads) := ⟨rfl, rfl, rfl, by decide +kernel, rfl, by decide +kernel, by decide +kernel⟩
set_option maxHeartbeats 8000000 in
theorem ok__law_roads {f fAs fLl : Addr} {fd fdAs fdLl : FuncData} {k : Nat}  (F : Fun K "_law_roads" "_law_roads" a__law_roads f fd) (As : Kn P w K mg base 1 "_law_all_sides" ["_law_tops_here"] spAS fAs fdAs) (Ll : Kn P w K mg base 3 "_law_leads" ["_law_tops_here", "_law_rules", "_law_one", "_law_other"] spLdL fLl fdLl)  (m_dict : mg "dict" = none) : FnOk P w K mg base CX0 (k + 4) f fd ["_law_tops_here", "_law_rules"] spRds := by
  refine F.ok sc__law_roads (fun vs H Q E h => ?_) (fun cdv A outer s H vs Q E hr h => ?_)
  · obtain ⟨t, R, tops, rs, rfl, _⟩ := h
    rfl
  · obtain ⟨t, R, tops, rs, rfl, et, hR, fw, l1, l4, rok, q⟩ := h
    refine ⟨_, (pss_cons (ps_set (i := 2) sc__law_roads.nd rfl (.inr rfl) (pe_kn As hr (by omega) (pa_cons (pv 0) pa_nil)))
      (pss_one (ps_ret (pe_callTy (call_dictT rfl (unit8' hr.units)) (by rfl) m_dict (by decide +kernel) (pa_cons (
        pe_lc (own := [("_law_one", 3)]) (g := (gName 3)) (tt := tYes) (te := (tTup (tCons (tVar 3) (tCons (tLc (iList K (tVar 2)) (gName 4) (tB (tCall spLdL [] E0 (tCons (tVar 0) (tCons (tVar 1) (tCons (tVar 3) (tCons (tVar 4) tNil)))))) (tVar 4) [4]) tNil)))) rfl sc__law_roads.nd (pi_list (pv 2)) (blkOk_by (N := n__law_roads) (sc := defScope a__law_roads) (by decide +kernel))
          (fun _ _ _ _ _ => (pg_name (i := 3) sc__law_roads.nd rfl (.inr rfl) (hf := .inl rfl))) (fun _ _ _ _ _ => pts_nil) (fun _ _ _ _ _ => (pe_tup (pa_cons (pv 3) (pa_cons (
        pe_lc (own := [("_law_side_here", 4)]) (g := (gName 4)) (tt := (tB (tCall spLdL [] E0 (tCons (tVar 0) (tCons (tVar 1) (tCons (tVar 3) (tCons (tVar 4) tNil))))))) (te := (tVar 4)) rfl sc__law_roads.nd (pi_list (pv 2)) (blkOk_by (N := n__law_roads) (sc := scRd) (by decide +kernel))
          (fun _ _ _ _ _ => (pg_name (i := 4) sc__law_roads.nd rfl (.inl rfl) (hf := .inr rfl))) (fun _ _ _ _ _ => pts_one (pt_val (pe_kn Ll hr (by omega) (pa_cons (pv 0) (pa_cons (pv 1) (pa_cons (pv 3) (pa_cons (pv 4) pa_nil))))))) (fun _ _ _ _ _ => (pv 4))) pa_nil))))) pa_nil))))), ?_⟩
    refine ⟨.ref t, rfl, t, tops, rfl, et, fw, l4, fun H1 l L s1 nl el hL eL => ?_⟩
    have et1 := s1 _ _ et
    have hR1 := hR.keep (.same s1)
    have lL : L.length ≤ 32 := by
      have h := allS_len fw
      rw [← eL, List.length_map] at h
      omega
    have okL : ∀ z ∈ L, SideOk tops z.2 := fun z hz => (allS_ok fw).mp (by rw [← eL]; exact List.mem_map.mpr ⟨z, hz, rfl⟩)
    refine ⟨.ref l, rfl, l, rfl, ⟨_, .inl (.inl el)⟩, fun D nD => lc_it (walk_list (xs := sdR L)) (fun k H' => Same H1 H' ∧ ∃ E : List (Addr × Addr × List Key × V), H' D = some (.lst (E.map fun z => V.ref z.1)) ∧ E.length = k ∧ (E.map fun z => z.2.2.1) = (L.take k).map (fun z => KS z.2) ∧ ∀ z ∈ E, H' z.1 = some (.tup [.ref z.2.1, z.2.2.2]) ∧ H' z.2.1 = some (.tup (z.2.2.1.map kV)) ∧ ∃ l' M s, z.2.2.2 = .ref l' ∧ LstS tops H' l' M ∧ z.2.2.1 = KS s ∧ LdTo tops rs s M) ⟨same_new nD, [], upd_same, rfl, rfl, fun z hz => absurd hz List.not_mem_nil⟩ (fun k H' _ y => .inl (.inl (y.1 _ _ el))) (fun k v H2x H2 hk y z => ?_) (fun H2 y => ?_)⟩
    · obtain ⟨s2, E, eD, lE, kE, hE⟩ := y
      obtain ⟨rfl, gv⟩ := z
      obtain ⟨z, ez, rfl⟩ := mapGet gv
      have mz := List.mem_of_getElem? ez
      have el2 := s2 _ _ el
      refine ⟨wipe_one, _, rfl, _, rfl, l, rfl, ⟨_, .inl (.inl el2)⟩, fun B nB => lc_it (walk_list (xs := sdR L)) (fun j H' => Same H2 H' ∧ ∃ M : List (Addr × Sd), H' B = some (.lst (sdR M)) ∧ (∀ y ∈ M, y ∈ L) ∧ M.length ≤ j ∧ (∀ y ∈ L.take j, y.2 = z.2 → M ≠ []) ∧ (∀ y ∈ M, ldsB tops rs z.2 y.2 = true) ∧ ∀ y ∈ L.take j, ldsB tops rs z.2 y.2 = true → y ∈ M) ⟨same_new nB, [], upd_same, (fun y hy => absurd hy List.not_mem_nil), Nat.le_refl _, (fun y hy => absurd hy (by simp)), (fun y hy => absurd hy List.not_mem_nil), fun y hy => absurd hy (by simp)⟩ (fun j H' _ y => .inl (.inl (y.1 _ _ el2))) (fun j v H3x H3 hj y x => ?_) (fun H3 y => ?_)⟩
      · obtain ⟨s3, M, eB, sub, lM, neM, al, in'⟩ := y
        obtain ⟨rfl, gv⟩ := x
        obtain ⟨y, ey, rfl⟩ := mapGet gv
        have my := List.mem_of_getElem? ey
        have s13 := s2.trans s3
        have hj' : j < L.length := (List.getElem?_eq_some_iff.mp ey).1
        refine ⟨wipe_one (n := "_law_side_here"), _, rfl, _, rfl, _, rfl, _, rfl, t, R, z.1, y.1, tops, rs, z.2, y.2, rfl, s13 _ _ et1, hR1.keep (.same s13), (hL z mz).keep (.same s13), (hL y my).keep (.same s13), okL z mz, okL y my, fw, rok, fun H4 s4 => ⟨_, rfl, ?_⟩⟩
        have s34 := s3.trans s4
        have eB4 := s4 _ _ eB
        cases cl : ldsB tops rs z.2 y.2 with
        | true =>
          refine iteT ⟨_, rfl, _, eB4, by show (M.map fun z => V.ref z.1).length < sizeLine; rw [List.length_map]; exact small1000 (by omega), same_over s34 nB, M ++ [y], by rw [upd_same]; show some (HO.lst (M.map _ ++ _)) = some (HO.lst ((M ++ [y]).map _)); rw [List.map_append]; rfl, fun x hx => ?_, by rw [List.length_append]; exact Nat.succ_le_succ lM, (fun x hx ex => by simp), (fun x hx => ?_), fun x hx lx => ?_⟩
          rotate_left
          · rcases List.mem_append.mp hx with h | h
            · exact al x h
            · rw [List.mem_singleton.mp h]
              exact cl
          · rw [List.take_add_one, ey] at hx
            rcases List.mem_append.mp hx with h | h
            · exact List.mem_append_left _ (in' x h lx)
            · have : x = y := by simpa using h
              rw [this]
              exact List.mem_append_right _ (List.mem_singleton.mpr rfl)
          rcases List.mem_append.mp hx with h | h
          · exact sub x h
          · rw [List.mem_singleton.mp h]
            exact my
        | false =>
          refine iteF ⟨s34, M, eB4, sub, by omega, (fun x hx ex => ?_), al, fun x hx lx => ?_⟩
          rotate_left
          · rw [List.take_add_one, ey] at hx
            rcases List.mem_append.mp hx with h | h
            · exact in' x h lx
            · have : x = y := by simpa using h
              rw [this, cl] at lx
              cases lx
          rw [List.take_add_one, ey] at hx
          rcases List.mem_append.mp hx with h | h
          · exact neM x h ex
          · have : x = y := by simpa using h
            rw [← this, ex, lds_self] at cl
            cases cl
      · obtain ⟨s3, M, eB, sub, lM, neM, al, in'⟩ := y
        have lr : (sdR L).length = L.length := List.length_map _
        rw [lr, List.take_length] at neM in'
        have ld : LdTo tops rs z.2 M := fun y => ⟨fun hy => by
          obtain ⟨x, hx, rfl⟩ := List.mem_map.mp hy
          exact ⟨okL x (sub x hx), al x hx⟩, fun ⟨oy, ly⟩ => by
          have := (allS_ok fw).mpr oy
          rw [← eL] at this
          obtain ⟨x, hx, rfl⟩ := List.mem_map.mp this
          exact List.mem_map.mpr ⟨x, in' x hx ly, rfl⟩⟩
        rw [lr] at lM
        have neM' := neM z mz rfl
        refine ⟨(show 2 ≤ sizeLine by decide), fun T nT => ?_⟩
        have sT := same_new (o := HO.tup [V.ref z.1, V.ref B]) nT
        have s13 := s2.trans s3
        have s3T := s3.trans sT
        have eD' := s3T _ _ eD
        have hM : LstS tops (upd H3 T (.tup [V.ref z.1, V.ref B])) B M := ⟨sT _ _ eB, fun y hy => (hL y (sub y hy)).keep (.same (s13.trans sT)), fun y hy => okL y (sub y hy), neM', by omega⟩
        have hz : SideAt (upd H3 T (.tup [V.ref z.1, V.ref B])) z.1 z.2 := (hL z mz).keep (.same (s13.trans sT))
        have eT : (upd H3 T (.tup [V.ref z.1, V.ref B])) T = some (.tup [V.ref z.1, V.ref B]) := upd_same
        have s1T := s13.trans sT
        have nBD : D ≠ B := ne_of_none eD nB
        generalize upd H3 T (.tup [V.ref z.1, V.ref B]) = H4 at sT s3T eD' hM hz eT s1T ⊢
        have kU : Keep H4 (upd H4 D (.lst (E.map (fun z => V.ref z.1) ++ [V.ref T]))) := .upd eD'
        have up : ∀ l' M', l' ≠ D → LstS tops H4 l' M' → LstS tops (upd H4 D (.lst (E.map (fun z => V.ref z.1) ++ [V.ref T]))) l' M' := fun l' M' ne h => ⟨(upd_ne ne).trans h.el, h.at'.keep kU, h.ok, h.ne, h.len⟩
        have lD : ∀ l' M', LstS tops H4 l' M' → l' ≠ D := fun l' M' h ee => by
          have h1 := h.el
          rw [ee, eD'] at h1
          have h2 : E.map (fun z => V.ref z.1) = sdR M' := by
            injection h1 with h1
            injection h1
          cases M' with
          | nil => exact h.ne rfl
          | cons y M' =>
            cases E with
            | nil => cases h2
            | cons x E =>
              have h3 : V.ref x.1 = V.ref y.1 := (List.cons.inj h2).1
              have h4 : x.1 = y.1 := by injection h3
              have h5 := s3T _ _ (hE x List.mem_cons_self).1
              have h6 : H4 y.1 = some (.tup [.int (y.2.1 : Int), .str (word y.2.2.1), .int y.2.2.2]) := h.at' y List.mem_cons_self
              rw [h4, h6] at h5
              cases h5
        refine ⟨_, eD', by rw [List.length_map]; exact small1000 (by omega), same_over s1T nD, E ++ [(T, z.1, KS z.2, V.ref B)], by rw [upd_same, List.map_append]; rfl, by rw [List.length_append, lE]; rfl, ?_, fun x hx => ?_⟩
        · rw [List.map_append, kE, List.take_add_one, ez, List.map_append]
          rfl
        · rcases List.mem_append.mp hx with h | h
          · obtain ⟨x1, x2, l', M', s, x3, x4, x5⟩ := hE x h
            exact ⟨kU.tup (s3T _ _ x1), kU.tup (s3T _ _ x2), l', M', s, x3, up _ _ (lD _ _ (x4.same s3T)) (x4.same s3T), x5⟩
          · obtain rfl := List.mem_singleton.mp h
            exact ⟨kU.tup eT, kU.tup hz, B, M, z.2, rfl, up _ _ nBD.symm hM, rfl, ld⟩
    · obtain ⟨s2, E, eD, lE, kE, hE⟩ := y
      have lr : (sdR L).length = L.length := List.length_map _
      rw [lr] at lE
      rw [lr, List.take_length] at kE
      refine ⟨D, E, rfl, eD, fun z hz => ⟨(hE z hz).1, (hE z hz).2.1⟩, fun p np => ?_⟩
      have sp := same_new (o := HO.dT (putAll (E.map fun z => (z.2.2.1, z.2.2.2)))) np
      have ek : (E.map fun z => (z.2.2.1, z.2.2.2)).map (·.1) = L.map fun z => KS z.2 := by
        rw [List.map_map]
        exact kE
      refine q _ p (putAll (E.map fun z => (z.2.2.1, z.2.2.2))) ((s1.trans s2).trans sp) ⟨upd_same, fun y hy => ?_, fun e0 => ?_, ?_, fun s ok => ?_⟩
      · have h := put_key hy
        rw [ek] at h
        obtain ⟨z, hz, e⟩ := List.mem_map.mp h
        exact ⟨z.2, e.symm, okL z hz⟩
      · have ok0 : SideOk tops (0, true, 0) := by
          have h0 := fw.pl _ (List.getElem_mem (show 0 < tops.length by omega))
          rw [← plc_get (show 0 < tops.length by omega)] at h0
          exact SideOk.mk' (by omega) (Int.le_refl _) h0.1
        have m0 : KS (0, true, 0) ∈ (E.map fun z => (z.2.2.1, z.2.2.2)).map (·.1) := by
          rw [ek]
          have := (allS_ok fw).mpr ok0
          rw [← eL] at this
          obtain ⟨z, hz, e⟩ := List.mem_map.mp this
          exact List.mem_map.mpr ⟨z, hz, by rw [e]⟩
        obtain ⟨v, _, ev⟩ := put_at m0
        rw [e0] at ev
        cases ev
      · have := putAll_len (E.map fun z => (z.2.2.1, z.2.2.2)) []
        rw [List.length_map] at this
        have : (putAll (E.map fun z => (z.2.2.1, z.2.2.2))).length ≤ 0 + E.length := this
        omega
      · have m0 : KS s ∈ (E.map fun z => (z.2.2.1, z.2.2.2)).map (·.1) := by
          rw [ek]
          have := (allS_ok fw).mpr ok
          rw [← eL] at this
          obtain ⟨z, hz, e⟩ := List.mem_map.mp this
          exact List.mem_map.mpr ⟨z, hz, by rw [e]⟩
        obtain ⟨v, hv, ev⟩ := put_at m0
        obtain ⟨x, hx, ex⟩ := List.mem_map.mp hv
        obtain ⟨_, _, l', M, s', e3, x4, ks, ld⟩ := hE x hx
        have e5 : x.2.2.1 = KS s := congrArg Prod.fst ex
        have es : s' = s := KS_inj (ks.symm.trans e5)
        subst es
        have e4 : x.2.2.2 = v := congrArg Prod.snd ex
        rw [e4] at e3
        exact ⟨l', M, by rw [ev, e3], x4.same sp, ld⟩
end
end K11

set_option Elab.async false
set_option linter.all false
set_option maxRecDepth 100000
namespace K11
open PySem PySem.Spec PyProof.Rows L2 NB

/-! ### data and pots -/
theorem PotAt.lst {H : Hp} {a : Addr} {c : Nat} (h : PotAt H a c) : ∃ zs, H a = some (.lst zs) := by
  obtain ⟨p, q, r, e, _⟩ := h
  exact ⟨_, e⟩
theorem da_but {a : Addr} {H H' : Hp} {c : Nat} {v : V} {d : PyData} (h : Da a H v d) (p : PotAt H a c) (b : But a H H') : Da a H' v d := Da.keep p.lst b d v h
theorem daAll_but {a : Addr} {H H' : Hp} {c : Nat} {vs : List V} {ds : List PyData} (h : DaAll a H vs ds) (p : PotAt H a c) (b : But a H H') : DaAll a H' vs ds := DaAll.keep p.lst b ds vs h
theorem new_tup {n t : Addr} {H : Hp} {xs : List V} {ds : List PyData} (nt : H t = none) (h : DaAll n H xs ds) : Same H (upd H t (.tup xs)) ∧ Da n (upd H t (.tup xs)) (.ref t) (.tuple ds) := ⟨same_new nt, .tup upd_same (h.same (same_new nt))⟩
theorem new_lst {n t : Addr} {H : Hp} {xs : List V} {ds : List PyData} {c : Nat} (nt : H t = none) (ns : t ≠ sysModules) (p : PotAt H n c) (h : DaAll n H xs ds) : Same H (upd H t (.lst xs)) ∧ Da n (upd H t (.lst xs)) (.ref t) (.list ds) := ⟨same_new nt, .lst upd_same ns (p.ne nt) (h.same (same_new nt))⟩
theorem new_dct {n t : Addr} {H : Hp} (nt : H t = none) : Same H (upd H t (.dK [])) ∧ Da n (upd H t (.dK [])) (.ref t) (.dict []) := ⟨same_new nt, .dct upd_same .nil⟩
theorem but_same {a : Addr} {H H' H'' : Hp} (b : But a H H') (s : Same H' H'') : But a H H'' := b.trans (But.of s)
theorem wt_at {ds : List PyData} {i : Nat} {d : PyData} (h : ds[i]? = some d) : PyData.weightAll ds = PyData.weightAll (ds.take i) + (d.weight + 1) + PyData.weightAll (ds.drop (i + 1)) := by
  have hi := (List.getElem?_eq_some_iff.mp h).1
  have e : ds = ds.take i ++ (d :: ds.drop (i + 1)) := by
    have e2 := (List.getElem?_eq_some_iff.mp h).2
    rw [← e2, ← List.drop_eq_getElem_cons hi, List.take_append_drop]
  have := wt_app (ds.take i) (d :: ds.drop (i + 1))
  rw [← e] at this
  simp only [PyData.weightAll] at this
  omega
theorem wt_two (ds : List PyData) (i : Nat) : PyData.weightAll ds = PyData.weightAll (ds.take i) + PyData.weightAll (ds.drop i) := by
  have := wt_app (ds.take i) (ds.drop i)
  rw [List.take_append_drop] at this
  exact this
theorem SmE.mono {ds : List PyData} {k m : Nat} (h : SmE ds k) (le : k ≤ m) : SmE ds m := fun d hd => ⟨(h d hd).1, Nat.le_trans (h d hd).2.1 le, (h d hd).2.2⟩
theorem SmE.app {ds es : List PyData} {k : Nat} (h : SmE ds k) (h' : SmE es k) : SmE (ds ++ es) k := fun d hd => by
  rcases List.mem_append.mp hd with q | q
  · exact h d q
  · exact h' d q
theorem SmE.take {ds : List PyData} {k : Nat} (h : SmE ds k) (i : Nat) : SmE (ds.take i) k := fun d hd => h d (List.mem_of_mem_take hd)
theorem SmE.drop {ds : List PyData} {k : Nat} (h : SmE ds k) (i : Nat) : SmE (ds.drop i) k := fun d hd => h d (List.mem_of_mem_drop hd)
theorem SmE.one {d : PyData} {w k : Nat} (h : Sm d w k) : SmE [d] k := fun x hx => by
  rw [List.mem_singleton.mp hx]
  exact h.e
theorem SmE.ints {xs : List Int} (h : ∀ x ∈ xs, x.natAbs < 10 ^ 90) : SmE (xs.map PyData.int) 0 := fun d hd => by
  obtain ⟨x, hx, rfl⟩ := List.mem_map.mp hd
  exact (Sm.int (h x hx)).e
theorem wt_ints : ∀ {xs : List Int}, (∀ x ∈ xs, x.natAbs < 10 ^ 90) → PyData.weightAll (xs.map PyData.int) ≤ 311 * xs.length
  | [], _ => Nat.le_refl _
  | x :: xs, h => by
    have a := (Sm.int (h x List.mem_cons_self)).wt
    have b := wt_ints fun y hy => h y (List.mem_cons_of_mem _ hy)
    simp only [List.map_cons, PyData.weightAll, List.length_cons]
    omega

/-! ### data whose lists stand apart from all of E -/
mutual
inductive Db (E : Addr → Prop) (H : Hp) : V → PyData → Prop
  | non : Db E H .non .none
  | bl (b : Bool) : Db E H (.bl b) (.bool b)
  | int (i : Int) : Db E H (.int i) (.int i)
  | str (x : Str) : Db E H (.str x) (.str x)
  | lst {a : Addr} {xs : List V} {ds : List PyData} : H a = some (.lst xs) → a ≠ sysModules → ¬ E a → DbAll E H xs ds → Db E H (.ref a) (.list ds)
  | tup {a : Addr} {xs : List V} {ds : List PyData} : H a = some (.tup xs) → DbAll E H xs ds → Db E H (.ref a) (.tuple ds)
  | dct {a : Addr} : H a = some (.dK []) → Db E H (.ref a) (.dict [])
inductive DbAll (E : Addr → Prop) (H : Hp) : List V → List PyData → Prop
  | nil : DbAll E H [] []
  | cons {v : V} {vs : List V} {d : PyData} {ds : List PyData} : Db E H v d → DbAll E H vs ds → DbAll E H (v :: vs) (d :: ds)
end
mutual
theorem Db.keepD {E : Addr → Prop} {H H' : Hp} (k : ∀ b o, (∀ xs, o = .lst xs → ¬ E b) → H b = some o → H' b = some o) : ∀ (d : PyData) (v : V), Db E H v d → Db E H' v d
  | .none, _, h => by cases h; exact .non
  | .bool b, _, h => by cases h; exact .bl b
  | .int i, _, h => by cases h; exact .int i
  | .str x, _, h => by cases h; exact .str x
  | .list ds, _, h => by
    cases h with
    | lst e n1 n2 ha => exact .lst (k _ _ (fun _ _ => n2) e) n1 n2 (DbAll.keepD k ds _ ha)
  | .tuple ds, _, h => by
    cases h with
    | tup e ha => exact .tup (k _ _ (fun _ z => by cases z) e) (DbAll.keepD k ds _ ha)
  | .dict ds, _, h => by
    cases h with
    | dct e => exact .dct (k _ _ (fun _ z => by cases z) e)
theorem DbAll.keepD {E : Addr → Prop} {H H' : Hp} (k : ∀ b o, (∀ xs, o = .lst xs → ¬ E b) → H b = some o → H' b = some o) : ∀ (ds : List PyData) (vs : List V), DbAll E H vs ds → DbAll E H' vs ds
  | [], _, h => by cases h; exact .nil
  | d :: ds, _, h => by
    cases h with
    | cons h1 h2 => exact .cons (Db.keepD k d _ h1) (DbAll.keepD k ds _ h2)
end
mutual
theorem Db.daD {E : Addr → Prop} {H : Hp} {n : Addr} (En : E n) : ∀ (d : PyData) (v : V), Db E H v d → Da n H v d
  | .none, _, h => by cases h; exact .non
  | .bool b, _, h => by cases h; exact .bl b
  | .int i, _, h => by cases h; exact .int i
  | .str x, _, h => by cases h; exact .str x
  | .list ds, _, h => by
    cases h with
    | lst e n1 n2 ha => exact .lst e n1 (fun z => n2 (by rw [z]; exact En)) (DbAll.daD En ds _ ha)
  | .tuple ds, _, h => by
    cases h with
    | tup e ha => exact .tup e (DbAll.daD En ds _ ha)
  | .dict ds, _, h => by
    cases h with
    | dct e => exact .dct e .nil
theorem DbAll.daD {E : Addr → Prop} {H : Hp} {n : Addr} (En : E n) : ∀ (ds : List PyData) (vs : List V), DbAll E H vs ds → DaAll n H vs ds
  | [], _, h => by cases h; exact .nil
  | d :: ds, _, h => by
    cases h with
    | cons h1 h2 => exact .cons (Db.daD En d _ h1) (DbAll.daD En ds _ h2)
end
mutual
theorem Db.weakD {E E' : Addr → Prop} {H : Hp} (k : ∀ n, E' n → E n) : ∀ (d : PyData) (v : V), Db E H v d → Db E' H v d
  | .none, _, h => by cases h; exact .non
  | .bool b, _, h => by cases h; exact .bl b
  | .int i, _, h => by cases h; exact .int i
  | .str x, _, h => by cases h; exact .str x
  | .list ds, _, h => by
    cases h with
    | lst e n1 n2 ha => exact .lst e n1 (fun z => n2 (k _ z)) (DbAll.weakD k ds _ ha)
  | .tuple ds, _, h => by
    cases h with
    | tup e ha => exact .tup e (DbAll.weakD k ds _ ha)
  | .dict ds, _, h => by
    cases h with
    | dct e => exact .dct e
theorem DbAll.weakD {E E' : Addr → Prop} {H : Hp} (k : ∀ n, E' n → E n) : ∀ (ds : List PyData) (vs : List V), DbAll E H vs ds → DbAll E' H vs ds
  | [], _, h => by cases h; exact .nil
  | d :: ds, _, h => by
    cases h with
    | cons h1 h2 => exact .cons (Db.weakD k d _ h1) (DbAll.weakD k ds _ h2)
end
def only (p : Addr) : Addr → Prop := fun n => n = p
def twoA (p D : Addr) : Addr → Prop := fun n => n = p ∨ n = D
theorem Db.same {E : Addr → Prop} {H H' : Hp} {v : V} {d : PyData} (h : Db E H v d) (k : Same H H') : Db E H' v d := Db.keepD (fun b o _ e => k b o e) d v h
theorem DbAll.same {E : Addr → Prop} {H H' : Hp} {vs : List V} {ds : List PyData} (h : DbAll E H vs ds) (k : Same H H') : DbAll E H' vs ds := DbAll.keepD (fun b o _ e => k b o e) ds vs h
theorem Db.da {E : Addr → Prop} {H : Hp} {n : Addr} {v : V} {d : PyData} (h : Db E H v d) (En : E n) : Da n H v d := Db.daD En d v h
theorem but_keep {E : Addr → Prop} {H H' : Hp} {a : Addr} {c : Nat} (Ea : E a) (p : PotAt H a c) (b : But a H H') : ∀ z o, (∀ xs, o = .lst xs → ¬ E z) → H z = some o → H' z = some o := fun z o n e => b z o (fun za => by
  obtain ⟨p1, p2, p3, ea, _⟩ := p
  rw [za, ea] at e
  cases e
  exact n _ rfl (by rw [za]; exact Ea)) e
theorem db_but {E : Addr → Prop} {a : Addr} {H H' : Hp} {c : Nat} {v : V} {d : PyData} (h : Db E H v d) (Ea : E a) (p : PotAt H a c) (b : But a H H') : Db E H' v d := Db.keepD (but_keep Ea p b) d v h
theorem dbAll_but {E : Addr → Prop} {a : Addr} {H H' : Hp} {c : Nat} {vs : List V} {ds : List PyData} (h : DbAll E H vs ds) (Ea : E a) (p : PotAt H a c) (b : But a H H') : DbAll E H' vs ds := DbAll.keepD (but_keep Ea p b) ds vs h
/-- a list of E may be changed -/
theorem db_upd {E : Addr → Prop} {D : Addr} {H : Hp} {xs : List V} {o : HO} {v : V} {d : PyData} (h : Db E H v d) (ED : E D) (e : H D = some (.lst xs)) : Db E (upd H D o) v d := Db.keepD (fun z u n q => (upd_ne (fun zD => by
  rw [zD, e] at q
  cases q
  exact n _ rfl (by rw [zD]; exact ED))).trans q) d v h
theorem DbAll.len {E : Addr → Prop} {H : Hp} {vs : List V} {ds : List PyData} (h : DbAll E H vs ds) : vs.length = ds.length := by
  induction ds generalizing vs with
  | nil => cases h; rfl
  | cons d ds ih =>
    cases h with
    | cons h1 h2 => rw [List.length_cons, List.length_cons, ih h2]
theorem DbAll.get {E : Addr → Prop} {H : Hp} {vs : List V} {ds : List PyData} (h : DbAll E H vs ds) (i : Nat) (v : V) (e : vs[i]? = some v) : ∃ d, ds[i]? = some d ∧ Db E H v d := by
  induction ds generalizing vs i with
  | nil => cases h; simp at e
  | cons d ds ih =>
    cases h with
    | cons h1 h2 =>
      cases i with
      | zero => exact ⟨d, rfl, by cases e; exact h1⟩
      | succ i => exact ih h2 i e
theorem DbAll.app {E : Addr → Prop} {H : Hp} {vs us : List V} {ds es : List PyData} (h : DbAll E H vs ds) (h' : DbAll E H us es) : DbAll E H (vs ++ us) (ds ++ es) := by
  induction ds generalizing vs with
  | nil => cases h; exact h'
  | cons d ds ih =>
    cases h with
    | cons h1 h2 => exact .cons h1 (ih h2)
theorem DbAll.take {E : Addr → Prop} {H : Hp} {vs : List V} {ds : List PyData} (h : DbAll E H vs ds) (i : Nat) : DbAll E H (vs.take i) (ds.take i) := by
  induction ds generalizing vs i with
  | nil => cases h; simp only [List.take_nil]; exact .nil
  | cons d ds ih =>
    cases h with
    | cons h1 h2 =>
      cases i with
      | zero => simp only [List.take_zero]; exact .nil
      | succ i => simp only [List.take_succ_cons]; exact .cons h1 (ih h2 i)
theorem DbAll.drop {E : Addr → Prop} {H : Hp} {vs : List V} {ds : List PyData} (h : DbAll E H vs ds) (i : Nat) : DbAll E H (vs.drop i) (ds.drop i) := by
  induction ds generalizing vs i with
  | nil => cases h; simp only [List.drop_nil]; exact .nil
  | cons d ds ih =>
    cases h with
    | cons h1 h2 =>
      cases i with
      | zero => simp only [List.drop_zero]; exact .cons h1 h2
      | succ i => simp only [List.drop_succ_cons]; exact ih h2 i
theorem DbAll.rev {E : Addr → Prop} {H : Hp} {vs : List V} {ds : List PyData} (h : DbAll E H vs ds) : DbAll E H vs.reverse ds.reverse := by
  induction ds generalizing vs with
  | nil => cases h; exact .nil
  | cons d ds ih =>
    cases h with
    | cons h1 h2 =>
      rw [List.reverse_cons, List.reverse_cons]
      exact (ih h2).app (.cons h1 .nil)
/-- the lists of E are there -/
def There (E : Addr → Prop) (H : Hp) : Prop := ∀ n, E n → ∃ o, H n = some o
theorem There.keep {E : Addr → Prop} {H H' : Hp} (h : There E H) (k : ∀ n o, H n = some o → ∃ o', H' n = some o') : There E H' := fun n hn => by
  obtain ⟨o, e⟩ := h n hn
  exact k n o e
theorem There.same {E : Addr → Prop} {H H' : Hp} (h : There E H) (s : Same H H') : There E H' := h.keep fun n o e => ⟨o, s n o e⟩
theorem There.but {E : Addr → Prop} {H H' : Hp} {a : Addr} {c : Nat} (h : There E H) (b : But a H H') (p : PotAt H' a c) : There E H' := h.keep fun n o e => by
  by_cases z : n = a
  · obtain ⟨_, _, _, ea, _⟩ := p
    exact ⟨_, by rw [z]; exact ea⟩
  · exact ⟨o, b n o z e⟩
theorem newb_tup {E : Addr → Prop} {t : Addr} {H : Hp} {xs : List V} {ds : List PyData} (nt : H t = none) (h : DbAll E H xs ds) : Same H (upd H t (.tup xs)) ∧ Db E (upd H t (.tup xs)) (.ref t) (.tuple ds) := ⟨same_new nt, .tup upd_same (h.same (same_new nt))⟩
theorem newb_lst {E : Addr → Prop} {t : Addr} {H : Hp} {xs : List V} {ds : List PyData} (nt : H t = none) (ns : t ≠ sysModules) (th : There E H) (h : DbAll E H xs ds) : Same H (upd H t (.lst xs)) ∧ Db E (upd H t (.lst xs)) (.ref t) (.list ds) := ⟨same_new nt, .lst upd_same ns (fun z => by
  obtain ⟨o, e⟩ := th t z
  rw [nt] at e
  cases e) (h.same (same_new nt))⟩
theorem newb_dct {E : Addr → Prop} {t : Addr} {H : Hp} (nt : H t = none) : Same H (upd H t (.dK [])) ∧ Db E (upd H t (.dK [])) (.ref t) (.dict []) := ⟨same_new nt, .dct upd_same⟩
theorem there_one {p : Addr} {H : Hp} {c : Nat} (h : PotAt H p c) : There (only p) H := fun n hn => by
  obtain ⟨_, _, _, ea, _⟩ := h
  exact ⟨_, by rw [show n = p from hn]; exact ea⟩
theorem there_two {p D : Addr} {H : Hp} {c : Nat} {o : HO} (h : PotAt H p c) (e : H D = some o) : There (twoA p D) H := fun n hn => by
  rcases hn with hn | hn
  · exact there_one h n hn
  · exact ⟨_, by rw [hn]; exact e⟩

/-! ### data cut and put together -/
theorem slD {K : PySem.W.Frag} {E : Addr → Prop} {p : Addr} {H : Hp} {xs : List V} {ds : List PyData} {lo hi : Option Int} {Q : VK} (h : H p = some (.tup xs)) (ha : DbAll E H xs ds)
    (q : ∀ g H' ys i j, Same H H' → H' g = some (.tup ys) → DbAll E H' ys ((ds.drop i).take j) → Q (.ref g) H') : rSlA K (.ref p) lo hi H Q := by
  have key : ∀ H', Same H H' → DbAll E H' (cutV xs lo hi) ((ds.drop (HT.sIx xs.length 0 lo)).take (HT.sIx xs.length xs.length hi - HT.sIx xs.length 0 lo)) := fun H' s => by
    unfold cutV
    exact ((ha.same s).drop _).take _
  refine ⟨p, _, rfl, .inl (.inl h), fun w => ?_, fun w g ng => ?_⟩
  · refine q p H xs 0 ds.length (Same.refl H) h ?_
    rw [List.drop_zero, List.take_length]
    exact ha
  · exact q g _ _ _ _ (same_new ng) upd_same (key _ (same_new ng))
theorem wt_take (ds : List PyData) (i : Nat) : PyData.weightAll (ds.take i) ≤ PyData.weightAll ds := by
  have := wt_two ds i
  omega
theorem wt_drop (ds : List PyData) (i : Nat) : PyData.weightAll (ds.drop i) ≤ PyData.weightAll ds := by
  have := wt_two ds i
  omega
theorem wt_cut (ds : List PyData) (i j : Nat) : PyData.weightAll ((ds.drop i).take j) ≤ PyData.weightAll ds := Nat.le_trans (wt_take _ _) (wt_drop _ _)
theorem SmE.cut {ds : List PyData} {k : Nat} (h : SmE ds k) (i j : Nat) : SmE ((ds.drop i).take j) k := SmE.take (SmE.drop h i) j
theorem len_cut (ds : List PyData) (i j : Nat) : ((ds.drop i).take j).length ≤ ds.length := by
  rw [List.length_take, List.length_drop]
  omega
theorem wt_rev : ∀ ds : List PyData, PyData.weightAll ds.reverse = PyData.weightAll ds
  | [] => rfl
  | d :: ds => by
    rw [List.reverse_cons, wt_app, wt_rev ds]
    simp only [PyData.weightAll]
    omega
theorem SmE.rev {ds : List PyData} {k : Nat} (h : SmE ds k) : SmE ds.reverse k := fun d hd => h d (List.mem_reverse.mp hd)
theorem line_of {n : Nat} (h : n ≤ 300000) : n ≤ sizeLine := by
  rw [sizeLine_eq]
  omega
/-- tuples of data put together -/
theorem catD {K : PySem.W.Frag} {E : Addr → Prop} {a b : Addr} {H : Hp} {xs ys : List V} {ds es : List PyData} {Q : VK} (ea : H a = some (.tup xs)) (ha : DbAll E H xs ds) (eb : H b = some (.tup ys)) (hb : DbAll E H ys es) (l : ds.length + es.length ≤ 300000)
    (q : ∀ g H' zs, Same H H' → H' g = some (.tup zs) → DbAll E H' zs (ds ++ es) → Q (.ref g) H') : rCatA K (.ref a) (.ref b) H Q :=
  cat_tups ea eb (line_of (by rw [ha.len, hb.len]; exact l)) fun g H' s e => q g H' _ s e ((ha.same s).app (hb.same s))
theorem PotAt.tupD {H H' : Hp} {a g : Addr} {c : Nat} {xs : List V} (p : PotAt H a c) (b : But a H H') (e : H g = some (.tup xs)) : H' g = some (.tup xs) := (Keep.but b p).tup e
theorem Sm.tupD {ds : List PyData} {w k : Nat} (h : SmE ds k) (hw : PyData.weightAll ds ≤ w) : Sm (.tuple ds) w (k + 1) := Sm.tup h hw

/-! ### whole numbers written -/
theorem log_of {i : Int} (h : i.natAbs < 10 ^ 90) : i.natAbs.log2 < 1920 := by
  have s := (Sm.int h).sh
  simp only [PyData.showable, decide_eq_true_eq] at s
  exact s
theorem num_low (z : String) (c : Nat) (h : c ∈ (Str.ofString z).cps.toList) : c < 16 ^ 8 := by
  rw [Str.ofString_eq_toList] at h
  have h' : c ∈ (z.toList.map fun ch => ch.toNat) := h
  obtain ⟨ch, _, rfl⟩ := List.mem_map.mp h'
  have := ch.valid
  have l : ch.toNat < 1114112 := by
    rcases this with q | q
    · exact Nat.lt_trans q (by decide)
    · exact q.2
  exact Nat.lt_trans l (by decide)
/-- how a whole number is written -/
theorem Sm.num {i : Int} (h : i.natAbs < 10 ^ 90) : Sm (.str (toString i)) 100 0 := by
  have l : (Str.ofString (toString i)).length ≤ 100 := by
    have e := int_text_length_le10 (k := 90) (by decide) h
    rw [PySem.ofString_length]
    omega
  refine ⟨rfl, Nat.le_refl _, ?_, l⟩
  simp only [PyData.leavesShort, List.all_eq_true, decide_eq_true_eq]
  intro c hc
  exact num_low _ c hc
end K11

set_option Elab.async false
set_option linter.all false
set_option maxRecDepth 100000
namespace K11
open PySem PySem.Spec PyProof.Rows L2 NB

/-! ### a part otherwise -/
def Bag (E : Addr → Prop) (H : Hp) (xs : List V) (w k : Nat) : Prop := ∀ x ∈ xs, ∃ d, Db E H x d ∧ Sm d w k
theorem Bag.same {E : Addr → Prop} {H H' : Hp} {xs : List V} {w k : Nat} (h : Bag E H xs w k) (s : Same H H') : Bag E H' xs w k := fun x hx => by
  obtain ⟨d, D, S⟩ := h x hx
  exact ⟨d, D.same s, S⟩
theorem Bag.but {E : Addr → Prop} {a : Addr} {H H' : Hp} {xs : List V} {w k c : Nat} (h : Bag E H xs w k) (Ea : E a) (p : PotAt H a c) (b : But a H H') : Bag E H' xs w k := fun x hx => by
  obtain ⟨d, D, S⟩ := h x hx
  exact ⟨d, db_but D Ea p b, S⟩
theorem Bag.app {E : Addr → Prop} {H : Hp} {xs ys : List V} {w k : Nat} (h : Bag E H xs w k) (h' : Bag E H ys w k) : Bag E H (xs ++ ys) w k := fun x hx => by
  rcases List.mem_append.mp hx with c | c
  · exact h x c
  · exact h' x c
theorem Bag.mono {E : Addr → Prop} {H : Hp} {xs : List V} {w k v m : Nat} (h : Bag E H xs w k) (hw : w ≤ v) (hk : k ≤ m) : Bag E H xs v m := fun x hx => by
  obtain ⟨d, D, S⟩ := h x hx
  exact ⟨d, D, S.mono hw hk⟩
theorem Bag.nil {E : Addr → Prop} {H : Hp} {w k : Nat} : Bag E H [] w k := fun x hx => absurd hx List.not_mem_nil
theorem Bag.cons {E : Addr → Prop} {H : Hp} {x : V} {xs : List V} {d : PyData} {w k : Nat} (D : Db E H x d) (S : Sm d w k) (h : Bag E H xs w k) : Bag E H (x :: xs) w k := fun y hy => by
  rcases List.mem_cons.mp hy with rfl | c
  · exact ⟨d, D, S⟩
  · exact h y c
theorem Bag.cut {E : Addr → Prop} {H : Hp} {xs : List V} {w k : Nat} (h : Bag E H xs w k) (lo hi : Option Int) : Bag E H (cutV xs lo hi) w k := fun x hx => h x (List.mem_of_mem_drop (List.mem_of_mem_take hx))
theorem Bag.weak {E E' : Addr → Prop} {H : Hp} {xs : List V} {w k : Nat} (h : Bag E H xs w k) (l : ∀ n, E' n → E n) : Bag E' H xs w k := fun x hx => by
  obtain ⟨d, D, S⟩ := h x hx
  exact ⟨d, Db.weakD l d x D, S⟩
theorem Bag.upd {E : Addr → Prop} {D : Addr} {H : Hp} {xs zs : List V} {o : HO} {w k : Nat} (h : Bag E H xs w k) (ED : E D) (e : H D = some (.lst zs)) : Bag E (upd H D o) xs w k := fun x hx => by
  obtain ⟨d, D', S⟩ := h x hx
  exact ⟨d, db_upd D' ED e, S⟩
def wordsO : List Str := ["from", "to", "barred", "ring"]
/-- the parts that a want's paper has -/
def PartOk : PyData → Prop
  | .tuple _ => True
  | .int i => i.natAbs < 10 ^ 80
  | .str z => z ∈ wordsO
  | _ => False
theorem sm_str {z : Str} (h : (PyData.str z).showable = true ∧ (PyData.str z).leavesShort 100 = true ∧ (PyData.str z).weight ≤ 2000) (k : Nat) : Sm (.str z) 2000 k := ⟨h.1, Nat.zero_le _, h.2.1, h.2.2⟩
section
variable {P : Program} {w : World} {K : PySem.W.Frag} {mg : Str → Option Value} {base : Heap}
def spOddP : Sp := fun vs H Q _ => ∃ (a : Addr) (v : V) (d : PyData) (c w m : Nat) (D0 : Addr → Prop), vs = [.ref a, v] ∧ D0 a ∧ There D0 H ∧ PotAt H a c ∧ Db D0 H v d ∧ PartOk d ∧ Sm d w m ∧ w ≤ 40000 ∧ c < 960000 ∧
  ∀ v' d' H', But a H H' → PotAt H' a (c + 2) → Db D0 H' v' d' → Sm d' (3 * w + 2000) (m + 3) → Q v' H'
abbrev a__law_odd : Stmt := topS 51
abbrev n__law_odd : List Str := ["_law_pot_here", "_law_part", "_law_some", "_law_at", "_law_ahead", "_law_behind"]
theorem sc__law_odd : FnScope n__law_odd ["_law_pot_here", "_law_part"] (defScope a__law_odd) := ⟨rfl, rfl, rfl, by decide +kernel, rfl, by decide +kernel, by decide +kernel⟩
set_option maxHeartbeats 8000000 in
theorem ok__law_odd {f fO fT : Addr} {fd fdO fdT : FuncData} {k : Nat}  (F : Fun K "_law_odd" "_law_odd" a__law_odd f fd) (O : Kn P w K mg base 2 "_law_of" ["_law_pot_here", "_law_some"] (spOf K) fO fdO) (T : Kn P w K mg base 1 "_law_take" ["_law_pot_here", "_law_many"] spTake fT fdT)  (m_int : mg "int" = none) (m_isinstance : mg "isinstance" = none) (m_len : mg "len" = none) (m_list : mg "list" = none) (m_str : mg "str" = none) (m_tuple : mg "tuple" = none) : FnOk P w K mg base CX0 (k + 3) f fd ["_law_pot_here", "_law_part"] spOddP := by
  refine F.ok sc__law_odd (fun vs H Q E h => ?_) (fun cdv A outer s H vs Q E hr h => ?_)
  · obtain ⟨a, v, d, c, w, m, D0, rfl, _⟩ := h
    rfl
  · obtain ⟨a, v, d, c, w, m, D0, rfl, Ea, th, pa, Dv, pk, Sv, hw, hc, q⟩ := h
    refine ⟨_, (pss_cons (ps_set (i := 2) sc__law_odd.nd rfl (.inl rfl) (pe_lstN (pa_cons pe_non (pa_cons pe_bl (pa_cons pe_bl (pa_cons pe_int (pa_cons pe_int (pa_cons (pe_un un_neg pe_int) (pa_cons pe_str (pa_cons pe_str (pa_cons pe_str (pa_cons pe_str (pa_cons pe_str (pa_cons (pe_tup pa_nil) (pa_cons (pe_lstN pa_nil) (pa_cons pe_dnewK (pa_cons (pe_tup (pa_cons pe_int (pa_cons pe_str (pa_cons pe_int pa_nil)))) (pa_cons (pe_op op_pow pe_int pe_int) pa_nil))))))))))))))))))
      (C8.pss_cut (ps_if (pt_val (pe_callB call_isiD (by rfl) m_isinstance (by decide +kernel) (pa_cons (pv 1) (pa_cons (pe_bltn (v := .ty "tuple") (u := .type "tuple") (by rfl) m_tuple (by decide +kernel) rfl) pa_nil)))) (pss_cons (ps_set (i := 3) sc__law_odd.nd rfl (.inl rfl) (pe_kn T hr (by omega) (pa_cons (pv 0) (pa_cons (pe_op op_add (pe_callB call_len_seq (by rfl) m_len (by decide +kernel) (pa_cons (pv 1) pa_nil)) pe_int) pa_nil))))
      (pss_cons (ps_par (i := 4) (j := 5) (by rfl) sc__law_odd.nd rfl rfl (by decide) rfl rfl (pa_cons (pe_slice (r := rSlA K) sl_tupA (pv 1) po_none (po_some (pv 3))) (pa_cons (pe_slice (r := rSlA K) sl_tupA (pv 1) (po_some (pv 3)) po_none) pa_nil)) (by rfl))
      (pss_cons (ps_set (i := 2) sc__law_odd.nd rfl (.inl rfl) (pe_op op_cat (pe_slice (r := rSlL K) sl_list (pv 2) po_none (po_some pe_int)) (pe_lstN (pa_cons (pe_callTy call_list_ofN (by rfl) m_list (by decide +kernel) (pa_cons (pv 1) pa_nil)) (pa_cons (pe_op (r := rCatA K) op_catA (pv 4) (pe_slice (r := rSlA K) sl_tupA (pv 5) (po_some pe_int) po_none)) (pa_cons (pe_op (r := rCatA K) op_catA (pe_op (r := rCatA K) op_catA (pv 4) (pe_slice (r := rSlA K) sl_tupA (pv 5) po_none (po_some pe_int))) (pv 5)) (pa_cons (pe_revT (pv 1)) (pa_cons (pe_tup pa_nil) pa_nil))))))))
      (pss_one (ps_set (i := 2) sc__law_odd.nd rfl (.inl rfl) (pe_op op_cat (pv 2) (pe_lstN (pa_cons (pe_op (r := rCatA K) op_catA (pv 1) (pe_tup (pa_cons pe_int pa_nil))) (pa_cons (pe_slice (r := rSlA K) sl_tupA (pv 1) (po_some pe_int) po_none) (pa_cons (pe_slice (r := rSlA K) sl_tupA (pv 1) po_none (po_some (pe_un un_neg pe_int))) (pa_cons (pe_tup (pa_cons (pv 1) pa_nil)) (pa_cons (pe_op (r := rCatA K) op_catA (pv 1) (pv 1)) (pa_cons (pe_op (r := rCatA K) op_catA (pe_op (r := rCatA K) op_catA (pv 4) (pe_tup (pa_cons pe_non pa_nil))) (pv 5)) pa_nil))))))))))))) (pss_one (ps_if (pt_val (pe_callB call_isiD (by rfl) m_isinstance (by decide +kernel) (pa_cons (pv 1) (pa_cons (pe_bltn (v := .ty "str") (u := .type "str") (by rfl) m_str (by decide +kernel) rfl) pa_nil)))) (pss_one (ps_set (i := 2) sc__law_odd.nd rfl (.inl rfl) (pe_op op_cat (pe_slice (r := rSlL K) sl_list (pv 2) po_none (po_some pe_int)) (pe_lstN (pa_cons pe_str (pa_cons pe_str (pa_cons pe_str (pa_cons pe_str (pa_cons pe_str (pa_cons pe_str (pa_cons pe_str (pa_cons (pe_op op_add_str (pv 1) pe_str) (pa_cons (L2.pe_upper (pv 1)) (pa_cons pe_str pa_nil)))))))))))))) (pss_one (ps_if (pt_val (pe_callB call_isiD (by rfl) m_isinstance (by decide +kernel) (pa_cons (pv 1) (pa_cons (pe_bltn (v := .ty "int") (u := .type "int") (by rfl) m_int (by decide +kernel) rfl) pa_nil)))) (pss_one (ps_set (i := 2) sc__law_odd.nd rfl (.inl rfl) (pe_op op_cat (pe_slice (r := rSlL K) sl_list (pv 2) po_none (po_some pe_int)) (pe_lstN (pa_cons (pe_op op_add (pv 1) pe_int) (pa_cons (pe_op op_sub (pv 1) pe_int) (pa_cons (pe_op op_add (pv 1) pe_int) (pa_cons (pe_op op_sub (pv 1) pe_int) (pa_cons (pe_op op_add (pv 1) pe_int) (pa_cons (pe_callTy call_str_int (by rfl) m_str (by decide +kernel) (pa_cons (pv 1) pa_nil)) (pa_cons (pe_un un_neg (pv 1)) (pa_cons (pe_tup (pa_cons (pv 1) pa_nil)) pa_nil)))))))))))) pss_nil)))))
      (pss_one (ps_ret (pe_kn O hr (by omega) (pa_cons (pv 0) (pa_cons (pv 2) pa_nil))))))), ?_⟩
    have z0 : (0 : Nat) ≤ sizeLine := by decide
    have z1 : (1 : Nat) ≤ sizeLine := by decide
    refine ⟨1, rfl, z0, fun t1 n1 => ?_⟩
    obtain ⟨s1, D1⟩ := newb_tup (E := D0) n1 .nil
    have p1 := pa.keep s1
    generalize upd H t1 (.tup []) = H1 at s1 D1 p1 ⊢
    refine ⟨z0, fun t2 n2 m2 => ?_⟩
    obtain ⟨s2, D2⟩ := newb_lst n2 m2 (th.same s1) .nil
    have p2 := p1.keep s2
    generalize upd H1 t2 (.lst []) = H2 at s2 D2 p2 ⊢
    refine fun t3 n3 => ?_
    obtain ⟨s3, D3⟩ := newb_dct (E := D0) n3
    have p3 := p2.keep s3
    generalize upd H2 t3 (.dK []) = H3 at s3 D3 p3 ⊢
    refine ⟨(show 3 ≤ sizeLine by decide), fun t4 n4 => ?_⟩
    obtain ⟨s4, D4⟩ := newb_tup (E := D0) n4 (.cons (.int 0) (.cons (.str "from") (.cons (.int 0) .nil)))
    have p4 := p3.keep s4
    generalize upd H3 t4 (.tup [.int 0, .str "from", .int 0]) = H4 at s4 D4 p4 ⊢
    refine ⟨10, 29, rfl, rfl, ⟨by decide, by decide, by decide⟩, (show 16 ≤ sizeLine by decide), fun L nL mL => ?_⟩
    have sL : Same H4 (upd H4 L (.lst [V.non, .bl true, .bl false, .int 0, .int 1, .int (-1), .str "", .str "from", .str "to", .str "barred", .str "ring", .ref t1, .ref t2, .ref t3, .ref t4, .int (10 ^ (29 : Int).toNat)])) := same_new nL
    have bag0 : Bag D0 H4 [V.non, .bl true, .bl false, .int 0, .int 1, .int (-1), .str "", .str "from", .str "to", .str "barred", .str "ring", .ref t1, .ref t2, .ref t3, .ref t4, .int (10 ^ (29 : Int).toNat)] 2000 3 := by
      refine .cons .non (Sm.none.mono (by decide) (by decide)) ?_
      refine .cons (.bl _) ((Sm.bool _).mono (by decide) (by decide)) ?_
      refine .cons (.bl _) ((Sm.bool _).mono (by decide) (by decide)) ?_
      refine .cons (.int _) ((Sm.int (by decide)).mono (by decide) (by decide)) ?_
      refine .cons (.int _) ((Sm.int (by decide)).mono (by decide) (by decide)) ?_
      refine .cons (.int _) ((Sm.int (by decide)).mono (by decide) (by decide)) ?_
      refine .cons (.str _) ⟨rfl, by decide, by decide +kernel, by decide +kernel⟩ ?_
      refine .cons (.str _) ⟨rfl, by decide, by decide +kernel, by decide +kernel⟩ ?_
      refine .cons (.str _) ⟨rfl, by decide, by decide +kernel, by decide +kernel⟩ ?_
      refine .cons (.str _) ⟨rfl, by decide, by decide +kernel, by decide +kernel⟩ ?_
      refine .cons (.str _) ⟨rfl, by decide, by decide +kernel, by decide +kernel⟩ ?_
      refine .cons (((D1.same s2).same s3).same s4) ⟨rfl, by decide, by decide +kernel, by decide +kernel⟩ ?_
      refine .cons ((D2.same s3).same s4) ⟨rfl, by decide, by decide +kernel, by decide +kernel⟩ ?_
      refine .cons (D3.same s4) ⟨rfl, by decide, by decide +kernel, by decide +kernel⟩ ?_
      refine .cons D4 ⟨by decide +kernel, by decide +kernel, by decide +kernel, by decide +kernel⟩ ?_
      exact .cons (.int _) ((Sm.int (by decide)).mono (by decide) (by decide)) .nil
    have eL : (upd H4 L (.lst [V.non, .bl true, .bl false, .int 0, .int 1, .int (-1), .str "", .str "from", .str "to", .str "barred", .str "ring", .ref t1, .ref t2, .ref t3, .ref t4, .int (10 ^ (29 : Int).toNat)])) L = some (.lst [V.non, .bl true, .bl false, .int 0, .int 1, .int (-1), .str "", .str "from", .str "to", .str "barred", .str "ring", .ref t1, .ref t2, .ref t3, .ref t4, .int (10 ^ (29 : Int).toNat)]) := upd_same
    have p5 := p4.keep sL
    have s05 := (((s1.trans s2).trans s3).trans s4).trans sL
    have bag1 := bag0.same sL
    have nLa := p4.ne nL
    have l16 : [V.non, .bl true, .bl false, .int 0, .int 1, .int (-1), .str "", .str "from", .str "to", .str "barred", .str "ring", .ref t1, .ref t2, .ref t3, .ref t4, .int (10 ^ (29 : Int).toNat)].length = 16 := rfl
    generalize [V.non, .bl true, .bl false, .int 0, .int 1, .int (-1), .str "", .str "from", .str "to", .str "barred", .str "ring", .ref t1, .ref t2, .ref t3, .ref t4, .int (10 ^ (29 : Int).toNat)] = us at sL bag1 eL p5 s05 l16 ⊢
    clear bag0 D1 D2 D3 D4
    generalize upd H4 L (.lst us) = H5 at sL bag1 eL p5 s05 ⊢
    have Dv5 := Dv.same s05
    refine ⟨fun σ H' => ∃ S xs u3 u4 u5, σ = [some (.ref a), some v, some (.ref S), u3, u4, u5] ∧ But a H H' ∧ PotAt H' a (c + 1) ∧ S ≠ a ∧ H' S = some (.lst xs) ∧ 1 ≤ xs.length ∧ xs.length ≤ 40 ∧ Bag D0 H' xs (3 * w + 2000) (m + 3), ?_, fun σ H' y => ?_⟩
    · refine ⟨_, rfl, a, v, d, "tuple", _, rfl, Dv5.da Ea, kit_tup d, _, rfl, ?_⟩
      rcases tup_or d with ⟨ds, rfl⟩ | hn
      · refine iteT ?_
        cases Dv5 with
        | tup e ha =>
        rename_i t xs
        have ll := ha.len
        obtain ⟨j, rfl, hE, hW⟩ := Sv.of_tup
        have lw := wt_len ds
        have hE' : SmE ds (j + 2) := SmE.mono hE (by omega)
        have big : (40000 : Int) + 1 < 2 ^ 200 := by decide
        refine ⟨.ref a, rfl, .ref t, rfl, t, xs, rfl, .inr (.inl (.inl e)), _, 1, rfl, rfl, a, _, c, rfl, p5, by omega, Int.lt_of_le_of_lt (show (xs.length : Int) + 1 ≤ 40000 + 1 by omega) big, by omega, fun at' H6 b6 p6 at0 at1 => ?_⟩
        obtain ⟨i, rfl⟩ : ∃ i : Nat, at' = i := ⟨at'.toNat, by omega⟩
        have e6 := p5.tupD b6 e
        have ha6 := dbAll_but ha Ea p5 b6
        have eL6 := b6 _ _ nLa eL
        have bag6 := bag1.but Ea p5 b6
        refine ⟨_, rfl, ?_⟩
        show tNoPart _ _ _
        unfold tNoPart
        refine ⟨.int i, rfl, i, rfl, slD e6 ha6 fun g1 H7 ys1 i1 j1 s7 eg1 hg1 => ?_⟩
        refine ⟨_, rfl, .int i, rfl, i, rfl, slD (s7 _ _ e6) (ha6.same s7) fun g2 H8 ys2 i2 j2 s8 eg2 hg2 => ⟨_, _, rfl, ?_⟩⟩
        have s68 := s7.trans s8
        have e8 := s68 _ _ e6
        have ha8 := ha6.same s68
        have eg18 := s8 _ _ eg1
        have hg18 := hg1.same s8
        have eL8 := s68 _ _ eL6
        have bag8 := bag6.same s68
        have p8 := p6.keep s68
        have b8 : But a H H8 := ((But.of s05).trans b6).trans (But.of s68)
        clear eg1 hg1 e6 ha6 eL6 bag6 s7 s8 s68 p6 b6 e ha eL bag1 p5
        have wA := wt_cut ds i1 j1
        have wB := wt_cut ds i2 j2
        have lA := len_cut ds i1 j1
        have lB := len_cut ds i2 j2
        have eA := SmE.cut hE i1 j1
        have eB := SmE.cut hE i2 j2
        generalize ((ds.drop i1).take j1) = da at hg18 wA lA eA
        generalize ((ds.drop i2).take j2) = db at hg2 wB lB eB
        -- the first five, and five more
        refine ⟨_, rfl, 5, rfl, L, _, rfl, .inl (.inl eL8), fun q1 nq1 => ?_⟩
        have t1' := same_new (o := HO.lst (cutV us none (some 5))) nq1
        have eq1 : (upd H8 q1 (.lst (cutV us none (some 5)))) q1 = some (.lst (cutV us none (some 5))) := upd_same
        have pq1 := p8.keep t1'
        have c5 : (cutV us none (some 5)).length ≤ 16 := by
          have := cutV_length us none (some 5)
          omega
        have bq1 := (bag8.same t1').cut none (some 5)
        generalize cutV us none (some 5) = cs at t1' eq1 pq1 c5 bq1 ⊢
        generalize upd H8 q1 (.lst cs) = J1 at t1' eq1 pq1 bq1 ⊢
        refine ⟨_, rfl, t, xs, rfl, .inl (.inl (t1' _ _ e8)), fun l2 nl2 ns2 => ?_⟩
        obtain ⟨t2', X2⟩ := newb_lst nl2 ns2 ((th.but b8 p8).same t1') (ha8.same t1')
        have u2 := t1'.trans t2'
        have pq2 := pq1.keep t2'
        generalize upd J1 l2 (.lst xs) = J2 at t2' X2 u2 pq2 ⊢
        refine ⟨_, rfl, _, rfl, 1, rfl, slD (u2 _ _ eg2) (hg2.same u2) fun g3 J3 ys3 i3 j3 t3' eg3 hg3 => catD ((u2.trans t3') _ _ eg18) (hg18.same (u2.trans t3')) eg3 hg3 (by have := len_cut db i3 j3; omega) fun g4 J4 ys4 t4' eg4 hg4 => ?_⟩
        have u4 := (u2.trans t3').trans t4'
        have X4 : Db D0 J4 (.ref g4) (.tuple _) := .tup eg4 hg4
        have S4 : Sm (.tuple (da ++ (db.drop i3).take j3)) (3 * w + 2000) (j + 1) := Sm.tupD (SmE.app eA (SmE.cut eB _ _)) (by rw [wt_app]; have := wt_cut db i3 j3; omega)
        refine ⟨_, rfl, _, rfl, 1, rfl, slD (u4 _ _ eg2) (hg2.same u4) fun g5 J5 ys5 i5 j5 t5' eg5 hg5 => catD ((u4.trans t5') _ _ eg18) (hg18.same (u4.trans t5')) eg5 hg5 (by have := len_cut db i5 j5; omega) fun g6 J6 ys6 t6' eg6 hg6 => ?_⟩
        have u6 := (u4.trans t5').trans t6'
        refine ⟨_, rfl, catD eg6 hg6 (u6 _ _ eg2) (hg2.same u6) (by rw [List.length_append]; have := len_cut db i5 j5; omega) fun g7 J7 ys7 t7' eg7 hg7 => ?_⟩
        have u7 := u6.trans t7'
        have X7 : Db D0 J7 (.ref g7) (.tuple _) := .tup eg7 hg7
        have S7 : Sm (.tuple ((da ++ (db.drop i5).take j5) ++ db)) (3 * w + 2000) (j + 1) := Sm.tupD (SmE.app (SmE.app eA (SmE.cut eB _ _)) eB) (by rw [wt_app, wt_app]; have := wt_cut db i5 j5; omega)
        refine ⟨_, rfl, t, xs, rfl, .inl (.inl (u7 _ _ e8)), fun g8 n8 => ?_⟩
        obtain ⟨t8', X8⟩ := newb_tup (E := D0) n8 (DbAll.rev (ha8.same u7))
        have u8 := u7.trans t8'
        have pq8 := (pq2.keep ((t3'.trans t4').trans ((t5'.trans t6').trans t7'))).keep t8'
        generalize upd J7 g8 (.tup xs.reverse) = J8 at t8' X8 u8 pq8 ⊢
        refine ⟨z0, fun g9 n9 => ?_⟩
        obtain ⟨t9', X9⟩ := newb_tup (E := D0) n9 .nil
        have u9 := u8.trans t9'
        have pq9 := pq8.keep t9'
        generalize upd J8 g9 (.tup []) = J9 at t9' X9 u9 pq9 ⊢
        refine ⟨(show 5 ≤ sizeLine by decide), fun M nM mM => ?_⟩
        have tM := same_new (o := HO.lst [V.ref l2, .ref g4, .ref g7, .ref g8, .ref g9]) nM
        have S2 : Sm (.list ds) (3 * w + 2000) (j + 1) := Sm.lst hE (by omega)
        have S8 : Sm (.tuple ds.reverse) (3 * w + 2000) (j + 1) := Sm.tupD (SmE.rev hE) (by rw [wt_rev]; omega)
        have S9 : Sm (.tuple []) (3 * w + 2000) (j + 1) := Sm.tupD (fun _ h => absurd h List.not_mem_nil) (Nat.zero_le _)
        have bM : Bag D0 J9 [V.ref l2, .ref g4, .ref g7, .ref g8, .ref g9] (3 * w + 2000) (j + 1) :=
          .cons (X2.same ((((t3'.trans t4').trans ((t5'.trans t6').trans t7')).trans t8').trans t9')) S2 (.cons (X4.same ((((t5'.trans t6').trans t7').trans t8').trans t9')) S4 (.cons (X7.same (t8'.trans t9')) S7 (.cons (X8.same t9') S8 (.cons X9 S9 .nil))))
        have bM' := bM.same tM
        have eM : (upd J9 M (.lst [V.ref l2, .ref g4, .ref g7, .ref g8, .ref g9])) M = some (.lst [V.ref l2, .ref g4, .ref g7, .ref g8, .ref g9]) := upd_same
        have uM := u9.trans tM
        have pqM := pq9.keep tM
        have eq1M := (((((t2'.trans (t3'.trans t4')).trans ((t5'.trans t6').trans t7')).trans t8').trans t9').trans tM) _ _ eq1
        have bcsM := ((((((bq1.same t2').same (t3'.trans t4')).same ((t5'.trans t6').trans t7')).same t8').same t9').same tM).mono (show 2000 ≤ 3 * w + 2000 by omega) (show 3 ≤ j + 4 by omega)
        clear bM X2 X4 X7 X8 X9
        have lM : [V.ref l2, .ref g4, .ref g7, .ref g8, .ref g9].length = 5 := rfl
        generalize [V.ref l2, .ref g4, .ref g7, .ref g8, .ref g9] = ms at tM bM' eM uM pqM eq1M bcsM lM ⊢
        generalize upd J9 M (.lst ms) = J10 at tM bM' eM uM pqM eq1M bcsM ⊢
        refine ⟨q1, M, cs, ms, rfl, rfl, eq1M, eM, Nat.le_of_lt (small1000 (by omega)), fun N nN => ?_⟩
        have tN := same_new (o := HO.lst (cs ++ ms)) nN
        have eN : (upd J10 N (.lst (cs ++ ms))) N = some (.lst (cs ++ ms)) := upd_same
        have uN := uM.trans tN
        have pN := pqM.keep tN
        have bagN : Bag D0 (upd J10 N (.lst (cs ++ ms))) (cs ++ ms) (3 * w + 2000) (j + 4) := (bcsM.same tN).app ((bM'.same tN).mono (Nat.le_refl _) (by omega))
        have lN : (cs ++ ms).length ≤ 21 := by rw [List.length_append]; omega
        generalize cs ++ ms = ns at tN eN uN pN bagN lN ⊢
        generalize upd J10 N (.lst ns) = J11 at tN eN uN pN bagN ⊢
        -- six more
        have e11 := uN _ _ e8
        have ha11 := ha8.same uN
        have eg11 := uN _ _ eg18
        have hg11 := hg18.same uN
        have eh11 := uN _ _ eg2
        have hh11 := hg2.same uN
        have b11 := b8.trans (But.of uN)
        have hO : ∀ (H' : Hp) (x : V) (dx : PyData), Db D0 H' x dx → DbAll D0 H' [x] [dx] := fun H' x dx h => .cons h .nil
        refine ⟨_, rfl, _, rfl, z1, fun o1 no1 => ?_⟩
        obtain ⟨v1, Y1⟩ := newb_tup (E := D0) no1 (hO J11 (.int 0) (.int 0) (.int 0))
        refine catD (v1 _ _ e11) (ha11.same v1) upd_same (hO _ _ _ (.int 0)) (by simp only [List.length_cons, List.length_nil]; omega) fun r1 K1 zs1 w1 er1 hr1 => ?_
        have x1 := v1.trans w1
        have R1 : Db D0 K1 (.ref r1) (.tuple (ds ++ [.int 0])) := .tup er1 hr1
        have Z1 : Sm (.tuple (ds ++ [PyData.int 0])) (3 * w + 2000) (j + 1) := Sm.tupD (SmE.app hE (SmE.mono (SmE.one (Sm.int (i := 0) (by decide))) (Nat.zero_le _))) (by
          have := (Sm.int (i := 0) (by decide)).wt
          rw [wt_app]
          simp only [PyData.weightAll]
          omega)
        refine ⟨_, rfl, 1, rfl, slD (x1 _ _ e11) (ha11.same x1) fun r2 K2 zs2 i6 j6 w2 er2 hr2 => ?_⟩
        have x2 := x1.trans w2
        have R2 : Db D0 K2 (.ref r2) (.tuple ((ds.drop i6).take j6)) := .tup er2 hr2
        have Z2 : Sm (.tuple ((ds.drop i6).take j6)) (3 * w + 2000) (j + 1) := Sm.tupD (SmE.cut hE _ _) (by have := wt_cut ds i6 j6; omega)
        refine ⟨_, rfl, _, rfl, _, rfl, slD (x2 _ _ e11) (ha11.same x2) fun r3 K3 zs3 i7 j7 w3 er3 hr3 => ?_⟩
        have x3 := x2.trans w3
        have R3 : Db D0 K3 (.ref r3) (.tuple ((ds.drop i7).take j7)) := .tup er3 hr3
        have Z3 : Sm (.tuple ((ds.drop i7).take j7)) (3 * w + 2000) (j + 1) := Sm.tupD (SmE.cut hE _ _) (by have := wt_cut ds i7 j7; omega)
        refine ⟨_, rfl, z1, fun r4 nr4 => ?_⟩
        obtain ⟨w4, R4⟩ := newb_tup (E := D0) nr4 (hO K3 (.ref t) (.tuple ds) (.tup (x3 _ _ e11) (ha11.same x3)))
        have x4 := x3.trans w4
        have Z4 : Sm (.tuple [.tuple ds]) (3 * w + 2000) (j + 2) := Sm.tupD (SmE.one Sv) (by
          have := Sv.wt
          simp only [PyData.weightAll]
          omega)
        generalize upd K3 r4 (.tup [V.ref t]) = K4 at w4 R4 x4 ⊢
        refine ⟨_, rfl, _, rfl, catD (x4 _ _ e11) (ha11.same x4) (x4 _ _ e11) (ha11.same x4) (by omega) fun r5 K5 zs5 w5 er5 hr5 => ?_⟩
        have x5 := x4.trans w5
        have R5 : Db D0 K5 (.ref r5) (.tuple (ds ++ ds)) := .tup er5 hr5
        have Z5 : Sm (.tuple (ds ++ ds)) (3 * w + 2000) (j + 1) := Sm.tupD (SmE.app hE hE) (by rw [wt_app]; omega)
        refine ⟨_, rfl, z1, fun o6 no6 => ?_⟩
        obtain ⟨v6, Y6⟩ := newb_tup (E := D0) no6 (hO K5 .non .none .non)
        have x6 := x5.trans v6
        refine catD (x6 _ _ eg11) (hg11.same x6) upd_same (hO _ _ _ .non) (by simp only [List.length_cons, List.length_nil]; omega) fun r6 K6 zs6 w6 er6 hr6 => ?_
        have x7 := x6.trans w6
        refine ⟨_, rfl, catD er6 hr6 (x7 _ _ eh11) (hh11.same x7) (by simp only [List.length_append, List.length_cons, List.length_nil]; omega) fun r7 K7 zs7 w7 er7 hr7 => ?_⟩
        have x8 := x7.trans w7
        have R7 : Db D0 K7 (.ref r7) (.tuple ((da ++ [.none]) ++ db)) := .tup er7 hr7
        have Z7 : Sm (.tuple ((da ++ [PyData.none]) ++ db)) (3 * w + 2000) (j + 1) := Sm.tupD (SmE.app (SmE.app eA (SmE.mono (SmE.one Sm.none) (Nat.zero_le _))) eB) (by
          have := Sm.none.wt
          rw [wt_app, wt_app]
          simp only [PyData.weightAll]
          omega)
        refine ⟨(show 6 ≤ sizeLine by decide), fun M2 nM2 mM2 => ?_⟩
        have tM2 := same_new (o := HO.lst [V.ref r1, .ref r2, .ref r3, .ref r4, .ref r5, .ref r7]) nM2
        have w57 := ((w5.trans v6).trans w6).trans w7
        have bM2 : Bag D0 K7 [V.ref r1, .ref r2, .ref r3, .ref r4, .ref r5, .ref r7] (3 * w + 2000) (j + 2) :=
          .cons (R1.same (((w2.trans w3).trans w4).trans w57)) (Z1.mono (Nat.le_refl _) (by omega)) (.cons (R2.same ((w3.trans w4).trans w57)) (Z2.mono (Nat.le_refl _) (by omega)) (.cons (R3.same (w4.trans w57)) (Z3.mono (Nat.le_refl _) (by omega)) (.cons (R4.same w57) Z4 (.cons (R5.same ((v6.trans w6).trans w7)) (Z5.mono (Nat.le_refl _) (by omega)) (.cons R7 (Z7.mono (Nat.le_refl _) (by omega)) .nil)))))
        have bM2' := bM2.same tM2
        have eM2 : (upd K7 M2 (.lst [V.ref r1, .ref r2, .ref r3, .ref r4, .ref r5, .ref r7])) M2 = some (.lst [V.ref r1, .ref r2, .ref r3, .ref r4, .ref r5, .ref r7]) := upd_same
        have x9 := x8.trans tM2
        refine ⟨N, M2, ns, _, rfl, rfl, x9 _ _ eN, eM2, Nat.le_of_lt (small1000 (by simp only [List.length_cons, List.length_nil]; omega)), fun F nF => ?_⟩
        have tF := same_new (o := HO.lst (ns ++ [V.ref r1, .ref r2, .ref r3, .ref r4, .ref r5, .ref r7])) nF
        have pF := (pN.keep x9).keep tF
        refine ⟨F, _, _, _, _, rfl, b11.trans (But.of (x9.trans tF)), pF, (pN.keep x9).ne nF, upd_same, by simp only [List.length_append, List.length_cons, List.length_nil]; omega, by simp only [List.length_append, List.length_cons, List.length_nil]; omega, ((bagN.same x9).same tF).app ((bM2'.same tF).mono (Nat.le_refl _) (by omega))⟩
      · rw [hn]
        refine iteF ⟨_, rfl, a, v, d, "str", _, rfl, Dv5.da Ea, kit_str d, _, rfl, ?_⟩
        have c5 : ∀ k, (cutV us none (some k)).length ≤ 16 := fun k => by
          have := cutV_length us none (some k)
          omega
        have b5 : But a H H5 := But.of s05
        -- some of the first ones, and more
        have fin : ∀ (H6 : Hp) (k : Int) (q1 M : Addr) (ms : List V), Same H5 H6 → H6 q1 = some (.lst (cutV us none (some k))) → H6 M = some (.lst ms) → Bag D0 H6 ms 2000 (m + 3) → 1 ≤ ms.length → ms.length ≤ 12 → ∀ Q' : VK, (∀ F H7 xs, But a H H7 → PotAt H7 a (c + 1) → F ≠ a → H7 F = some (.lst xs) → 1 ≤ xs.length → xs.length ≤ 40 → Bag D0 H7 xs (3 * w + 2000) (m + 3) → Q' (.ref F) H7) → rCat (.ref q1) (.ref M) H6 Q' := fun H6 k q1 M ms s6 e1 e2 bm l1 l12 Q' hq => by
          have ck := c5 k
          refine ⟨q1, M, _, _, rfl, rfl, e1, e2, Nat.le_of_lt (small1000 (by omega)), fun F nF => ?_⟩
          have tF := same_new (o := HO.lst (cutV us none (some k) ++ ms)) nF
          have p6 := p5.keep s6
          refine hq F _ _ (b5.trans (But.of (s6.trans tF))) ((p6.keep tF).mono (by omega)) (p6.ne nF) upd_same (by rw [List.length_append]; omega) (by rw [List.length_append]; omega) ?_
          exact ((((bag1.cut none (some k)).same s6).same tF).mono (by omega) (by omega)).app ((bm.same tF).mono (by omega) (Nat.le_refl _))
        cases d with
        | tuple ds => cases hn
        | str z =>
          cases Dv5
          have pk' : z ∈ wordsO := pk
          have lz : z.length ≤ 10 := by
            simp only [wordsO, List.mem_cons, List.not_mem_nil, or_false] at pk'
            rcases pk' with rfl | rfl | rfl | rfl <;> decide
          refine iteT ⟨_, rfl, 4, rfl, L, _, rfl, .inl (.inl eL), fun q1 nq1 => ?_⟩
          have t1' := same_new (o := HO.lst (cutV us none (some 4))) nq1
          refine ⟨_, rfl, _, _, rfl, rfl, line_of (by have : (" " : Str).length = 1 := rfl; omega), _, rfl, ⟨z, rfl⟩, z, rfl, rfl, by omega, (show 10 ≤ sizeLine by decide), fun M nM mM => ?_⟩
          have tM := same_new (o := HO.lst [V.str "from", .str "to", .str "to", .str "from", .str "bar", .str "barred", .str "ring", .str (z ++ " "), .str (Txt.upper z), .str ""]) nM
          refine fin _ 4 q1 M _ (t1'.trans tM) (tM _ _ upd_same) upd_same ?_ (show 1 ≤ 10 by decide) (show 10 ≤ 12 by decide) _ fun F H7 xs b7 p7 nF eF l1 l40 bag => ⟨F, xs, _, _, _, rfl, b7, p7, nF, eF, l1, l40, bag⟩
          have k0 : ∀ (x : Str), (PyData.str x).leavesShort 100 = true → (PyData.str x).weight ≤ 2000 → Sm (.str x) 2000 (m + 3) := fun x h1 h2 => ⟨rfl, Nat.zero_le _, h1, h2⟩
          have k1 : Sm (.str (z ++ " ")) 2000 (m + 3) ∧ Sm (.str (Txt.upper z)) 2000 (m + 3) := by
            simp only [wordsO, List.mem_cons, List.not_mem_nil, or_false] at pk'
            rcases pk' with rfl | rfl | rfl | rfl <;> exact ⟨k0 _ (by decide +kernel) (by decide +kernel), k0 _ (by decide +kernel) (by decide +kernel)⟩
          exact .cons (.str _) (k0 _ (by decide +kernel) (by decide +kernel)) (.cons (.str _) (k0 _ (by decide +kernel) (by decide +kernel)) (.cons (.str _) (k0 _ (by decide +kernel) (by decide +kernel)) (.cons (.str _) (k0 _ (by decide +kernel) (by decide +kernel)) (.cons (.str _) (k0 _ (by decide +kernel) (by decide +kernel)) (.cons (.str _) (k0 _ (by decide +kernel) (by decide +kernel)) (.cons (.str _) (k0 _ (by decide +kernel) (by decide +kernel)) (.cons (.str _) k1.1 (.cons (.str _) k1.2 (.cons (.str _) (k0 _ (by decide +kernel) (by decide +kernel)) .nil)))))))))
        | int i =>
          cases Dv5
          have pk' : i.natAbs < 10 ^ 80 := pk
          have big : (10 : Nat) ^ 80 + 2 < 10 ^ 90 := by decide
          have i90 : i.natAbs < 10 ^ 90 := by omega
          refine iteF ⟨_, rfl, a, _, _, "int", _, rfl, .int i, kit_int _, _, rfl, iteT ?_⟩
          refine ⟨_, rfl, 6, rfl, L, _, rfl, .inl (.inl eL), fun q1 nq1 => ?_⟩
          have t1' := same_new (o := HO.lst (cutV us none (some 6))) nq1
          refine ⟨_, rfl, _, 1, rfl, rfl, _, rfl, _, 1, rfl, rfl, _, rfl, _, 1, rfl, rfl, _, rfl, _, 1, rfl, rfl, _, rfl, _, 2, rfl, rfl, _, rfl, i, rfl, log_of i90, _, rfl, i, rfl, _, rfl, z1, fun o no => ?_⟩
          obtain ⟨tO, DO⟩ := newb_tup (E := D0) no (.cons (.int i) .nil)
          refine ⟨(show 8 ≤ sizeLine by decide), fun M nM mM => ?_⟩
          have tM := same_new (o := HO.lst [V.int (i + 1), .int (i - 1), .int (i + 1), .int (i - 1), .int (i + 2), .str (toString i), .int (-i), .ref o]) nM
          refine fin _ 6 q1 M _ ((t1'.trans tO).trans tM) ((tO.trans tM) _ _ upd_same) upd_same ?_ (show 1 ≤ 8 by decide) (show 8 ≤ 12 by decide) _ fun F H7 xs b7 p7 nF eF l1 l40 bag => ⟨F, xs, _, _, _, rfl, b7, p7, nF, eF, l1, l40, bag⟩
          have k0 : ∀ y : Int, y.natAbs ≤ i.natAbs + 2 → Sm (.int y) 2000 (m + 3) := fun y hy => (Sm.int (by omega)).mono (by decide) (Nat.zero_le _)
          have sO : Sm (.tuple [.int i]) 2000 (m + 3) := (Sm.tupD (w := 2000) (k := 0) (SmE.one (Sm.int i90)) (by
            have := (Sm.int i90).wt
            simp only [PyData.weightAll]
            omega)).mono (Nat.le_refl _) (by omega)
          exact .cons (.int _) (k0 _ (by omega)) (.cons (.int _) (k0 _ (by omega)) (.cons (.int _) (k0 _ (by omega)) (.cons (.int _) (k0 _ (by omega)) (.cons (.int _) (k0 _ (by omega)) (.cons (.str _) ((Sm.num i90).mono (by decide) (Nat.zero_le _)) (.cons (.int _) (k0 _ (by omega)) (.cons (DO.same tM) sO .nil)))))))
        | _ => exact absurd pk id
    · obtain ⟨S, xs, u3, u4, u5, rfl, b, p, ne, eS, l1, l40, bag⟩ := y
      refine ⟨.ref a, rfl, .ref S, rfl, a, S, xs, _, rfl, p, ne, .inl (.inl (.inl eS)), l1, by omega, by omega, fun x H'' hx b' p' => ?_⟩
      obtain ⟨d', Dd, Sd⟩ := bag x hx
      exact q x d' H'' (b.trans b') p' (db_but Dd Ea p b') Sd
end
end K11

set_option Elab.async false
set_option linter.all false
set_option maxRecDepth 100000
namespace K11
open PySem PySem.Spec PyProof.Rows L2 NB

/-! ### bent anywhere -/
/-- data of which each part is one that can be bent -/
def AllParts : Nat → PyData → Prop
  | 0, d => PartOk d
  | k + 1, d => PartOk d ∧ ∀ ds, d = .tuple ds → ∀ x ∈ ds, AllParts k x
theorem AllParts.ok : ∀ {k : Nat} {d : PyData}, AllParts k d → PartOk d
  | 0, _, h => h
  | _ + 1, _, h => h.1
def bentW : Nat → Nat → Nat
  | 0, w => 3 * w + 2000
  | k + 1, w => 2 * w + 1 + bentW k w
theorem bentW_ge : ∀ (k w : Nat), 3 * w + 2000 ≤ bentW k w
  | 0, w => Nat.le_refl _
  | k + 1, w => by
    have := bentW_ge k w
    show 3 * w + 2000 ≤ 2 * w + 1 + bentW k w
    omega
section
variable {P : Program} {w : World} {K : PySem.W.Frag} {mg : Str → Option Value} {base : Heap}
def spBentK (k : Nat) : Sp := fun vs H Q _ => ∃ (a : Addr) (v : V) (d : PyData) (c w m j : Nat) (D0 : Addr → Prop), vs = [.ref a, v, .int (j : Int)] ∧ j < k ∧ D0 a ∧ There D0 H ∧ PotAt H a c ∧ Db D0 H v d ∧ AllParts j d ∧ Sm d w m ∧ w ≤ 40000 ∧ c + 5 * j < 950000 ∧
  ∀ v' d' H', But a H H' → PotAt H' a (c + 5 * j + 5) → Db D0 H' v' d' → Sm d' (bentW j w) (m + 3) → Q v' H'
abbrev a__law_bent : Stmt := topS 52
abbrev n__law_bent : List Str := ["_law_pot_here", "_law_item", "_law_deep", "_law_at"]
theorem sc__law_bent : FnScope n__law_bent ["_law_pot_here", "_law_item", "_law_deep"] (defScope a__law_bent) := ⟨rfl, rfl, rfl, by decide +kernel, rfl, by decide +kernel, by decide +kernel⟩
set_option maxHeartbeats 8000000 in
theorem ok__law_bent {f fOd fT fBe : Addr} {fd fdOd fdT fdBe : FuncData} {k : Nat}  (F : Fun K "_law_bent" "_law_bent" a__law_bent f fd) (Od : Kn P w K mg base 3 "_law_odd" ["_law_pot_here", "_law_part"] spOddP fOd fdOd) (T : Kn P w K mg base 1 "_law_take" ["_law_pot_here", "_law_many"] spTake fT fdT) (Be : Kn P w K mg base (k + 3) "_law_bent" ["_law_pot_here", "_law_item", "_law_deep"] (spBentK k) fBe fdBe)  (m_isinstance : mg "isinstance" = none) (m_len : mg "len" = none) (m_tuple : mg "tuple" = none) : FnOk P w K mg base CX0 (k + 4) f fd ["_law_pot_here", "_law_item", "_law_deep"] (spBentK (k + 1)) := by
  refine F.ok sc__law_bent (fun vs H Q E h => ?_) (fun cdv A outer s H vs Q E hr h => ?_)
  · obtain ⟨a, v, d, c, w, m, j, D0, rfl, _⟩ := h
    rfl
  · obtain ⟨a, v, d, c, w, m, j, D0, rfl, jk, Ea, th, pa, Dv, AP, Sv, hw, hc, q⟩ := h
    refine ⟨_, (pss_cons (ps_if (PW.pt (pw_or (pt_not (pt_val (pe_callB call_isiD (by rfl) m_isinstance (by decide +kernel) (pa_cons (pv 1) (pa_cons (pe_bltn (v := .ty "tuple") (u := .type "tuple") (by rfl) m_tuple (by decide +kernel) rfl) pa_nil))))) (pw_or (pt_cmpR (op_eq0 hr.units0) (pv 1) (pe_tup pa_nil) (nomark _)) (pw_or (pt_cmpR op_eq (pv 2) pe_int (nomark _)) (pw_or1 (pt_cmpR op_eq (pe_kn T hr (by omega) (pa_cons (pv 0) (pa_cons pe_int pa_nil))) pe_int (nomark _))))))) (pss_one (ps_ret (pe_kn Od hr (by omega) (pa_cons (pv 0) (pa_cons (pv 1) pa_nil))))) pss_nil)
      (pss_cons (ps_set (i := 3) sc__law_bent.nd rfl (.inl rfl) (pe_kn T hr (by omega) (pa_cons (pv 0) (pa_cons (pe_callB call_len_seq (by rfl) m_len (by decide +kernel) (pa_cons (pv 1) pa_nil)) pa_nil))))
      (pss_one (ps_ret (pe_op (r := rCatA K) op_catA (pe_op (r := rCatA K) op_catA (pe_slice (r := rSlA K) sl_tupA (pv 1) po_none (po_some (pv 3))) (pe_tup (pa_cons (pe_kn Be hr (by omega) (pa_cons (pv 0) (pa_cons (pe_ix ix_tup (pv 1) (pv 3) (fun _ _ => rfl)) (pa_cons (pe_op op_sub (pv 2) pe_int) pa_nil)))) pa_nil))) (pe_slice (r := rSlA K) sl_tupA (pv 1) (po_some (pe_op op_add (pv 3) pe_int)) po_none)))))), ?_⟩
    have z0 : (0 : Nat) ≤ sizeLine := by decide
    have z1 : (1 : Nat) ≤ sizeLine := by decide
    have bg := bentW_ge j w
    have odd : ∀ (σ : L2.St) (H' : Hp) (c' : Nat), σ[0]? = some (some (.ref a)) → σ[1]? = some (some v) → But a H H' → PotAt H' a c' → c' ≤ c + 3 → (tCall spOddP [] E0 (tCons (tVar 0) (tCons (tVar 1) tNil))) σ H' Q := fun σ H' c' e0 e1 b' p' lc => by
      refine ⟨.ref a, e0, v, e1, a, v, d, c', w, m, D0, rfl, Ea, th.but b' p', p', db_but Dv Ea pa b', AP.ok, Sv, hw, by omega, fun v' d' H2 b2 p2 D2 S2 => ?_⟩
      exact q v' d' H2 (b'.trans b2) (p2.mono (by omega)) D2 (S2.mono bg (Nat.le_refl _))
    rcases tup_or d with ⟨ds, rfl⟩ | hn
    · have Dv0 := Dv
      cases Dv with
      | tup e ha =>
      rename_i t xs
      have ll := ha.len
      refine ⟨_, rfl, a, _, _, "tuple", _, rfl, Dv0.da Ea, kit_tup _, _, rfl, iteF ⟨_, rfl, z0, fun y ny => ?_⟩⟩
      have sy := same_new (o := HO.tup []) ny
      have ey : (upd H y (HO.tup [])) y = some (.tup []) := upd_same
      have py := pa.keep sy
      have e1 := sy _ _ e
      have ha1 := ha.same sy
      generalize upd H y (HO.tup []) = H1 at sy ey py e1 ha1 ⊢
      refine ⟨t, y, xs, rfl, rfl, .inl (.inl e1), .inl (.inl ey), _, rfl, ?_⟩
      cases hxs : xs.isEmpty with
      | true => exact iteT (odd _ _ c rfl rfl (But.of sy) py (by omega))
      | false =>
      have l1 : 1 ≤ ds.length := by
        rw [← ll]
        cases xs with
        | nil => cases hxs
        | cons _ _ => simp
      refine iteF ⟨_, rfl, rfl, _, rfl, ite2 (fun cj => odd _ _ c rfl rfl (But.of sy) py (by omega)) (fun cj => ?_)⟩
      have j0 : j ≠ 0 := fun z => cj (by rw [z]; rfl)
      obtain ⟨j, rfl⟩ : ∃ j', j = j' + 1 := ⟨j - 1, by omega⟩
      refine ⟨.ref a, rfl, a, 6, c, rfl, py, by decide, by decide, by omega, fun r6 H2 b2 p2 r0 r1 => ⟨rfl, _, rfl, ite2 (fun _ => odd _ _ _ rfl rfl ((But.of sy).trans b2) p2 (by omega)) (fun _ => ?_)⟩⟩
      obtain ⟨m', rfl, hE, hW⟩ := Sv.of_tup
      have lw := wt_len ds
      have e2 := py.tupD b2 e1
      have ha2 := dbAll_but ha1 Ea py b2
      have big : (40000 : Int) + 1 < 2 ^ 200 := by decide
      refine ⟨.ref a, rfl, _, rfl, t, xs, rfl, .inr (.inl (.inl e2)), a, _, _, rfl, p2, by omega, Int.lt_of_le_of_lt (show (xs.length : Int) ≤ 40000 + 1 by omega) big, by omega, fun at' H3 b3 p3 at0 at1 => ?_⟩
      obtain ⟨i, rfl⟩ : ∃ i : Nat, at' = i := ⟨at'.toNat, by omega⟩
      have hi : i < xs.length := by omega
      have e3 := p2.tupD b3 e2
      have ha3 := dbAll_but ha2 Ea p2 b3
      have b03 : But a H H3 := ((But.of sy).trans b2).trans b3
      refine ⟨_, rfl, ?_⟩
      show tNoPart _ _ _
      unfold tNoPart
      refine ⟨.int i, rfl, i, rfl, slD e3 ha3 fun g1 H4 ys1 i1 j1 s4 eg1 hg1 => ?_⟩
      obtain ⟨di, edi, Di⟩ := (ha3.same s4).get i _ (List.getElem?_eq_getElem hi)
      have mi := List.mem_of_getElem? edi
      have wi : di.weight ≤ w := by
        have := wt_mem mi
        omega
      have hdi := hE di mi
      refine ⟨.ref a, rfl, _, rfl, .int i, rfl, t, xs, i, _, rfl, rfl, .inl (.inl (s4 _ _ e3)), atI_nat (List.getElem?_eq_getElem hi), _, rfl, _, 1, rfl, rfl, a, _, di, c + 1 + 1, w, m', j, D0, by show [V.ref a, xs[i], V.int (((j + 1 : Nat) : Int) - 1)] = _; rw [show ((j + 1 : Nat) : Int) - 1 = (j : Int) by omega], by omega, Ea, th.but (b03.trans (But.of s4)) (p3.keep s4), p3.keep s4, Di, AP.2 ds rfl di mi, ⟨hdi.1, hdi.2.1, hdi.2.2, wi⟩, hw, by omega, fun v' d' H5 b5 p5 D5 S5 => ⟨z1, fun g2 n2 => ?_⟩⟩
      obtain ⟨s6, D6⟩ := newb_tup (E := D0) n2 (.cons D5 .nil)
      have e6 : (upd H5 g2 (.tup [v'])) g2 = some (.tup [v']) := upd_same
      have h6 : DbAll D0 (upd H5 g2 (.tup [v'])) [v'] [d'] := .cons (D5.same s6) .nil
      have p4 := p3.keep s4
      have eg6 := s6 _ _ (p4.tupD b5 eg1)
      have hg6 := (dbAll_but hg1 Ea p4 b5).same s6
      have e36 := s6 _ _ (p4.tupD b5 (s4 _ _ e3))
      have ha6 := (dbAll_but (ha3.same s4) Ea p4 b5).same s6
      have p6 := p5.keep s6
      generalize upd H5 g2 (.tup [v']) = H6 at s6 e6 h6 eg6 hg6 e36 ha6 p6 ⊢
      have lc := len_cut ds i1 j1
      have wc := wt_cut ds i1 j1
      refine catD eg6 hg6 e6 h6 (by simp only [List.length_cons, List.length_nil]; omega) fun g3 H7 ys3 s7 eg3 hg3 => ?_
      refine ⟨_, rfl, .int i, rfl, i, 1, rfl, rfl, (i : Int) + 1, rfl, slD (s7 _ _ e36) (ha6.same s7) fun g4 H8 ys4 i4 j4 s8 eg4 hg4 => ?_⟩
      have lc4 := len_cut ds i4 j4
      have wc4 := wt_cut ds i4 j4
      refine catD (s8 _ _ eg3) (hg3.same s8) eg4 hg4 (by simp only [List.length_append, List.length_cons, List.length_nil]; omega) fun g5 H9 ys5 s9 eg5 hg5 => ?_
      have w5 := S5.wt
      refine q _ (.tuple (((ds.drop i1).take j1 ++ [d']) ++ (ds.drop i4).take j4)) H9 ((((b03.trans (But.of s4)).trans b5).trans (But.of s6)).trans (But.of ((s7.trans s8).trans s9))) ((p6.keep ((s7.trans s8).trans s9)).mono (by omega)) (.tup eg5 hg5) ?_
      refine (Sm.tupD (k := m' + 3) (SmE.app (SmE.app (SmE.mono (SmE.cut hE _ _) (by omega)) (SmE.one S5)) (SmE.mono (SmE.cut hE _ _) (by omega))) ?_).mono (Nat.le_refl _) (by omega)
      rw [wt_app, wt_app]
      simp only [PyData.weightAll]
      show _ ≤ 2 * w + 1 + bentW j w
      omega
    · refine ⟨_, rfl, a, _, d, "tuple", _, rfl, Dv.da Ea, kit_tup d, _, rfl, ?_⟩
      rw [hn]
      exact iteT (odd _ _ c rfl rfl (fun _ _ _ e => e) pa (by omega))
theorem ok_bentK {f fOd fT : Addr} {fd fdOd fdT : FuncData} (F : Fun K "_law_bent" "_law_bent" a__law_bent f fd) (Od : Kn P w K mg base 3 "_law_odd" ["_law_pot_here", "_law_part"] spOddP fOd fdOd) (T : Kn P w K mg base 1 "_law_take" ["_law_pot_here", "_law_many"] spTake fT fdT)
    (gl : mg "_law_bent" = some (.ref f)) (bi : Binds K fd ["_law_pot_here", "_law_item", "_law_deep"] []) (m_isinstance : mg "isinstance" = none) (m_len : mg "len" = none) (m_tuple : mg "tuple" = none) : ∀ k, FnOk P w K mg base CX0 (k + 3) f fd ["_law_pot_here", "_law_item", "_law_deep"] (spBentK k)
  | 0 => by
    refine F.ok sc__law_bent (fun vs H Q E h => ?_) (fun cdv A outer s H vs Q E hr h => ?_)
    · obtain ⟨a, v, d, c, w, m, j, _, _, jk, _⟩ := h
      exact absurd jk (Nat.not_lt_zero _)
    · obtain ⟨a, v, d, c, w, m, j, _, _, jk, _⟩ := h
      exact absurd jk (Nat.not_lt_zero _)
  | k + 1 => ok__law_bent F Od T ⟨ok_bentK F Od T gl bi m_isinstance m_len m_tuple k, gl, F.kp, bi⟩ m_isinstance m_len m_tuple
end
end K11

set_option Elab.async false
set_option linter.all false
set_option maxRecDepth 100000
namespace K11
open PySem PySem.Spec PyProof.Rows L2 NB

/-! ### papers as data, and what they say -/
theorem wt_small {i : Int} (h : i.natAbs ≤ 3) : PyData.weight (.int i) ≤ 2 := by
  unfold PyData.weight
  have l : i.natAbs.log2 ≤ 1 := by
    generalize i.natAbs = n at h
    match n, h with
    | 0, _ => decide
    | 1, _ => decide
    | 2, _ => decide
    | 3, _ => decide
  split <;> omega
theorem da_side {n p : Addr} {H : Hp} {s : Sd} (h : SideAt H p s) : Da n H (.ref p) (sdD s) := .tup h (.cons (.int _) (.cons (.str _) (.cons (.int _) .nil)))
theorem db_side {E : Addr → Prop} {p : Addr} {H : Hp} {s : Sd} (h : SideAt H p s) : Db E H (.ref p) (sdD s) := .tup h (.cons (.int _) (.cons (.str _) (.cons (.int _) .nil)))
theorem db_sides {E : Addr → Prop} {H : Hp} : ∀ {L : List (Addr × Sd)}, SdsAt H L → DbAll E H (sdR L) (sdsD L)
  | [], _ => .nil
  | z :: L, h => .cons (db_side (h z List.mem_cons_self)) (db_sides fun y hy => h y (List.mem_cons_of_mem _ hy))
theorem sm_word (b : Bool) : Sm (.str (word b)) 100 0 := by
  cases b <;> exact ⟨by decide +kernel, Nat.le_refl _, by decide +kernel, by decide +kernel⟩
theorem wt_word (b : Bool) : PyData.weight (.str (word b)) ≤ 4 := by
  cases b <;> decide +kernel
theorem sm_side {tops : List Int} {s : Sd} (fw : Few tops) (l4 : tops.length ≤ 4) (ok : SideOk tops s) : Sm (sdD s) 20 1 := by
  have lt := ok.lt
  have bd := ok.bd
  have f3 := few_plc fw s.1
  have big : (10 : Nat) < 10 ^ 90 := by decide
  have a := Sm.int (i := (s.1 : Int)) (by omega)
  have b := Sm.int (i := s.2.2) (by omega)
  have c := sm_word s.2.1
  refine Sm.tup (k := 0) (SmE.app (SmE.one a) (SmE.app (SmE.one c) (SmE.one b))) ?_
  have := wt_small (i := (s.1 : Int)) (by omega)
  have := wt_small (i := s.2.2) (by omega)
  have := wt_word s.2.1
  simp only [PyData.weightAll]
  omega
theorem sm_sides {tops : List Int} (fw : Few tops) (l4 : tops.length ≤ 4) : ∀ {L : List (Addr × Sd)}, (∀ z ∈ L, SideOk tops z.2) → SmE (sdsD L) 1 ∧ PyData.weightAll (sdsD L) ≤ 21 * L.length
  | [], _ => ⟨fun _ h => absurd h List.not_mem_nil, Nat.le_refl _⟩
  | z :: L, h => by
    obtain ⟨h1, h2⟩ := sm_sides fw l4 (L := L) fun y hy => h y (List.mem_cons_of_mem _ hy)
    have a := sm_side fw l4 (h z List.mem_cons_self)
    have aw := a.wt
    refine ⟨SmE.app (SmE.one a) h1, ?_⟩
    show PyData.weightAll (sdD z.2 :: sdsD L) ≤ 21 * (L.length + 1)
    simp only [PyData.weightAll]
    omega
theorem part_side {tops : List Int} {s : Sd} (fw : Few tops) (l4 : tops.length ≤ 4) (ok : SideOk tops s) : AllParts 1 (sdD s) := by
  have lt := ok.lt
  have bd := ok.bd
  have f3 := few_plc fw s.1
  have big : (10 : Nat) < 10 ^ 80 := by decide
  refine ⟨trivial, fun ds e x hx => ?_⟩
  cases e
  simp only [List.mem_cons, List.not_mem_nil, or_false] at hx
  rcases hx with rfl | rfl | rfl
  · show ((s.1 : Nat) : Int).natAbs < 10 ^ 80
    omega
  · show word s.2.1 ∈ wordsO
    cases s.2.1 <;> decide
  · show s.2.2.natAbs < 10 ^ 80
    omega
theorem part_sides {tops : List Int} (fw : Few tops) (l4 : tops.length ≤ 4) {L : List (Addr × Sd)} (ok : ∀ z ∈ L, SideOk tops z.2) : AllParts 2 (.tuple (sdsD L)) := ⟨trivial, fun ds e x hx => by
  cases e
  obtain ⟨z, hz, rfl⟩ := List.mem_map.mp hx
  exact part_side fw l4 (ok z hz)⟩
theorem dlen_le {d : PyData} {w k : Nat} (S : Sm d w k) : dLen d ≤ w := by
  cases d with
  | tuple ds =>
    obtain ⟨j, _, _, h⟩ := S.of_tup
    have := wt_len ds
    show ds.length ≤ w
    omega
  | _ => exact Nat.zero_le _
theorem dlen_in {d : PyData} {w k : Nat} (S : Sm d w k) {ds : List PyData} (e : d = .tuple ds) : ∀ y ∈ ds, dLen y ≤ w := fun y hy => by
  subst e
  obtain ⟨j, _, _, h⟩ := S.of_tup
  have h2 := wt_mem hy
  cases y with
  | tuple es =>
    have := wt_len es
    have e : PyData.weight (.tuple es) = PyData.weightAll es := by simp only [PyData.weight]
    show es.length ≤ w
    omega
  | _ => exact Nat.zero_le _

/-! ### wants drawn -/
/-- a tuple of right sides -/
structure Tsd (tops : List Int) (H : Hp) (g : Addr) (W : List (Addr × Sd)) : Prop where
  eg : H g = some (.tup (sdR W))
  hW : SdsAt H W
  ok : ∀ z ∈ W, SideOk tops z.2
theorem Tsd.keep {tops : List Int} {H H' : Hp} {g : Addr} {W : List (Addr × Sd)} (h : Tsd tops H g W) (k : Keep H H') : Tsd tops H' g W := ⟨k.tup h.eg, h.hW.keep k, h.ok⟩
theorem sdR_app (L M : List (Addr × Sd)) : sdR L ++ sdR M = sdR (L ++ M) := (List.map_append ..).symm
theorem Tsd.app {tops : List Int} {H : Hp} {g g' c : Addr} {W U : List (Addr × Sd)} (h : Tsd tops H g W) (h' : Tsd tops H g' U) (e : H c = some (.tup (sdR W ++ sdR U))) : Tsd tops H c (W ++ U) := by
  refine ⟨by rw [e, sdR_app], fun z hz => ?_, fun z hz => ?_⟩
  · rcases List.mem_append.mp hz with h1 | h1
    · exact h.hW z h1
    · exact h'.hW z h1
  · rcases List.mem_append.mp hz with h1 | h1
    · exact h.ok z h1
    · exact h'.ok z h1
/-- a part of it -/
theorem slS {K : PySem.W.Frag} {tops : List Int} {p : Addr} {H : Hp} {W : List (Addr × Sd)} {lo hi : Option Int} {Q : VK} (h : Tsd tops H p W)
    (q : ∀ g H' U, Same H H' → Tsd tops H' g U → U.length ≤ W.length → Q (.ref g) H') : rSlA K (.ref p) lo hi H Q := by
  refine ⟨p, _, rfl, .inl (.inl h.eg), fun w => ?_, fun w g ng => ?_⟩
  · exact q p H W (Same.refl H) h (Nat.le_refl _)
  · have e : cutV (sdR W) lo hi = sdR ((W.drop (HT.sIx (sdR W).length 0 lo)).take (HT.sIx (sdR W).length (sdR W).length hi - HT.sIx (sdR W).length 0 lo)) := by
      unfold cutV sdR
      rw [List.map_take, List.map_drop]
    have sub : ∀ z ∈ (W.drop (HT.sIx (sdR W).length 0 lo)).take (HT.sIx (sdR W).length (sdR W).length hi - HT.sIx (sdR W).length 0 lo), z ∈ W := fun z hz => List.mem_of_mem_drop (List.mem_of_mem_take hz)
    have sg := same_new (o := HO.tup (cutV (sdR W) lo hi)) ng
    refine q g _ _ sg ⟨by rw [upd_same, e], fun z hz => (h.hW z (sub z hz)).keep (.same sg), fun z hz => h.ok z (sub z hz)⟩ ?_
    rw [List.length_take, List.length_drop]
    omega
section
variable {P : Program} {w : World} {K : PySem.W.Frag} {mg : Str → Option Value} {base : Heap}
def spHasL : Sp := fun vs H Q _ => ∃ (g t : Addr) (tops st : List Int) (W : List (Addr × Sd)), vs = [.ref g, .ref t] ∧ Tsd tops H g W ∧ H t = some (.tup (st.map V.int)) ∧ st.length = tops.length ∧ W.length ≤ 400 ∧ ∀ H', Same H H' → Q (.bl ((W.map (·.2)).all (inB st))) H'
abbrev a__law_has : Stmt := topS 49
abbrev n__law_has : List Str := ["_law_want_here", "_law_standing_here", "_law_side_here"]
theorem sc__law_has : FnScope n__law_has ["_law_want_here", "_law_standing_here"] (defScope a__law_has) := ⟨rfl, rfl, rfl, by decide +kernel, rfl, by decide +kernel, by decide +kernel⟩
set_option maxHeartbeats 8000000 in
theorem ok__law_has {f fLi : Addr} {fd fdLi : FuncData} {k : Nat}  (F : Fun K "_law_has" "_law_has" a__law_has f fd) (Li : Kn P w K mg base 1 "_law_is_in" ["_law_side_here", "_law_standing_here"] spIn fLi fdLi)  (m_all : mg "all" = none) : FnOk P w K mg base CX0 (k + 2) f fd ["_law_want_here", "_law_standing_here"] spHasL := by
  refine F.ok sc__law_has (fun vs H Q E h => ?_) (fun cdv A outer s H vs Q E hr h => ?_)
  · obtain ⟨g, t, tops, st, W, rfl, _⟩ := h
    rfl
  · obtain ⟨g, t, tops, st, W, rfl, hT, et, ls, lW, q⟩ := h
    refine ⟨_, (pss_one (ps_ret (pe_callB (cr_all rfl) (by rfl) m_all (by decide +kernel) (pa_cons (
        pe_lc (own := [("_law_side_here", 2)]) (g := (gName 2)) (tt := tYes) (te := (tCall spIn [] E0 (tCons (tVar 2) (tCons (tVar 1) tNil)))) rfl sc__law_has.nd (pi_tup (pv 0)) (blkOk_by (N := n__law_has) (sc := defScope a__law_has) (by decide +kernel))
          (fun _ _ _ _ _ => (pg_name (i := 2) sc__law_has.nd rfl (.inl rfl) (hf := .inr rfl))) (fun _ _ _ _ _ => pts_nil) (fun _ _ _ _ _ => (pe_kn Li hr (by omega) (pa_cons (pv 2) (pa_cons (pv 1) pa_nil))))) pa_nil)))), ?_⟩
    refine ⟨_, rfl, g, rfl, ⟨_, .inl (.inl hT.eg)⟩, fun D nD => lc_it (walk_tup (xs := sdR W)) (fun i H' => Same H H' ∧ H' D = some (.lst ((((W.map (·.2)).take i).map (inB st)).map V.bl))) ⟨same_new nD, upd_same⟩ (fun i H' _ u => .inl (.inl (u.1 _ _ hT.eg))) (fun i v' H2x H2 hi u z => ?_) (fun H2 u => ?_)⟩
    · obtain ⟨sm, eD⟩ := u
      obtain ⟨rfl, gv⟩ := z
      obtain ⟨z, ez, rfl⟩ := mapGet gv
      have mz := List.mem_of_getElem? ez
      have ez' : (W.map (·.2))[i]? = some z.2 := by rw [List.getElem?_map, ez]; rfl
      refine ⟨wipe_one, _, rfl, _, rfl, z.1, t, z.2, st, rfl, (hT.hW z mz).keep (.same sm), sm _ _ et, by rw [ls]; exact (hT.ok z mz).lt, ⟨_, eD, ?_, same_over sm nD, ?_⟩⟩
      · rw [List.length_map, List.length_map, List.length_take, List.length_map]
        exact small1000 (by omega)
      · rw [upd_same, all_take _ _ i z.2 ez']
    · obtain ⟨sm, eD⟩ := u
      have lw : (sdR W).length = (W.map (·.2)).length := by
        show (W.map fun z => V.ref z.1).length = _
        rw [List.length_map, List.length_map]
      rw [lw, List.take_length] at eD
      refine ⟨D, _, rfl, .inl (.inl eD), ?_⟩
      rw [all_id]
      exact q _ sm
def spWantL : Sp := fun vs H Q _ => ∃ (a t : Addr) (tops : List Int) (m c : Nat), vs = [.ref a, .ref t, .int (m : Int)] ∧ PotAt H a c ∧ H t = some (.tup (tops.map V.int)) ∧ Pl tops ∧ 1 ≤ tops.length ∧ tops.length ≤ 12 ∧ m ≤ 8 ∧ c < 800000 ∧
  ∀ H' g W, But a H H' → PotAt H' a (c + 1 + 3 * m) → Tsd tops H' g W → W.length ≤ m → Q (.ref g) H'
abbrev a__law_want : Stmt := topS 50
abbrev n__law_want : List Str := ["_law_pot_here", "_law_tops_here", "_law_most", "_law_k"]
theorem sc__law_want : FnScope n__law_want ["_law_pot_here", "_law_tops_here", "_law_most"] (defScope a__law_want) := ⟨rfl, rfl, rfl, by decide +kernel, rfl, by decide +kernel, by decide +kernel⟩
set_option maxHeartbeats 8000000 in
theorem ok__law_want {f fSd fT : Addr} {fd fdSd fdT : FuncData} {k : Nat}  (F : Fun K "_law_want" "_law_want" a__law_want f fd) (Sd : Kn P w K mg base 3 "_law_side" ["_law_pot_here", "_law_tops_here"] spSideL fSd fdSd) (T : Kn P w K mg base 1 "_law_take" ["_law_pot_here", "_law_many"] spTake fT fdT)  (m_range : mg "range" = none) (m_tuple : mg "tuple" = none) : FnOk P w K mg base CX0 (k + 4) f fd ["_law_pot_here", "_law_tops_here", "_law_most"] spWantL := by
  refine F.ok sc__law_want (fun vs H Q E h => ?_) (fun cdv A outer s H vs Q E hr h => ?_)
  · obtain ⟨a, t, tops, m, c, rfl, _⟩ := h
    rfl
  · obtain ⟨a, t, tops, m, c, rfl, pa, et, pl, l1, l12, m8, hc, q⟩ := h
    refine ⟨_, (pss_one (ps_ret (pe_callTy call_tuple_of (by rfl) m_tuple (by decide +kernel) (pa_cons (
        pe_lc (own := [("_law_k", 3)]) (g := (gName 3)) (tt := tYes) (te := (tCall spSideL [] E0 (tCons (tVar 0) (tCons (tVar 1) tNil)))) rfl sc__law_want.nd (pi_range1 (by rfl) m_range (pa_cons (pe_kn T hr (by omega) (pa_cons (pv 0) (pa_cons (pe_op op_add (pv 2) pe_int) pa_nil))) pa_nil)) (blkOk_by (N := n__law_want) (sc := defScope a__law_want) (by decide +kernel))
          (fun _ _ _ _ _ => (pg_name (i := 3) sc__law_want.nd rfl (.inl rfl) (hf := .inr rfl))) (fun _ _ _ _ _ => pts_nil) (fun _ _ _ _ _ => (pe_kn Sd hr (by omega) (pa_cons (pv 0) (pa_cons (pv 1) pa_nil))))) pa_nil)))), ?_⟩
    refine ⟨_, rfl, _, rfl, _, 1, rfl, rfl, a, _, c, rfl, pa, by omega, Int.lt_of_le_of_lt (show (m : Int) + 1 ≤ 9 by omega) (by decide), by omega, fun r H1 b1 p1 r0 r1 => ?_⟩
    obtain ⟨r, rfl⟩ : ∃ i : Nat, r = i := ⟨r.toNat, by omega⟩
    have et1 := (Keep.but b1 pa).tup et
    refine ⟨_, rfl, by omega, by omega, fun D nD => ?_⟩
    have nDa := p1.ne nD
    refine lc_it walk_range (fun i H' => But a H H' ∧ Keep H1 H' ∧ PotAt H' a (c + 1 + 3 * i) ∧ ∃ W, H' D = some (.lst (sdR W)) ∧ SdsAt H' W ∧ (∀ z ∈ W, SideOk tops z.2) ∧ W.length = i) ⟨but_new b1 (b1.free nDa nD), Keep.same (same_new nD), pot_upd (p1.mono (by omega)) nDa, [], upd_same, (fun _ h => absurd h List.not_mem_nil), (fun _ h => absurd h List.not_mem_nil), rfl⟩ (fun _ _ _ _ => trivial) (fun i v H2x H2 hi u z => ?_) (fun H2 u => ?_)
    · obtain ⟨b2, k2, p2, W, eD, hW, oW, lW⟩ := u
      obtain ⟨rfl, rfl⟩ := z
      have hi' : i < m := by omega
      refine ⟨wipe_one, _, rfl, _, rfl, a, t, tops, _, rfl, p2, k2.tup et1, pl, l1, l12, by omega, fun H3 p sd b3 p3 hs oks => ?_⟩
      have q3 := Keep.but b3 p2
      have eD3 := b3 _ _ nDa eD
      have kE : Keep H3 (upd H3 D (.lst (sdR W ++ [.ref p]))) := .upd eD3
      have b23 := b2.trans b3
      refine ⟨_, eD3, ?_, but_new b23 (b1.free nDa nD), (k2.trans q3).trans kE, pot_upd (p3.mono (by omega)) nDa, W ++ [(p, sd)], by rw [upd_same, ← sdR_app]; rfl, (hW.keep (q3.trans kE)).snoc (hs.keep kE), fun z hz => ?_, by rw [List.length_append, lW]; rfl⟩
      · show (W.map fun z => V.ref z.1).length < _
        rw [List.length_map]
        exact small1000 (by omega)
      · rcases List.mem_append.mp hz with h | h
        · exact oW z h
        · rw [List.mem_singleton.mp h]
          exact oks
    · obtain ⟨b2, k2, p2, W, eD, hW, oW, lW⟩ := u
      refine ⟨D, _, rfl, .inl ⟨.inl (.inl eD), fun g ng => ?_⟩⟩
      have sg := same_new (o := HO.tup (sdR W)) ng
      exact q _ g W (b2.trans (But.of sg)) ((p2.keep sg).mono (by omega)) ⟨upd_same, hW.keep (.same sg), oW⟩ (by omega)
/-- None, or a right side -/
def OptS (tops : List Int) (H : Hp) (v : V) : Prop := v = .non ∨ ∃ p s, v = .ref p ∧ SideAt H p s ∧ SideOk tops s
theorem OptS.keep {tops : List Int} {H H' : Hp} {v : V} (h : OptS tops H v) (k : Keep H H') : OptS tops H' v := by
  rcases h with h | ⟨p, s, e, hs, ok⟩
  · exact .inl h
  · exact .inr ⟨p, s, e, hs.keep k, ok⟩
def spBare : Sp := fun vs H Q _ => ∃ (a t R : Addr) (tops : List Int) (rs : List Rl) (c : Nat), vs = [.ref a, .ref t, .ref R] ∧ PotAt H a c ∧ H t = some (.tup (tops.map V.int)) ∧ RulesAt H R rs ∧ Few tops ∧ 1 ≤ tops.length ∧ tops.length ≤ 4 ∧ (∀ q ∈ rs, RuleOk tops q) ∧ rs.length ≤ 10 ∧ c < 700000 ∧
  ∀ H' g W, But a H H' → PotAt H' a (c + 20) → Tsd tops H' g W → W.length ≤ 8 → Q (.ref g) H'
end
end K11

set_option Elab.async false
set_option linter.all false
set_option maxRecDepth 100000
namespace K11
open PySem PySem.Spec PyProof.Rows L2 NB

/-! ### what a want leads to, by all sides -/
inductive Rb (tops : List Int) (rs : List Rl) (S : Sd → Prop) : Sd → Prop
  | base {s : Sd} : S s → Rb tops rs S s
  | step {a b : Sd} : Rb tops rs S a → SideOk tops b → ldsB tops rs a b = true → Rb tops rs S b
theorem within_refl (tops : List Int) (s : Sd) : withinB tops s s = true := within_iff.mpr ⟨rfl, Int.le_refl _, Int.le_refl _⟩
theorem within_trans {tops : List Int} {a b c : Sd} (h : withinB tops a b = true) (h' : withinB tops b c = true) : withinB tops a c = true := by
  rw [within_iff] at h h' ⊢
  exact ⟨h.1.trans h'.1, Int.le_trans h'.2.1 h.2.1, Int.le_trans h.2.2 h'.2.2⟩
theorem within_bars {tops : List Int} {a b f : Sd} (h : withinB tops a b = true) (hb : barsB tops b f = true) : barsB tops a f = true := by
  rw [within_iff] at h
  rw [bars_iff] at hb ⊢
  refine ⟨h.1.trans hb.1, ?_⟩
  rcases hb.2 with c | c
  · exact .inl (by omega)
  · exact .inr (by omega)
theorem Rb.rea {tops : List Int} {rs : List Rl} {S : Sd → Prop} {z : Sd} (h : Rb tops rs S z) : ∃ s, Rea tops rs S s ∧ withinB tops s z = true := by
  induction h with
  | base h => exact ⟨_, .base h, within_refl _ _⟩
  | step _ _ l ih =>
    obtain ⟨s, r, wi⟩ := ih
    unfold ldsB at l
    rw [Bool.or_eq_true, decide_eq_true_eq] at l
    rcases l with l | l
    · exact ⟨s, r, within_trans wi l⟩
    · refine ⟨_, .step r (led_iff.mpr ?_), within_refl _ _⟩
      obtain ⟨q, hq, h⟩ := led_iff.mp l
      exact ⟨q, hq, h.imp (fun h => ⟨within_bars wi h.1, h.2⟩) (fun h => ⟨within_bars wi h.1, h.2⟩)⟩
theorem Rea.rb {tops : List Int} {rs : List Rl} (rok : ∀ q ∈ rs, RuleOk tops q) {S : Sd → Prop} {z : Sd} (h : Rea tops rs S z) : Rb tops rs S z := by
  induction h with
  | base h => exact .base h
  | step _ m ih => exact .step ih (led_ok rok m) (by unfold ldsB; rw [decide_eq_true m, Bool.or_true])
/-- a row of what the sides give -/
structure RowB (tops : List Int) (M : List Sd) (i : Nat) (lo hi : Int) : Prop where
  l0 : lo = 0 ∨ (i, true, lo) ∈ M
  l1 : ∀ p, (i, true, p) ∈ M → p ≤ lo
  lz : 0 ≤ lo
  h0 : hi = plc tops i ∨ (i, false, hi) ∈ M
  h1 : ∀ p, (i, false, p) ∈ M → hi ≤ p
  hz : hi ≤ plc tops i
theorem fol_rows {tops : List Int} {rs : List Rl} (rok : ∀ q ∈ rs, RuleOk tops q) {S : Sd → Prop} (hS : ∀ s, S s → SideOk tops s) {M : List Sd} (hM : ∀ s, s ∈ M ↔ Rb tops rs S s) {lows highs : List Int} (ll : lows.length = tops.length) (lh : highs.length = tops.length) (h : ∀ i, i < tops.length → RowB tops M i (plc lows i) (plc highs i)) : Fol tops rs S lows highs := by
  refine ⟨ll, lh, fun i hi => ?_, fun i hi => ?_, fun i p r => ?_, fun i p r => ?_, fun i hi => (h i hi).lz, fun i hi => (h i hi).hz⟩
  · rcases (h i hi).l0 with e | m
    · exact .inl e
    · obtain ⟨⟨j, b, p⟩, r, wi⟩ := ((hM _).mp m).rea
      obtain ⟨e, w1, w2⟩ := within_iff.mp wi
      have e : j = i := e
      subst e
      have lz := (h j hi).lz
      cases b with
      | true =>
        have w1 : plc lows j ≤ p := w1
        have := (h j hi).l1 p ((hM _).mpr (r.rb rok))
        rw [show plc lows j = p by omega]
        exact .inr r
      | false =>
        have w1 : plc lows j ≤ 0 := w1
        exact .inl (by omega)
  · rcases (h i hi).h0 with e | m
    · exact .inl e
    · obtain ⟨⟨j, b, p⟩, r, wi⟩ := ((hM _).mp m).rea
      obtain ⟨e, w1, w2⟩ := within_iff.mp wi
      have e : j = i := e
      subst e
      have hz := (h j hi).hz
      cases b with
      | false =>
        have w2 : p ≤ plc highs j := w2
        have := (h j hi).h1 p ((hM _).mpr (r.rb rok))
        rw [show plc highs j = p by omega]
        exact .inr r
      | true =>
        have w2 : plc tops j ≤ plc highs j := w2
        exact .inl (by omega)
  · exact (h i (r.ok rok hS).lt).l1 p ((hM _).mpr (r.rb rok))
  · exact (h i (r.ok rok hS).lt).h1 p ((hM _).mpr (r.rb rok))
theorem Fol.uniq {tops : List Int} {rs : List Rl} {S : Sd → Prop} {l1 h1 l2 h2 : List Int} (F : Fol tops rs S l1 h1) (G : Fol tops rs S l2 h2) : l1 = l2 ∧ h1 = h2 := by
  constructor
  · refine plc_ext (F.ll.trans G.ll.symm) fun i hi => ?_
    rw [F.ll] at hi
    have a : plc l1 i ≤ plc l2 i := by
      rcases F.l0 i hi with e | r
      · rw [e]
        exact G.lz i hi
      · exact G.l1 _ _ r
    have b : plc l2 i ≤ plc l1 i := by
      rcases G.l0 i hi with e | r
      · rw [e]
        exact F.lz i hi
      · exact F.l1 _ _ r
    omega
  · refine plc_ext (F.lh.trans G.lh.symm) fun i hi => ?_
    rw [F.lh] at hi
    have a : plc h2 i ≤ plc h1 i := by
      rcases F.h0 i hi with e | r
      · rw [e]
        exact G.hz i hi
      · exact G.h1 _ _ r
    have b : plc h1 i ≤ plc h2 i := by
      rcases G.h0 i hi with e | r
      · rw [e]
        exact F.hz i hi
      · exact F.h1 _ _ r
    omega
theorem valV_const (L : List Sd) (s : Sd) (v : V) : valV (L.map fun t => (KS t, v)) (KS s) = if s ∈ L then some v else none := by
  unfold valV
  induction L with
  | nil => rfl
  | cons t L ih =>
    rw [List.map_cons, List.find?_cons]
    by_cases c : t = s
    · rw [c, decide_eq_true rfl, if_pos List.mem_cons_self]
      rfl
    · rw [decide_eq_false (fun e => c (KS_inj e)), ih]
      by_cases m : s ∈ L
      · rw [if_pos m, if_pos (List.mem_cons_of_mem _ m)]
      · rw [if_neg m, if_neg fun h => (List.mem_cons.mp h).elim (fun e => c e.symm) m]
theorem putAll_const (v : V) : ∀ (ss L : List Sd), (ss.map fun s => (KS s, v)).foldl (fun acc kv => putK acc kv.1 kv.2) (L.map fun t => (KS t, v)) = (ss.foldl insS L).map fun t => (KS t, v)
  | [], L => rfl
  | s :: ss, L => by
    rw [List.map_cons, List.foldl_cons, List.foldl_cons, put_const, putAll_const v ss (insS L s)]
theorem insAll_mem {t : Sd} : ∀ (ss L : List Sd), t ∈ ss.foldl insS L ↔ t ∈ L ∨ t ∈ ss
  | [], L => ⟨.inl, fun h => h.elim id fun h => absurd h List.not_mem_nil⟩
  | s :: ss, L => by
    rw [List.foldl_cons, insAll_mem ss, ins_mem, List.mem_cons, or_assoc]
theorem insAll_nd : ∀ (ss L : List Sd), L.Nodup → (ss.foldl insS L).Nodup
  | [], _, h => h
  | s :: ss, L, h => insAll_nd ss _ (ins_nd h)
theorem eqv_nilS (L : List (Addr × Sd)) : PyData.eqv (.list (sdsD L)) (.list []) = L.isEmpty := by
  cases L <;> rfl
theorem sds_few {tops : List Int} (fw : Few tops) (l4 : tops.length ≤ 4) {M : List Sd} (nd : M.Nodup) (ok : ∀ s ∈ M, SideOk tops s) : M.length ≤ 32 := by
  have h1 := nodup_len M (allS tops) nd fun s hs => (allS_ok fw).mpr (ok s hs)
  have h2 := allS_len fw
  omega
/-- the places of the sides of one kind -/
def placesOf (M : List Sd) (i : Nat) (b : Bool) : List Int := (M.filter fun s => decide (s.1 = i ∧ s.2.1 = b)).map (·.2.2)
theorem places_mem {M : List Sd} {i : Nat} {b : Bool} {p : Int} : p ∈ placesOf M i b ↔ (i, b, p) ∈ M := by
  unfold placesOf
  rw [List.mem_map]
  constructor
  · rintro ⟨⟨j, c, q⟩, h, rfl⟩
    rw [List.mem_filter, decide_eq_true_eq] at h
    obtain ⟨h1, h2, h3⟩ := h
    have h2 : j = i := h2
    have h3 : c = b := h3
    subst h2 h3
    exact h1
  · intro h
    exact ⟨_, List.mem_filter.mpr ⟨h, decide_eq_true ⟨rfl, rfl⟩⟩, rfl⟩
theorem places_take {M : List Sd} {k i : Nat} {b : Bool} {s : Sd} (h : M[k]? = some s) : placesOf (M.take (k + 1)) i b = placesOf (M.take k) i b ++ (if s.1 = i ∧ s.2.1 = b then [s.2.2] else []) := by
  unfold placesOf
  rw [List.take_add_one, h, List.filter_append, List.map_append]
  congr 1
  by_cases c : s.1 = i ∧ s.2.1 = b
  · simp [c.1, c.2]
  · rw [if_neg c]
    show List.map _ (List.filter _ [s]) = []
    rw [List.filter_cons, if_neg (by rw [decide_eq_true_eq]; exact c)]
    rfl
theorem shaped_iw (i : Int) (b : Bool) : SeqAt.shaped (.tuple [.int i, .str (word b)]) = true := by
  unfold SeqAt.shaped
  have h : PyData.strOk (word b) = true := by
    cases b <;> decide +kernel
  simp [PyData.canLay0, PyData.canLayAll0, PyData.depth, PyData.depthAll, h]
theorem eqv_iw (i j : Nat) (b c : Bool) : PyData.eqv (.tuple [.int (i : Int), .str (word b)]) (.tuple [.int (j : Int), .str (word c)]) = decide (i = j ∧ b = c) := by
  simp only [PyData.eqv, PyData.eqvAll, Bool.and_true]
  rw [Bool.eq_iff_iff]
  simp only [Bool.and_eq_true, decide_eq_true_eq, beq_iff_eq]
  constructor
  · rintro ⟨h1, h2⟩
    exact ⟨by omega, word_inj h2⟩
  · rintro ⟨rfl, rfl⟩
    exact ⟨rfl, rfl⟩
/-- whether it, of anything, is a want -/
def wantD (tops : List Int) (d : PyData) : Bool := areSidesD tops d && decide (dLen d ≤ 24)
section
variable {P : Program} {w : World} {K : PySem.W.Frag} {mg : Str → Option Value} {base : Heap}
def spIsW (C : Addr) : Sp := fun vs H Q _ => ∃ (n x : Addr) (tops : List Int) (rs : List Rl) (v : V) (d : PyData), vs = [.ref x, v] ∧ PlanAt C H x tops rs ∧ Da n H v d ∧ dLen d ≤ 200000 ∧ ∀ H', Same H H' → Q (.bl (wantD tops d)) H'
abbrev a_is_want : Stmt := topS 21
abbrev n_is_want : List Str := ["plan", "thing"]
theorem sc_is_want : FnScope n_is_want ["plan", "thing"] (defScope a_is_want) := ⟨rfl, rfl, rfl, by decide +kernel, rfl, by decide +kernel, by decide +kernel⟩
set_option maxHeartbeats 8000000 in
theorem ok_is_want {f fSs : Addr} {fd fdSs : FuncData} {k : Nat} {C : Addr} {t6 : Tok} (F : Fun K "is_want" "is_want" a_is_want f fd) (Ss : Kn P w K mg base 4 "are_sides_of" ["tops", "thing"] (spLookT4 areSidesD) fSs fdSs) (T : PlanTxt K mg C) (gv6 : mg "MOST_SIDES" = some (.int 24 t6)) (m_len : mg "len" = none) : FnOk P w K mg base CX0 (k + 5) f fd ["plan", "thing"] (spIsW C) := by
  refine F.ok sc_is_want (fun vs H Q E h => ?_) (fun cdv A outer s H vs Q E hr h => ?_)
  · obtain ⟨n, x, tops, rs, v, d, rfl, _⟩ := h
    rfl
  · obtain ⟨n, x, tops, rs, v, d, rfl, hp, hd, l4, q⟩ := h
    refine ⟨_, (pss_one (ps_ret (pe_and (pe_kn Ss hr (by omega) (pa_cons (pe_fld (pv 0) rfl) (pa_cons (pv 1) pa_nil))) (pe_one (pe_cmpR op_le (pe_callB call_len_seq (by rfl) m_len (by decide +kernel) (pa_cons (pv 1) pa_nil)) (pe_glob (v := .int 24) rfl gv6 ⟨_, rfl⟩) (nomark _)))))), ?_⟩
    obtain ⟨dx, t, R, ex, et, hR⟩ := id hp
    refine ⟨.ref x, rfl, x, C, dx, _, _, rfl, ex, T.cl, T.nT, look_tops _ _, v, rfl, n, t, tops, v, d, rfl, et, hd, l4, fun H1 s1 => ⟨_, rfl, ?_⟩⟩
    unfold wantD at q
    cases cs : areSidesD tops d with
    | false =>
      rw [cs, Bool.false_and] at q
      exact iteF (q _ s1)
    | true =>
      rw [cs, Bool.true_and] at q
      obtain ⟨ds, rfl⟩ : ∃ ds, d = .tuple ds := by
        rcases tup_or d with h | h
        · exact h
        · rw [areS_no h] at cs
          cases cs
      cases hd with
      | tup ec ha =>
      rename_i c xs
      have ll := ha.len
      have e : decide (dLen (.tuple ds) ≤ 24) = decide ((xs.length : Int) ≤ 24) := by
        show decide (ds.length ≤ 24) = _
        rw [decide_eq_decide]
        omega
      rw [e] at q
      exact iteT ⟨_, rfl, c, xs, rfl, .inr (.inl (.inl (s1 _ _ ec))), _, 24, rfl, rfl, q _ s1⟩
def spLIsW : Sp := fun vs H Q _ => ∃ (n t : Addr) (tops : List Int) (v : V) (d : PyData), vs = [.ref t, v] ∧ H t = some (.tup (tops.map V.int)) ∧ Da n H v d ∧ ∀ H', Same H H' → Q (.bl (wantD tops d)) H'
abbrev a__law_is_want : Stmt := topS 53
abbrev n__law_is_want : List Str := ["_law_tops_here", "_law_item", "_law_side_here"]
theorem sc__law_is_want : FnScope n__law_is_want ["_law_tops_here", "_law_item"] (defScope a__law_is_want) := ⟨rfl, rfl, rfl, by decide +kernel, rfl, by decide +kernel, by decide +kernel⟩
set_option maxHeartbeats 8000000 in
theorem ok__law_is_want {f fIs : Addr} {fd fdIs : FuncData} {k : Nat}  (F : Fun K "_law_is_want" "_law_is_want" a__law_is_want f fd) (Is : Kn P w K mg base 1 "_law_is_side" ["_law_tops_here", "_law_item"] (spLookT sideD) fIs fdIs)  (m_all : mg "all" = none) (m_isinstance : mg "isinstance" = none) (m_len : mg "len" = none) (m_tuple : mg "tuple" = none) : FnOk P w K mg base CX0 (k + 2) f fd ["_law_tops_here", "_law_item"] spLIsW := by
  refine F.ok sc__law_is_want (fun vs H Q E h => ?_) (fun cdv A outer s H vs Q E hr h => ?_)
  · obtain ⟨n, t, tops, v, d, rfl, _⟩ := h
    rfl
  · obtain ⟨n, t, tops, v, d, rfl, et, hd, q⟩ := h
    refine ⟨_, (pss_one (ps_ret (pe_and (pe_callB call_isiD (by rfl) m_isinstance (by decide +kernel) (pa_cons (pv 1) (pa_cons (pe_bltn (v := .ty "tuple") (u := .type "tuple") (by rfl) m_tuple (by decide +kernel) rfl) pa_nil))) (pe_and (pe_cmpR op_lt (pe_callB call_len_seq (by rfl) m_len (by decide +kernel) (pa_cons (pv 1) pa_nil)) pe_int (nomark _)) (pe_one (pe_callB (cr_all rfl) (by rfl) m_all (by decide +kernel) (pa_cons (
        pe_lc (own := [("_law_side_here", 2)]) (g := (gName 2)) (tt := tYes) (te := (tCall (spLookT sideD) [] E0 (tCons (tVar 0) (tCons (tVar 2) tNil)))) rfl sc__law_is_want.nd (pi_tup (pv 1)) (blkOk_by (N := n__law_is_want) (sc := defScope a__law_is_want) (by decide +kernel))
          (fun _ _ _ _ _ => (pg_name (i := 2) sc__law_is_want.nd rfl (.inl rfl) (hf := .inr rfl))) (fun _ _ _ _ _ => pts_nil) (fun _ _ _ _ _ => (pe_kn Is hr (by omega) (pa_cons (pv 0) (pa_cons (pv 2) pa_nil))))) pa_nil))))))), ?_⟩
    rcases tup_or d with ⟨ds, rfl⟩ | hn
    · have hd0 := hd
      cases hd with
      | tup e ha =>
      rename_i a xs
      have ll := ha.len
      refine ⟨_, rfl, n, _, _, "tuple", _, rfl, hd0, kit_tup _, _, rfl, iteT ⟨_, rfl, a, xs, rfl, .inr (.inl (.inl e)), _, 25, rfl, rfl, _, rfl, ?_⟩⟩
      by_cases c : ds.length ≤ 24
      · have eF : wantD tops (.tuple ds) = ds.all (sideD tops) := by
          show (ds.all (sideD tops) && decide (ds.length ≤ 24)) = _
          rw [decide_eq_true c, Bool.and_true]
        rw [eF] at q
        refine iteTr (decide_eq_true (by omega)) ⟨_, rfl, a, rfl, ⟨_, .inl (.inl e)⟩, fun D nD => lc_it (walk_tup (xs := xs)) (fun i H' => Same H H' ∧ H' D = some (.lst (((ds.take i).map (sideD tops)).map V.bl))) ⟨same_new nD, upd_same⟩ (fun i H' _ p => .inl (.inl (p.1 _ _ e))) (fun i v H1 H2 hi p y => ?_) (fun H' p => ?_)⟩
        · obtain ⟨sm, eD⟩ := p
          obtain ⟨rfl, gv⟩ := y
          obtain ⟨dd, ed, hdd⟩ := ha.get i v gv
          refine ⟨wipe_one, .ref t, rfl, v, rfl, n, t, tops, v, dd, rfl, sm _ _ et, hdd.same sm, fun H4 s4 => ⟨_, s4 _ _ eD, ?_, same_over (sm.trans s4) nD, ?_⟩⟩
          · rw [List.length_map, List.length_map, List.length_take]
            exact small1000 (by omega)
          · rw [upd_same, all_take (sideD tops) _ i dd ed]
        · obtain ⟨sm, eD⟩ := p
          rw [List.take_of_length_le (by omega)] at eD
          refine ⟨D, _, rfl, .inl (.inl eD), ?_⟩
          rw [all_id]
          exact q H' sm
      · have eF : wantD tops (.tuple ds) = false := by
          show (ds.all (sideD tops) && decide (ds.length ≤ 24)) = _
          rw [decide_eq_false c, Bool.and_false]
        rw [eF] at q
        exact iteFa (decide_eq_false (by omega)) (q H (Same.refl H))
    · have eF : wantD tops d = false := by
        unfold wantD
        rw [areS_no hn, Bool.false_and]
      rw [eF] at q
      refine ⟨_, rfl, n, _, _, "tuple", _, rfl, hd, kit_tup _, _, rfl, ?_⟩
      rw [hn]
      exact iteF (q H (Same.refl H))
theorem cut_2of3 {K : PySem.W.Frag} {H : Hp} {p : Addr} {x y z : V} {Q : VK} (e : H p = some (.tup [x, y, z])) (q : ∀ g H', Same H H' → H' g = some (.tup [x, y]) → Q (.ref g) H') : rSlA K (.ref p) none (some 2) H Q :=
  ⟨p, _, rfl, .inl (.inl e), fun w => absurd w (show ¬ (HT.sIx 3 0 none = 0 ∧ HT.sIx 3 3 (some 2) = 3) by decide), fun _ g ng => q g _ (same_new ng) upd_same⟩
/-- the law's walk over all that follows -/
def ReachI (H : Hp) (t d g mt l : Addr) (tops : List Int) (rs : List Rl) (W : List (Addr × Sd)) (m : Nat) (σ : L2.St) (H' : Hp) : Prop := ∃ (Lw : List (Addr × Sd)) (M : List Sd) (u3 : Option V), σ = [some (.ref t), some (.ref d), some (.ref g), u3, some (.ref mt), some (.ref l), none, none, none, none, none] ∧ Same H H' ∧ H' l = some (.lst (sdR Lw)) ∧ SdsAt H' Lw ∧ H' mt = some (.dT (M.map fun t => (KS t, V.bl true))) ∧ M.Nodup ∧ (∀ s ∈ M, SideOk tops s ∧ Rb tops rs (· ∈ W.map (·.2)) s) ∧ (∀ s ∈ W.map (·.2), s ∈ M) ∧ (∀ z ∈ Lw, z.2 ∈ M) ∧ (∀ s ∈ M, (∃ z ∈ Lw, z.2 = s) ∨ ∀ y, SideOk tops y → ldsB tops rs s y = true → y ∈ M) ∧ m = 2 * (40 - M.length) + Lw.length ∧ Lw.length ≤ 30 + M.length
def spReach : Sp := fun vs H Q _ => ∃ (t d g : Addr) (tops : List Int) (rs : List Rl) (kvs : List (List Key × V)) (W : List (Addr × Sd)), vs = [.ref t, .ref d, .ref g] ∧ H t = some (.tup (tops.map V.int)) ∧ Few tops ∧ tops.length ≤ 4 ∧ Rds tops rs H d kvs ∧ Tsd tops H g W ∧ W.length ≤ 30 ∧ (∀ q ∈ rs, RuleOk tops q) ∧
  ∀ H' p lows highs, Same H H' → BndAt H' p lows highs → Fol tops rs (· ∈ W.map (·.2)) lows highs → Q (.ref p) H'
abbrev a__law_reach : Stmt := topS 54
abbrev n__law_reach : List Str := ["_law_tops_here", "_law_roads_here", "_law_want_here", "_law_side_here", "_law_met", "_law_waiting", "_law_found", "_law_thing", "_law_top", "_law_lows", "_law_highs"]
theorem sc__law_reach : FnScope n__law_reach ["_law_tops_here", "_law_roads_here", "_law_want_here"] (defScope a__law_reach) := ⟨rfl, rfl, rfl, by decide +kernel, rfl, by decide +kernel, by decide +kernel⟩
set_option maxHeartbeats 8000000 in
theorem ok__law_reach {f  : Addr} {fd  : FuncData} {k : Nat}  (F : Fun K "_law_reach" "_law_reach" a__law_reach f fd)   (m_dict : mg "dict" = none) (m_enumerate : mg "enumerate" = none) (m_list : mg "list" = none) (m_max : mg "max" = none) (m_min : mg "min" = none) (m_tuple : mg "tuple" = none) : FnOk P w K mg base CX0 (k + 1) f fd ["_law_tops_here", "_law_roads_here", "_law_want_here"] spReach := by
  refine F.ok sc__law_reach (fun vs H Q E h => ?_) (fun cdv A outer s H vs Q E hr h => ?_)
  · obtain ⟨t, d, g, tops, rs, kvs, W, rfl, _⟩ := h
    rfl
  · obtain ⟨t, d, g, tops, rs, kvs, W, rfl, et, fw, l4, rd, hT, lW, rok, q⟩ := h
    refine ⟨_, (pss_cons (ps_par (i := 4) (j := 5) (by rfl) sc__law_reach.nd rfl rfl (by decide) rfl rfl (pa_cons (pe_callTy (call_dictT rfl (unit8' hr.units)) (by rfl) m_dict (by decide +kernel) (pa_cons (
        pe_lc (own := [("_law_side_here", 3)]) (g := (gName 3)) (tt := tYes) (te := (tTup (tCons (tVar 3) (tCons (tC (.bl true)) tNil)))) rfl sc__law_reach.nd (pi_tup (pv 2)) (blkOk_by (N := n__law_reach) (sc := defScope a__law_reach) (by decide +kernel))
          (fun _ _ _ _ _ => (pg_name (i := 3) sc__law_reach.nd rfl (.inl rfl) (hf := .inr rfl))) (fun _ _ _ _ _ => pts_nil) (fun _ _ _ _ _ => (pe_tup (pa_cons (pv 3) (pa_cons pe_bl pa_nil))))) pa_nil)) (pa_cons (pe_callTy call_list_of (by rfl) m_list (by decide +kernel) (pa_cons (pv 2) pa_nil)) pa_nil)) (by rfl))
      (pss_cons (ps_while PassesOwn.never (pt_cmpR (op_neD hr.units) (pv 5) (pe_lst pa_nil) (nomark _))
        (pss_one (ps_for PassesOwn.never rfl (pi_list (pe_dget (Room.u1 hr) (pv 1) (pe_bm0 PySem.F.plainAttrs_list PySem.F.slot_list_pop PySem.F.type_list_pop mt_pop (pv 5)) (fun _ _ => rfl))) (pg_name (i := 3) sc__law_reach.nd rfl (.inl rfl))
        (pss_one (ps_if (pt_cmp (pc_dnotin (Room.u1 hr) (pv 3) (pv 4))) (pss_cons (ps_dput (Room.u1 hr) (pv 4) (pv 3) pe_bl rfl)
      (pss_one (ps_expr (pe_bm PySem.F.plainAttrs_list PySem.F.slot_list_append PySem.F.type_list_append mt_append (pv 5) (pa_cons (pv 3) pa_nil))))) pss_nil)))))
      (pss_cons (ps_set (i := 6) sc__law_reach.nd rfl (.inl rfl) (pe_lst pa_nil))
      (pss_cons (ps_for PassesOwn.never rfl (pi_enumT (by rfl) m_enumerate (pa_cons (pv 0) pa_nil)) (pg_tup rfl (pgs_cons (pg_name (i := 7) sc__law_reach.nd rfl (.inr rfl)) (pgs_cons (pg_name (i := 8) sc__law_reach.nd rfl (.inl rfl)) pgs_nil)))
        (pss_cons (ps_lock (ps_setLc (i := 9) (own := [("_law_side_here", 3)]) (g := (gName 3)) (tt := (tTest (tOp (rEqD K) (tSl (rSlA K) (tVar 3) tNoPart (tPart (tC (.int 2)))) (tTup (tCons (tVar 7) (tCons (tC (.str "from")) tNil)))))) (te := (tOp (rIxT K) (tVar 3) (tC (.int 2)))) rfl sc__law_reach.nd rfl rfl (sw_true rfl rfl rfl (by decide +kernel)) (pi_keys (pv 4)) (blkOk_by (N := n__law_reach) (sc := defScope a__law_reach) (by decide +kernel))
          (fun _ _ _ _ _ => (pg_name (i := 3) sc__law_reach.nd rfl (.inl rfl) (hf := .inr rfl))) (fun _ _ _ _ _ => pts_one (pt_cmpR (r := rEqD K) (op_eqD hr.units) (pe_slice (r := rSlA K) sl_tupA (pv 3) po_none (po_some pe_int)) (pe_tup (pa_cons (pv 7) (pa_cons pe_str pa_nil))) (nomark _))) (fun _ _ _ _ _ => (pe_ix (r := rIxT K) ix_tup (pv 3) pe_int (fun _ _ => rfl)))))
      (pss_cons (ps_lock (ps_setLc (i := 10) (own := [("_law_side_here", 3)]) (g := (gName 3)) (tt := (tTest (tOp (rEqD K) (tSl (rSlA K) (tVar 3) tNoPart (tPart (tC (.int 2)))) (tTup (tCons (tVar 7) (tCons (tC (.str "to")) tNil)))))) (te := (tOp (rIxT K) (tVar 3) (tC (.int 2)))) rfl sc__law_reach.nd rfl rfl (sw_true rfl rfl rfl (by decide +kernel)) (pi_keys (pv 4)) (blkOk_by (N := n__law_reach) (sc := defScope a__law_reach) (by decide +kernel))
          (fun _ _ _ _ _ => (pg_name (i := 3) sc__law_reach.nd rfl (.inl rfl) (hf := .inr rfl))) (fun _ _ _ _ _ => pts_one (pt_cmpR (r := rEqD K) (op_eqD hr.units) (pe_slice (r := rSlA K) sl_tupA (pv 3) po_none (po_some pe_int)) (pe_tup (pa_cons (pv 7) (pa_cons pe_str pa_nil))) (nomark _))) (fun _ _ _ _ _ => (pe_ix (r := rIxT K) ix_tup (pv 3) pe_int (fun _ _ => rfl)))))
      (pss_one (ps_expr (pe_bm PySem.F.plainAttrs_list PySem.F.slot_list_append PySem.F.type_list_append mt_append (pv 6) (pa_cons (pe_tup (pa_cons (pe_callB (cr_max rfl) (by rfl) m_max (by decide +kernel) (pa_cons (pe_op op_cat (pv 9) (pe_lst (pa_cons pe_int pa_nil))) pa_nil)) (pa_cons (pe_callB (cr_min rfl) (by rfl) m_min (by decide +kernel) (pa_cons (pe_op op_cat (pv 10) (pe_lst (pa_cons (pv 8) pa_nil))) pa_nil)) pa_nil))) pa_nil)))))))
      (pss_one (ps_ret (pe_callTy call_tuple_of (by rfl) m_tuple (by decide +kernel) (pa_cons (pv 6) pa_nil)))))))), ?_⟩
    have w2 : (2 : Nat) ≤ sizeLine := by decide
    have ow : ∀ s ∈ W.map (·.2), SideOk tops s := fun s hs => by
      obtain ⟨z, hz, rfl⟩ := List.mem_map.mp hs
      exact hT.ok z hz
    have lr : ∀ L : List (Addr × Sd), (sdR L).length = L.length := fun L => List.length_map _
    refine ⟨_, rfl, g, rfl, ⟨_, .inl (.inl hT.eg)⟩, fun D nD => lc_it (walk_tup (xs := sdR W)) (fun k H' => Same H H' ∧ ∃ E : List (Addr × Addr × List Key × V), H' D = some (.lst (E.map fun z => V.ref z.1)) ∧ E.length = k ∧ (E.map fun z => (z.2.2.1, z.2.2.2)) = ((W.take k).map (·.2)).map (fun s => (KS s, V.bl true)) ∧ ∀ z ∈ E, H' z.1 = some (.tup [.ref z.2.1, z.2.2.2]) ∧ H' z.2.1 = some (.tup (z.2.2.1.map kV))) ⟨same_new nD, [], upd_same, rfl, rfl, fun z hz => absurd hz List.not_mem_nil⟩ (fun k H' _ y => .inl (.inl (y.1 _ _ hT.eg))) (fun k v H2x H2 hk y z => ?_) (fun H2 y => ?_)⟩
    · obtain ⟨s2, E, eD, lE, kE, hE⟩ := y
      obtain ⟨rfl, gv⟩ := z
      obtain ⟨z, ez, rfl⟩ := mapGet gv
      have mz := List.mem_of_getElem? ez
      rw [lr] at hk
      refine ⟨wipe_one, _, rfl, w2, fun T nT => ?_⟩
      have sT := same_new (o := HO.tup [V.ref z.1, V.bl true]) nT
      have eT : (upd H2 T (.tup [V.ref z.1, V.bl true])) T = some (.tup [V.ref z.1, V.bl true]) := upd_same
      have hz : SideAt (upd H2 T (.tup [V.ref z.1, V.bl true])) z.1 z.2 := (hT.hW z mz).keep (.same (s2.trans sT))
      have eD' := sT _ _ eD
      have s1T := s2.trans sT
      generalize upd H2 T (.tup [V.ref z.1, V.bl true]) = H4 at sT eD' hz eT s1T ⊢
      have kU : Keep H4 (upd H4 D (.lst (E.map (fun z => V.ref z.1) ++ [V.ref T]))) := .upd eD'
      refine ⟨_, eD', by rw [List.length_map]; exact small1000 (by omega), same_over s1T nD, E ++ [(T, z.1, KS z.2, V.bl true)], by rw [upd_same, List.map_append]; rfl, by rw [List.length_append, lE]; rfl, ?_, fun x hx => ?_⟩
      · rw [List.map_append, kE, List.take_add_one, ez, List.map_append, List.map_append]
        rfl
      · rcases List.mem_append.mp hx with h | h
        · obtain ⟨x1, x2⟩ := hE x h
          exact ⟨kU.tup (sT _ _ x1), kU.tup (sT _ _ x2)⟩
        · obtain rfl := List.mem_singleton.mp h
          exact ⟨kU.tup eT, kU.tup hz⟩
    obtain ⟨s2, E, eD, lE, kE, hE⟩ := y
    rw [lr] at lE kE
    rw [List.take_length] at kE
    refine ⟨D, E, rfl, eD, hE, fun mt nm => ?_⟩
    have sm := same_new (o := HO.dT (putAll (E.map fun z => (z.2.2.1, z.2.2.2)))) nm
    have em : (upd H2 mt (.dT (putAll (E.map fun z => (z.2.2.1, z.2.2.2))))) mt = some (.dT (((W.map (·.2)).foldl insS []).map fun t => (KS t, V.bl true))) := by
      rw [upd_same, kE]
      exact congrArg (fun l => some (HO.dT l)) (putAll_const (V.bl true) (W.map fun z : Addr × Sd => z.2) [])
    have nmH : H mt = none := s2.free nm
    have s3 := s2.trans sm
    generalize upd H2 mt (.dT (putAll (E.map fun z => (z.2.2.1, z.2.2.2)))) = H3 at sm em s3 ⊢
    refine ⟨_, rfl, g, _, rfl, .inr (.inl (.inl (s3 _ _ hT.eg))), fun l nl => ⟨_, _, rfl, ?_⟩⟩
    have sl := same_new (o := HO.lst (sdR W)) nl
    have nlH : H l = none := s3.free nl
    have nlm : l ≠ mt := fun e => by
      rw [e, em] at nl
      cases nl
    have m0 : ∀ s, s ∈ (W.map (·.2)).foldl insS [] ↔ s ∈ W.map (·.2) := fun s => by
      rw [insAll_mem]
      exact ⟨fun h => h.elim (fun h => absurd h List.not_mem_nil) id, .inr⟩
    refine ⟨ReachI H t d g mt l tops rs W,
      ⟨_, W, (W.map (·.2)).foldl insS [], none, rfl, s3.trans sl, upd_same, hT.hW.keep (.same (s3.trans sl)), sl _ _ em, insAll_nd _ _ .nil, fun s hs => ⟨ow s ((m0 s).mp hs), .base ((m0 s).mp hs)⟩, fun s hs => (m0 s).mpr hs, fun z hz => (m0 _).mpr (List.mem_map.mpr ⟨z, hz, rfl⟩), fun s hs => .inl ?_, rfl, by omega⟩, fun m σ H4 I => ?_⟩
    · obtain ⟨z, hz, e⟩ := List.mem_map.mp ((m0 s).mp hs)
      exact ⟨z, hz, e⟩
    obtain ⟨Lw, M, u3, rfl, s4, el, hLw, em4, nd, okM, subW, inM, clM, rfl, lLw⟩ := I
    have lM := sds_few fw l4 nd fun s hs => (okM s hs).1
    refine ⟨_, rfl, Nat.zero_le _, fun z nz => ?_⟩
    have sz := same_new (o := HO.lst []) nz
    refine ⟨_, _, .lst (.inl (.inl (sz _ _ el))) (dp_sds (hLw.keep (.same sz))), .lst (.inl (.inl upd_same)) .nil, shaped_sdsL _, by decide, _, rfl, ?_⟩
    rw [eqv_nilS]
    have s5 := s4.trans sz
    have el5 := sz _ _ el
    have em5 := sz _ _ em4
    have hLw5 := hLw.keep (.same sz)
    generalize upd H4 z (.lst []) = H5 at s5 el5 em5 hLw5 ⊢
    clear el em4 hLw sz nz
    have cut : Lw = [] ∨ ∃ L' y, Lw = L' ++ [y] := by
      cases Lw with
      | nil => exact .inl rfl
      | cons a as => exact .inr ⟨_, _, (List.dropLast_concat_getLast (List.cons_ne_nil a as)).symm⟩
    rcases cut with rfl | ⟨L', y, rfl⟩
    · refine iteFa rfl ?_
      have hM : ∀ s, s ∈ M ↔ Rb tops rs (· ∈ W.map (·.2)) s := fun s => ⟨fun h => (okM s h).2, fun h => by
        induction h with
        | base h => exact subW _ h
        | step _ ob lb ih =>
          rcases clM _ ih with ⟨z, hz, _⟩ | c
          · exact absurd hz List.not_mem_nil
          · exact c _ ob lb⟩
      refine ⟨Nat.zero_le _, fun f nf => ?_⟩
      have sf := same_new (o := HO.lst []) nf
      have s6 := s5.trans sf
      have nfH : H f = none := s5.free nf
      have em6 := sf _ _ em5
      have et6 := s6 _ _ et
      have ef6 : (upd H5 f (.lst [])) f = some (.lst (([] : List Addr).map V.ref)) := upd_same
      have nmf : mt ≠ f := fun e => by
        rw [← e, em5] at nf
        cases nf
      generalize upd H5 f (.lst []) = H6 at sf s6 em6 et6 ef6 ⊢
      refine ⟨_, rfl, t, _, rfl, .inl (.inl et6), for_it (walk_enumT (xs := tops.map V.int)) (fun i σ H' => (∃ u7 u8 u9 u10, σ = [some (.ref t), some (.ref d), some (.ref g), u3, some (.ref mt), some (.ref l), some (.ref f), u7, u8, u9, u10]) ∧ Same H H' ∧ H' mt = some (.dT (M.map fun t => (KS t, V.bl true))) ∧ ∃ (Us : List Addr) (lows highs : List Int), H' f = some (.lst (Us.map V.ref)) ∧ Us.length = i ∧ lows.length = i ∧ highs.length = i ∧ (∀ (j : Nat) (T : Addr), Us[j]? = some T → H' T = some (.tup [.int (plc lows j), .int (plc highs j)])) ∧ ∀ j, j < i → RowB tops M j (plc lows j) (plc highs j)) ⟨⟨_, _, _, _, rfl⟩, s6, em6, [], [], [], ef6, rfl, rfl, rfl, (fun j T e => by simp at e), fun j hj => absurd hj (Nat.not_lt_zero _)⟩ (fun i σ H' _ y => .inl (.inl (y.2.1 _ _ et))) (fun i v σ H7 H7' hi y z => ?_) (fun σ H7 y => ?_)⟩
      · obtain ⟨⟨u7, u8, u9, u10, rfl⟩, s7, em7, Us, lows, highs, ef7, lU, l1, l2, aU, rows⟩ := y
        obtain ⟨T', x1, x2, rfl, nT, rfl, g1, g2⟩ := z
        have e1 : x1 = .int (i : Nat) := (Option.some.inj g1).symm
        subst e1
        obtain ⟨top, ett, rfl⟩ := mapGet g2
        have hi' : i < tops.length := by simpa using hi
        have ept : plc tops i = top := by
          rw [plc_get hi']
          rw [List.getElem?_eq_getElem hi'] at ett
          exact Option.some.inj ett
        have sT := same_new (o := HO.tup [V.int (i : Nat), V.int top]) nT
        refine ⟨T', _, rfl, .inl (.inl upd_same), rfl, _, _, rfl, _, _, rfl, rfl, ?_⟩
        have s8 := s7.trans sT
        have em8 := sT _ _ em7
        have ef8 := sT _ _ ef7
        have aU8 : ∀ (j : Nat) (T : Addr), Us[j]? = some T → upd H7 T' (.tup [V.int (i : Nat), V.int top]) T = some (.tup [.int (plc lows j), .int (plc highs j)]) := fun j T e => sT _ _ (aU j T e)
        generalize upd H7 T' (.tup [V.int (i : Nat), V.int top]) = H8 at s8 em8 ef8 aU8 ⊢
        clear em7 ef7 aU sT
        refine ⟨mt, _, em8, trivial, fun od => ?_⟩
        have eF : (upd H8 mt (.frz od (.dT (M.map fun t => (KS t, V.bl true))))) mt = some (.frz od (.dT (M.map fun t => (KS t, V.bl true)))) := upd_same
        have kF : KT H8 (upd H8 mt (.frz od (.dT (M.map fun t => (KS t, V.bl true))))) := KT.upd em8 (fun xs e => nomatch e)
        have sF : Same H (upd H8 mt (.frz od (.dT (M.map fun t => (KS t, V.bl true))))) := same_over s8 nmH
        have lF : ∀ b xs, b ≠ mt → H8 b = some (.lst xs) → (upd H8 mt (.frz od (.dT (M.map fun t => (KS t, V.bl true))))) b = some (.lst xs) := fun b xs ne e => (upd_ne ne).trans e
        generalize upd H8 mt (.frz od (.dT (M.map fun t => (KS t, V.bl true)))) = HF at eF kF sF lF ⊢
        refine ⟨_, rfl, mt, od, rfl, .inr ⟨_, eF, fun D1 nD1 => lc_it walk_keysT (fun k H' => Same HF H' ∧ H' D1 = some (.lst ((placesOf (M.take k) i true).map V.int))) ⟨same_new nD1, upd_same⟩ (fun k H' _ y => y.1 _ _ eF) (fun k v Hx Hy hk y z => ?_) (fun H9 y => ?_)⟩⟩
        · obtain ⟨s9, eD1⟩ := y
          obtain ⟨rfl, ky, v', qa, ekv, rfl, eqa⟩ := z
          obtain ⟨sd, esd, ekk⟩ := mapGet ekv
          injection ekk with ek _
          subst ek
          have hqa : Hy qa = some (.tup [.int (sd.1 : Int), .str (word sd.2.1), .int sd.2.2]) := eqa
          have hk' : k < M.length := (List.getElem?_eq_some_iff.mp esd).1
          refine ⟨wipe_one, _, rfl, ?_⟩
          show tNoPart _ _ _
          unfold tNoPart
          refine ⟨2, rfl, cut_2of3 hqa fun g2 H10 s10 eg2 => ⟨_, rfl, w2, fun T2 nT2 => ?_⟩⟩
          have sT2 := same_new (o := HO.tup [V.int (i : Nat), V.str "from"]) nT2
          refine ⟨.tuple [.int (sd.1 : Int), .str (word sd.2.1)], .tuple [.int ((i : Nat) : Int), .str (word true)], .tup (.inl (.inl (sT2 _ _ eg2))) (.cons (.int _) (.cons (.str _) .nil)), .tup (.inl (.inl upd_same)) (.cons (.int _) (.cons (.str _) .nil)), shaped_iw _ _, shaped_iw _ _, _, rfl, ?_⟩
          rw [eqv_iw]
          have s9T := (s9.trans s10).trans sT2
          have eDT := sT2 _ _ (s10 _ _ eD1)
          by_cases c : sd.1 = i ∧ sd.2.1 = true
          · refine iteTr (decide_eq_true c) ⟨_, rfl, qa, _, 2, _, rfl, rfl, .inl (.inl (sT2 _ _ (s10 _ _ hqa))), rfl, _, eDT, ?_, same_over s9T nD1, ?_⟩
            · rw [List.length_map]
              refine small1000 ?_
              unfold placesOf
              rw [List.length_map]
              refine Nat.le_trans (List.length_filter_le _ _) ?_
              rw [List.length_take]
              omega
            · rw [upd_same, places_take esd, if_pos c, List.map_append]
              rfl
          · refine iteFa (decide_eq_false c) ⟨s9T, ?_⟩
            rw [places_take esd, if_neg c, List.append_nil]
            exact eDT
        obtain ⟨s9, eD1⟩ := y
        rw [List.length_map, List.take_length] at eD1
        refine ⟨s9 _ _ eF, ?_⟩
        have nD1m : D1 ≠ mt := fun e => by
          rw [e, eF] at nD1
          cases nD1
        have s10 : Same H (upd H9 mt (.dT (M.map fun t => (KS t, V.bl true)))) := same_over (sF.trans s9) nmH
        have em10 : (upd H9 mt (.dT (M.map fun t => (KS t, V.bl true)))) mt = some (.dT (M.map fun t => (KS t, V.bl true))) := upd_same
        have eD10 : (upd H9 mt (.dT (M.map fun t => (KS t, V.bl true)))) D1 = some (.lst ((placesOf M i true).map V.int)) := (upd_ne nD1m).trans eD1
        have ef10 : (upd H9 mt (.dT (M.map fun t => (KS t, V.bl true)))) f = some (.lst (Us.map V.ref)) := (upd_ne nmf.symm).trans (s9 _ _ (lF f _ nmf.symm ef8))
        have k10 : KT H8 (upd H9 mt (.dT (M.map fun t => (KS t, V.bl true)))) := (kF.trans (KT.same s9)).trans (KT.upd (s9 _ _ eF) (fun xs e => nomatch e))
        generalize upd H9 mt (.dT (M.map fun t => (KS t, V.bl true))) = H10 at s10 em10 eD10 ef10 k10 ⊢
        clear eF kF sF lF s9 eD1 nD1
        refine ⟨mt, _, em10, trivial, fun od => ?_⟩
        have eF : (upd H10 mt (.frz od (.dT (M.map fun t => (KS t, V.bl true))))) mt = some (.frz od (.dT (M.map fun t => (KS t, V.bl true)))) := upd_same
        have kF : KT H10 (upd H10 mt (.frz od (.dT (M.map fun t => (KS t, V.bl true))))) := KT.upd em10 (fun xs e => nomatch e)
        have sF : Same H (upd H10 mt (.frz od (.dT (M.map fun t => (KS t, V.bl true))))) := same_over s10 nmH
        have lF : ∀ b xs, b ≠ mt → H10 b = some (.lst xs) → (upd H10 mt (.frz od (.dT (M.map fun t => (KS t, V.bl true))))) b = some (.lst xs) := fun b xs ne e => (upd_ne ne).trans e
        generalize upd H10 mt (.frz od (.dT (M.map fun t => (KS t, V.bl true)))) = HG at eF kF sF lF ⊢
        refine ⟨_, rfl, mt, od, rfl, .inr ⟨_, eF, fun D2 nD2 => lc_it walk_keysT (fun k H' => Same HG H' ∧ H' D2 = some (.lst ((placesOf (M.take k) i false).map V.int))) ⟨same_new nD2, upd_same⟩ (fun k H' _ y => y.1 _ _ eF) (fun k v Hx Hy hk y z => ?_) (fun H11 y => ?_)⟩⟩
        · obtain ⟨s9, eD2⟩ := y
          obtain ⟨rfl, ky, v', qa, ekv, rfl, eqa⟩ := z
          obtain ⟨sd, esd, ekk⟩ := mapGet ekv
          injection ekk with ek _
          subst ek
          have hqa : Hy qa = some (.tup [.int (sd.1 : Int), .str (word sd.2.1), .int sd.2.2]) := eqa
          have hk' : k < M.length := (List.getElem?_eq_some_iff.mp esd).1
          refine ⟨wipe_one, _, rfl, ?_⟩
          show tNoPart _ _ _
          unfold tNoPart
          refine ⟨2, rfl, cut_2of3 hqa fun g2 H12 s12 eg2 => ⟨_, rfl, w2, fun T2 nT2 => ?_⟩⟩
          have sT2 := same_new (o := HO.tup [V.int (i : Nat), V.str "to"]) nT2
          refine ⟨.tuple [.int (sd.1 : Int), .str (word sd.2.1)], .tuple [.int ((i : Nat) : Int), .str (word false)], .tup (.inl (.inl (sT2 _ _ eg2))) (.cons (.int _) (.cons (.str _) .nil)), .tup (.inl (.inl upd_same)) (.cons (.int _) (.cons (.str _) .nil)), shaped_iw _ _, shaped_iw _ _, _, rfl, ?_⟩
          rw [eqv_iw]
          have s9T := (s9.trans s12).trans sT2
          have eDT := sT2 _ _ (s12 _ _ eD2)
          by_cases c : sd.1 = i ∧ sd.2.1 = false
          · refine iteTr (decide_eq_true c) ⟨_, rfl, qa, _, 2, _, rfl, rfl, .inl (.inl (sT2 _ _ (s12 _ _ hqa))), rfl, _, eDT, ?_, same_over s9T nD2, ?_⟩
            · rw [List.length_map]
              refine small1000 ?_
              unfold placesOf
              rw [List.length_map]
              refine Nat.le_trans (List.length_filter_le _ _) ?_
              rw [List.length_take]
              omega
            · rw [upd_same, places_take esd, if_pos c, List.map_append]
              rfl
          · refine iteFa (decide_eq_false c) ⟨s9T, ?_⟩
            rw [places_take esd, if_neg c, List.append_nil]
            exact eDT
        obtain ⟨s9, eD2⟩ := y
        rw [List.length_map, List.take_length] at eD2
        refine ⟨s9 _ _ eF, ?_⟩
        have nD2m : D2 ≠ mt := fun e => by
          rw [e, eF] at nD2
          cases nD2
        have s13 : Same H (upd H11 mt (.dT (M.map fun t => (KS t, V.bl true)))) := same_over (sF.trans s9) nmH
        have em13 : (upd H11 mt (.dT (M.map fun t => (KS t, V.bl true)))) mt = some (.dT (M.map fun t => (KS t, V.bl true))) := upd_same
        have eD23 : (upd H11 mt (.dT (M.map fun t => (KS t, V.bl true)))) D2 = some (.lst ((placesOf M i false).map V.int)) := (upd_ne nD2m).trans eD2
        have eD13 : (upd H11 mt (.dT (M.map fun t => (KS t, V.bl true)))) D1 = some (.lst ((placesOf M i true).map V.int)) := (upd_ne nD1m).trans (s9 _ _ (lF D1 _ nD1m eD10))
        have ef13 : (upd H11 mt (.dT (M.map fun t => (KS t, V.bl true)))) f = some (.lst (Us.map V.ref)) := (upd_ne nmf.symm).trans (s9 _ _ (lF f _ nmf.symm ef10))
        have k13 : KT H8 (upd H11 mt (.dT (M.map fun t => (KS t, V.bl true)))) := k10.trans ((kF.trans (KT.same s9)).trans (KT.upd (s9 _ _ eF) (fun xs e => nomatch e)))
        generalize upd H11 mt (.dT (M.map fun t => (KS t, V.bl true))) = H13 at s13 em13 eD23 eD13 ef13 k13 ⊢
        clear eF kF sF lF s9 eD2 nD2 eD10 ef10 k10 em10 s10
        have lp : ∀ b, (placesOf M i b).length ≤ 40 := fun b => by
          unfold placesOf
          rw [List.length_map]
          have := List.length_filter_le (fun s : Sd => decide (s.1 = i ∧ s.2.1 = b)) M
          omega
        have lp1 := lp true
        have lp2 := lp false
        have bdp : ∀ s ∈ M, 0 ≤ s.2.2 ∧ s.2.2 ≤ plc tops s.1 := fun s hs => (okM s hs).1.bd
        refine ⟨.ref f, rfl, .inl ⟨rfl, _, .inl (.inl ef13)⟩, _, rfl, (show 1 ≤ sizeLine by decide), fun a1 n1 => ⟨D1, a1, _, _, rfl, rfl, same_new n1 _ _ eD13, upd_same, by rw [List.length_map]; exact Nat.le_of_lt (small1000 (by simp only [List.length_cons, List.length_nil]; omega)), fun a2 n2 => ⟨a2, placesOf M i true ++ [0], rfl, .inl (.inl (by rw [upd_same, List.map_append]; rfl)), by simp, fun lo hlo ulo => ?_⟩⟩⟩
        have sA := (same_new (o := HO.lst [V.int 0]) n1).trans (same_new (o := HO.lst ((placesOf M i true).map V.int ++ [V.int 0])) n2)
        generalize upd (upd H13 a1 (.lst [V.int 0])) a2 (.lst ((placesOf M i true).map V.int ++ [V.int 0])) = H14 at sA ⊢
        refine ⟨_, rfl, _, rfl, (show 1 ≤ sizeLine by decide), fun a3 n3 => ⟨D2, a3, _, _, rfl, rfl, same_new n3 _ _ (sA _ _ eD23), upd_same, by rw [List.length_map]; exact Nat.le_of_lt (small1000 (by simp only [List.length_cons, List.length_nil]; omega)), fun a4 n4 => ⟨a4, placesOf M i false ++ [top], rfl, .inl (.inl (by rw [upd_same, List.map_append]; rfl)), by simp, fun hi hhi uhi => ⟨w2, fun T nT2 => ?_⟩⟩⟩⟩
        have sB := (same_new (o := HO.lst [V.int top]) n3).trans (same_new (o := HO.lst ((placesOf M i false).map V.int ++ [V.int top])) n4)
        have sT := same_new (o := HO.tup [V.int lo, V.int hi]) nT2
        have eT : (upd (upd (upd H14 a3 (.lst [V.int top])) a4 (.lst ((placesOf M i false).map V.int ++ [V.int top]))) T (.tup [V.int lo, V.int hi])) T = some (.tup [V.int lo, V.int hi]) := upd_same
        have sAll := (sA.trans sB).trans sT
        generalize upd (upd (upd H14 a3 (.lst [V.int top])) a4 (.lst ((placesOf M i false).map V.int ++ [V.int top]))) T (.tup [V.int lo, V.int hi]) = H15 at eT sAll ⊢
        have ef15 := sAll _ _ ef13
        have kU : Keep H15 (upd H15 f (.lst (Us.map V.ref ++ [.ref T]))) := .upd ef15
        have plA : ∀ (xs : List Int) (x : Int) (j : Nat), j < xs.length → plc (xs ++ [x]) j = plc xs j := fun xs x j h => by rw [plc_app, if_pos h]
        have plB : ∀ (xs : List Int) (x : Int), plc (xs ++ [x]) xs.length = x := fun xs x => by rw [plc_app, if_neg (Nat.lt_irrefl _), if_pos rfl]
        refine ⟨f, _, _, rfl, rfl, ef15, by rw [List.length_map]; exact small1000 (by omega), ⟨_, _, _, _, rfl⟩, same_over (s13.trans sAll) nfH, (upd_ne nmf).trans (sAll _ _ em13), Us ++ [T], lows ++ [lo], highs ++ [hi], by rw [upd_same, List.map_append]; rfl, by rw [List.length_append, lU]; rfl, by rw [List.length_append, l1]; rfl, by rw [List.length_append, l2]; rfl, fun j T'' e => ?_, fun j hj => ?_⟩
        · by_cases cj : j < Us.length
          · rw [List.getElem?_append_left cj] at e
            rw [plA lows lo j (by omega), plA highs hi j (by omega)]
            exact kU.tup (sAll _ _ (k13 _ _ (aU8 j T'' e)))
          · have hj : j = Us.length := by
              have := (List.getElem?_eq_some_iff.mp e).1
              rw [List.length_append] at this
              simp only [List.length_cons, List.length_nil] at this
              omega
            have e1 : plc (lows ++ [lo]) j = lo := by rw [hj, lU, ← l1]; exact plB _ _
            have e2 : plc (highs ++ [hi]) j = hi := by rw [hj, lU, ← l2]; exact plB _ _
            rw [hj, List.getElem?_append_right (Nat.le_refl _), Nat.sub_self] at e
            cases e
            rw [e1, e2]
            exact kU.tup eT
        · by_cases cj : j < i
          · rw [plA lows lo j (by omega), plA highs hi j (by omega)]
            exact rows j cj
          · have ej : j = i := by omega
            have e1 : plc (lows ++ [lo]) j = lo := by rw [ej, ← l1]; exact plB _ _
            have e2 : plc (highs ++ [hi]) j = hi := by rw [ej, ← l2]; exact plB _ _
            rw [e1, e2, ej]
            refine ⟨?_, fun p hp => ulo p (List.mem_append_left _ (places_mem.mpr hp)), ulo 0 (by simp), ?_, fun p hp => uhi p (List.mem_append_left _ (places_mem.mpr hp)), by rw [ept]; exact uhi top (by simp)⟩
            · rcases List.mem_append.mp hlo with h | h
              · exact .inr (places_mem.mp h)
              · exact .inl (List.mem_singleton.mp h)
            · rcases List.mem_append.mp hhi with h | h
              · exact .inr (places_mem.mp h)
              · exact .inl (by rw [ept]; exact List.mem_singleton.mp h)
      · obtain ⟨⟨u7, u8, u9, u10, rfl⟩, s7, em7, Us, lows, highs, ef7, lU, l1, l2, aU, rows⟩ := y
        rw [List.length_map] at lU l1 l2 rows
        refine ⟨_, rfl, f, _, rfl, .inl ⟨.inl (.inl ef7), fun p np => ?_⟩⟩
        have sp := same_new (o := HO.tup (Us.map V.ref)) np
        exact q _ p lows highs (s7.trans sp) ⟨Us, upd_same, by omega, fun j T e => sp _ _ (aU j T e)⟩ (fol_rows rok ow hM l1 l2 rows)
    · have ly : (sdR (L' ++ [y])).length = L'.length + 1 := by rw [lr, List.length_append]; rfl
      have hy : SideAt H5 y.1 y.2 := hLw5 y (by simp)
      have my : y.2 ∈ M := inM y (by simp)
      have oky := (okM y.2 my).1
      have rby := (okM y.2 my).2
      have e1 : sdR (L' ++ [y]) = sdR L' ++ [V.ref y.1] := by rw [← sdR_app]; rfl
      have ne : (L' ++ [y]).isEmpty = false := by
        cases L' <;> rfl
      have lw : (L' ++ [y]).length = L'.length + 1 := by rw [List.length_append]; rfl
      obtain ⟨ll, Ld, ev, ls, ld⟩ := (rd.same s5).at' y.2 oky
      have nll : ll ≠ l := fun e => by
        obtain ⟨l0, L0, ev0, ls0, _⟩ := rd.at' y.2 oky
        rw [ev] at ev0
        have e0 : ll = l0 := by
          injection ev0 with h
          injection h
        have := ls0.el
        rw [← e0, e, nlH] at this
        cases this
      rw [ne]
      refine iteTr rfl ⟨fun σ' H' => ∃ m', m' < 2 * (40 - M.length) + (L' ++ [y]).length ∧ ReachI H t d g mt l tops rs W m' σ' H', fun σ' H' h => h, ?_⟩
      refine ⟨_, rfl, .ref l, rfl, .inl ⟨rfl, _, .inl (.inl el5)⟩, l, _, .ref y.1, rfl, rfl, el5, ?_, ?_⟩
      · rw [ly, Nat.add_sub_cancel, e1, List.getElem?_append_right (by rw [lr]; exact Nat.le_refl _), lr, Nat.sub_self]
        rfl
      have ed : (sdR (L' ++ [y])).dropLast = sdR L' := by rw [e1, List.dropLast_concat]
      rw [ed]
      have s6 : Same H (upd H5 l (.lst (sdR L'))) := same_over s5 nlH
      have k56 : Keep H5 (upd H5 l (.lst (sdR L'))) := .upd el5
      have el6 : (upd H5 l (.lst (sdR L'))) l = some (.lst (sdR L')) := upd_same
      have em6 : (upd H5 l (.lst (sdR L'))) mt = some (.dT (M.map fun t => (KS t, V.bl true))) := (upd_ne nlm.symm).trans em5
      have hL6 : SdsAt (upd H5 l (.lst (sdR L'))) L' := fun z hz => (hLw5 z (List.mem_append_left _ hz)).keep k56
      have hy6 := hy.keep k56
      have els : (upd H5 l (.lst (sdR L'))) ll = some (.lst (sdR Ld)) := (upd_ne nll).trans ls.el
      have hLd : SdsAt (upd H5 l (.lst (sdR L'))) Ld := ls.at'.keep k56
      generalize upd H5 l (.lst (sdR L')) = H6 at s6 el6 em6 hL6 hy6 els hLd ⊢
      refine ⟨d, .ref ll, rfl, .inr ⟨kvs, KS y.2, y.1, .inl (rd.same s6).ed, rfl, hy6, ev.symm⟩, ll, rfl, ⟨_, .inl (.inl els)⟩, for_it (walk_list (xs := sdR Ld)) (fun j σ H' => ∃ (Lw : List (Addr × Sd)) (N : List Sd) (u3 : Option V), σ = [some (.ref t), some (.ref d), some (.ref g), u3, some (.ref mt), some (.ref l), none, none, none, none, none] ∧ Same H H' ∧ H' ll = some (.lst (sdR Ld)) ∧ SdsAt H' Ld ∧ H' l = some (.lst (sdR Lw)) ∧ SdsAt H' Lw ∧ H' mt = some (.dT (N.map fun t => (KS t, V.bl true))) ∧ N.Nodup ∧ (∀ s ∈ N, SideOk tops s ∧ Rb tops rs (· ∈ W.map (·.2)) s) ∧ (∀ s ∈ W.map (·.2), s ∈ N) ∧ (∀ z ∈ Lw, z.2 ∈ N) ∧ (∀ s ∈ N, (∃ z ∈ Lw, z.2 = s) ∨ s = y.2 ∨ ∀ x, SideOk tops x → ldsB tops rs s x = true → x ∈ N) ∧ (∀ z ∈ Ld.take j, z.2 ∈ N) ∧ 2 * (40 - N.length) + Lw.length ≤ 2 * (40 - M.length) + L'.length ∧ Lw.length ≤ 30 + N.length)
        ⟨L', M, u3, rfl, s6, els, hLd, el6, hL6, em6, nd, okM, subW, fun z hz => inM z (List.mem_append_left _ hz), fun s hs => ?_, fun z hz => absurd hz (by simp), Nat.le_refl _, by omega⟩ (fun j σ H' _ I => .inl (.inl (by obtain ⟨_, _, _, _, _, e, _⟩ := I; exact e))) (fun j v σ H7x H7 hj I z => ?_) (fun σ H7 I => ?_)⟩
      · rcases clM s hs with ⟨z, hz, e⟩ | c
        · rcases List.mem_append.mp hz with h | h
          · exact .inl ⟨z, h, e⟩
          · rw [List.mem_singleton.mp h] at e
            exact .inr (.inl e.symm)
        · exact .inr (.inr c)
      · obtain ⟨Lw, N, v3, rfl, s7, els7, hLd7, el7, hL7, em7, ndN, okN, subN, inN, clN, tkN, mN, lN⟩ := I
        obtain ⟨rfl, gv⟩ := z
        obtain ⟨z, ez, rfl⟩ := mapGet gv
        have mz := List.mem_of_getElem? ez
        have hz := hLd7 z mz
        obtain ⟨okz, ldz⟩ := (ld z.2).mp (List.mem_map.mpr ⟨z, mz, rfl⟩)
        have lN32 := sds_few fw l4 ndN fun s hs => (okN s hs).1
        refine ⟨_, rfl, _, rfl, mt, _, rfl, .inr ⟨_, KS z.2, z.1, .inl em7, rfl, hz, rfl⟩, _, rfl, ?_⟩
        rw [valV_const]
        by_cases m : z.2 ∈ N
        · rw [if_pos m]
          refine iteFa rfl ⟨Lw, N, _, rfl, s7, els7, hLd7, el7, hL7, em7, ndN, okN, subN, inN, clN, fun x hx => ?_, mN, lN⟩
          rw [List.take_add_one, ez] at hx
          rcases List.mem_append.mp hx with h | h
          · exact tkN x h
          · have : x = z := by simpa using h
            rw [this]
            exact m
        · rw [if_neg m]
          refine iteTr rfl ⟨_, rfl, _, rfl, mt, _, rfl, DPut.t (k := KS z.2) em7 hz (by rw [List.length_map]; exact small1000 (by omega)), ?_⟩
          have eN : putK (N.map fun t => (KS t, V.bl true)) (KS z.2) (V.bl true) = (N ++ [z.2]).map fun t => (KS t, V.bl true) := by
            rw [put_const]
            unfold insS
            rw [if_neg m]
          rw [eN]
          have s8 : Same H (upd H7 mt (.dT ((N ++ [z.2]).map fun t => (KS t, V.bl true)))) := same_over s7 nmH
          have k8 : KT H7 (upd H7 mt (.dT ((N ++ [z.2]).map fun t => (KS t, V.bl true)))) := KT.upd em7 (fun xs e => nomatch e)
          have el8 : (upd H7 mt (.dT ((N ++ [z.2]).map fun t => (KS t, V.bl true)))) l = some (.lst (sdR Lw)) := (upd_ne nlm).trans el7
          have em8 : (upd H7 mt (.dT ((N ++ [z.2]).map fun t => (KS t, V.bl true)))) mt = some (.dT ((N ++ [z.2]).map fun t => (KS t, V.bl true))) := upd_same
          have nmll : ll ≠ mt := fun e => by
            rw [e, em7] at els7
            cases els7
          have els8 : (upd H7 mt (.dT ((N ++ [z.2]).map fun t => (KS t, V.bl true)))) ll = some (.lst (sdR Ld)) := (upd_ne nmll).trans els7
          generalize upd H7 mt (.dT ((N ++ [z.2]).map fun t => (KS t, V.bl true))) = H8 at s8 k8 el8 em8 els8 ⊢
          have k9 : KT H8 (upd H8 l (.lst (sdR Lw ++ [.ref z.1]))) := KT.of (.upd el8)
          have k79 := k8.trans k9
          refine ⟨.ref l, rfl, .inl ⟨rfl, _, .inl (.inl el8)⟩, _, rfl, l, _, _, rfl, rfl, el8, ?_, Lw ++ [z], N ++ [z.2], _, rfl, same_over s8 nlH, (upd_ne nll).trans els8, hLd7.kt k79, by rw [upd_same, ← sdR_app]; rfl, fun x hx => ?_, (upd_ne nlm.symm).trans em8, ?_, fun s hs => ?_, fun s hs => List.mem_append_left _ (subN s hs), fun x hx => ?_, fun s hs => ?_, fun x hx => ?_, ?_, ?_⟩
          · rw [lr]
            exact small1000 (by omega)
          · rcases List.mem_append.mp hx with h | h
            · exact (hL7 x h).kt k79
            · rw [List.mem_singleton.mp h]
              exact hz.kt k79
          · rw [List.nodup_append]
            refine ⟨ndN, by simp, fun a ha b hb e => m ?_⟩
            rw [List.mem_singleton.mp hb] at e
            exact e ▸ ha
          · rcases List.mem_append.mp hs with h | h
            · exact okN s h
            · rw [List.mem_singleton.mp h]
              exact ⟨okz, .step rby okz ldz⟩
          · rcases List.mem_append.mp hx with h | h
            · exact List.mem_append_left _ (inN x h)
            · rw [List.mem_singleton.mp h]
              exact List.mem_append_right _ (List.mem_singleton.mpr rfl)
          · rcases List.mem_append.mp hs with h | h
            · rcases clN s h with ⟨x, hx, e⟩ | e | c
              · exact .inl ⟨x, List.mem_append_left _ hx, e⟩
              · exact .inr (.inl e)
              · exact .inr (.inr fun x ox lx => List.mem_append_left _ (c x ox lx))
            · exact .inl ⟨z, List.mem_append_right _ (List.mem_singleton.mpr rfl), (List.mem_singleton.mp h).symm⟩
          · rw [List.take_add_one, ez] at hx
            rcases List.mem_append.mp hx with h | h
            · exact List.mem_append_left _ (tkN x h)
            · have : x = z := by simpa using h
              rw [this]
              exact List.mem_append_right _ (List.mem_singleton.mpr rfl)
          · rw [List.length_append, List.length_append]
            simp only [List.length_cons, List.length_nil]
            omega
          · rw [List.length_append, List.length_append]
            simp only [List.length_cons, List.length_nil]
            omega
      · obtain ⟨Lw, N, v3, rfl, s7, els7, hLd7, el7, hL7, em7, ndN, okN, subN, inN, clN, tkN, mN, lN⟩ := I
        rw [lr, List.take_length] at tkN
        refine ⟨_, by rw [lw]; omega, Lw, N, v3, rfl, s7, el7, hL7, em7, ndN, okN, subN, inN, fun s hs => ?_, rfl, lN⟩
        rcases clN s hs with h | e | c
        · exact .inl h
        · subst e
          refine .inr fun x ox lx => ?_
          obtain ⟨z, hz, e⟩ := List.mem_map.mp ((ld x).mpr ⟨ox, lx⟩)
          rw [← e]
          exact tkN z hz
        · exact .inr c
end
end K11

set_option Elab.async false
set_option linter.all false
set_option maxRecDepth 100000
namespace K11
open PySem PySem.Spec PyProof.Rows L2 NB

/-! ### rows of bounds as data -/
def bdD (ls ms : List Int) (n j : Nat) : List PyData := (List.range' j n).map fun i => .tuple [.int (plc ls i), .int (plc ms i)]
theorem bdD_da {n : Addr} {H : Hp} {ls ms : List Int} : ∀ (Us : List Addr) (j : Nat), (∀ (i : Nat) (T : Addr), Us[i]? = some T → H T = some (.tup [.int (plc ls (j + i)), .int (plc ms (j + i))])) → DaAll n H (Us.map V.ref) (bdD ls ms Us.length j)
  | [], _, _ => .nil
  | U :: Us, j, h => by
    have ih := bdD_da (n := n) (H := H) (ls := ls) (ms := ms) Us (j + 1) fun i T e => by
      have := h (i + 1) T (by rw [List.getElem?_cons_succ]; exact e)
      rw [show j + 1 + i = j + (i + 1) by omega]
      exact this
    exact .cons (.tup (h 0 U rfl) (.cons (.int _) (.cons (.int _) .nil))) ih
theorem bnd_da {n : Addr} {H : Hp} {p : Addr} {ls ms : List Int} (h : BndAt H p ls ms) : Da n H (.ref p) (.tuple (bdD ls ms ls.length 0)) := by
  obtain ⟨Us, ep, lU, aU⟩ := h
  rw [← lU]
  exact .tup ep (bdD_da Us 0 fun i T e => by rw [Nat.zero_add]; exact aU i T e)
theorem sm_rows {ls ms : List Int} : ∀ (n j : Nat), (∀ i, i < j + n → (plc ls i).natAbs < 10 ^ 90 ∧ (plc ms i).natAbs < 10 ^ 90) → SmE (bdD ls ms n j) 1 ∧ PyData.weightAll (bdD ls ms n j) ≤ 700 * n
  | 0, _, _ => ⟨fun _ h => absurd h List.not_mem_nil, Nat.le_refl _⟩
  | n + 1, j, h => by
    obtain ⟨h1, h2⟩ := sm_rows n (j + 1) fun i hi => h i (by omega)
    obtain ⟨a1, a2⟩ := h j (by omega)
    have x := Sm.int a1
    have y := Sm.int a2
    have xw := x.wt
    have yw := y.wt
    have s : Sm (.tuple [.int (plc ls j), .int (plc ms j)]) 690 1 := Sm.tup (k := 0) (SmE.app (SmE.one x) (SmE.one y)) (by simp only [PyData.weightAll]; omega)
    have sw := s.wt
    refine ⟨SmE.app (SmE.one s) h1, ?_⟩
    show PyData.weightAll (.tuple [.int (plc ls j), .int (plc ms j)] :: bdD ls ms n (j + 1)) ≤ 700 * (n + 1)
    simp only [PyData.weightAll] at sw ⊢
    omega
theorem fol_small {tops : List Int} {rs : List Rl} (rok : ∀ q ∈ rs, RuleOk tops q) (fw : Few tops) {S : Sd → Prop} (hS : ∀ s, S s → SideOk tops s) {lows highs : List Int} (F : Fol tops rs S lows highs) (l4 : tops.length ≤ 4) : Sm (.tuple (bdD lows highs lows.length 0)) 2800 2 := by
  have big : (10 : Nat) < 10 ^ 90 := by decide
  have key : ∀ i, i < tops.length → (plc lows i).natAbs < 10 ^ 90 ∧ (plc highs i).natAbs < 10 ^ 90 := fun i hi => by
    have f3 := few_plc fw i
    have t0 := (fw _ (List.getElem_mem hi)).1
    rw [← plc_get hi] at t0
    have a : plc lows i ≤ 3 := by
      rcases F.l0 i hi with e | r
      · omega
      · have h2 : plc lows i ≤ plc tops i := (r.ok rok hS).bd.2
        omega
    have b : 0 ≤ plc highs i := by
      rcases F.h0 i hi with e | r
      · omega
      · exact (r.ok rok hS).bd.1
    have := F.lz i hi
    have := F.hz i hi
    omega
  have ll := F.ll
  obtain ⟨h1, h2⟩ := sm_rows (ls := lows) (ms := highs) lows.length 0 fun i hi => key i (by omega)
  exact Sm.tup (k := 1) h1 (by omega)

/-! ### wants and what follows: the law -/
theorem repS (z : Addr × Sd) (n : Nat) : (List.replicate n [V.ref z.1]).flatten = sdR (List.replicate n z) := by
  induction n with
  | zero => rfl
  | succ n ih =>
    rw [List.replicate_succ, List.flatten_cons, ih, List.replicate_succ]
    rfl
section
variable {P : Program} {w : World} {K : PySem.W.Frag} {mg : Str → Option Value} {base : Heap}
def spForms (C : Addr) : Sp := fun vs H Q _ => ∃ (p x t I : Addr) (tops : List Int) (rs : List Rl) (is : List V), vs = [.ref x, .ref t, .ref I] ∧ PlanAt C H x tops rs ∧ H t = some (.tup (tops.map V.int)) ∧ H I = some (.lst is) ∧ is.length ≤ 300 ∧ Bag (only p) H is 130000 20 ∧ ∀ H', Same H H' → Q (.bl true) H'
abbrev a__law_forms_right : Stmt := topS 55
abbrev n__law_forms_right : List Str := ["_law_plan", "_law_tops_here", "_law_items", "_law_item", "_law_kept", "_law_found"]
theorem sc__law_forms_right : FnScope n__law_forms_right ["_law_plan", "_law_tops_here", "_law_items"] (defScope a__law_forms_right) := ⟨rfl, rfl, rfl, by decide +kernel, rfl, by decide +kernel, by decide +kernel⟩
set_option maxHeartbeats 8000000 in
theorem ok__law_forms_right {f fIw fLw : Addr} {fd fdIw fdLw : FuncData}  {C : Addr} (F : Fun K "_law_forms_right" "_law_forms_right" a__law_forms_right f fd) (Iw : Kn P w K mg base 5 "is_want" ["plan", "thing"] (spIsW C) fIw fdIw) (Lw : Kn P w K mg base 2 "_law_is_want" ["_law_tops_here", "_law_item"] spLIsW fLw fdLw)  (m_bool : mg "bool" = none) (m_isinstance : mg "isinstance" = none) (m_repr : mg "repr" = none) : FnG P w K mg base 6 f fd ["_law_plan", "_law_tops_here", "_law_items"] (spForms C) := by
  refine fnG F sc__law_forms_right (fun vs H Q E h => ?_) (fun cdv A outer s H vs Q E hG hr h => ?_)
  · obtain ⟨p, x, t, I, tops, rs, is, rfl, _⟩ := h
    rfl
  · obtain ⟨p, x, t, I, tops, rs, is, rfl, hp, et, eI, lI, bag, q⟩ := h
    refine ⟨_, (pss_cons (ps_for PassesOwn.never rfl (pi_list (pv 2)) (pg_name (i := 3) sc__law_forms_right.nd rfl (.inl rfl))
        (pss_cons (ps_par (i := 4) (j := 5) (by rfl) sc__law_forms_right.nd rfl rfl (by decide) rfl rfl (pa_cons (pe_callB (call_reprA hG hr.units) (by rfl) m_repr (by decide +kernel) (pa_cons (pv 3) pa_nil)) (pa_cons (pe_kn Iw hr (by omega) (pa_cons (pv 0) (pa_cons (pv 3) pa_nil))) pa_nil)) (by rfl))
      (pss_one (ps_if (PW.pt (pw_or (pt_not (pt_val (pe_callB call_isiD (by rfl) m_isinstance (by decide +kernel) (pa_cons (pv 5) (pa_cons (pe_bltn (v := .ty "bool") (u := .type "bool") (by rfl) m_bool (by decide +kernel) rfl) pa_nil))))) (pw_or (pt_cmpR op_ne (pv 5) (pe_kn Lw hr (by omega) (pa_cons (pv 1) (pa_cons (pv 3) pa_nil))) (nomark _)) (pw_or1 (pt_cmpR op_ne (pe_callB (call_reprA hG hr.units) (by rfl) m_repr (by decide +kernel) (pa_cons (pv 3) pa_nil)) (pv 4) (nomark _)))))) (pss_one (ps_ret pe_bl)) pss_nil))))
      (pss_one (ps_ret (pe_cmpR op_isB (pe_kn Iw hr (by omega) (pa_cons (pv 0) (pa_cons (pe_tup pa_nil) pa_nil))) pe_bl (nomark _))))), ?_⟩
    refine ⟨_, rfl, I, rfl, ⟨_, .inl (.inl eI)⟩, for_it (walk_list (xs := is)) (fun j σ H' => (∃ u3 u4 u5, σ = [some (.ref x), some (.ref t), some (.ref I), u3, u4, u5]) ∧ Same H H') ⟨⟨_, _, _, rfl⟩, Same.refl _⟩ (fun j σ H' _ y => .inl (.inl (y.2 _ _ eI))) (fun j v σ G1x G1 hj y z => ?_) (fun σ G1 y => ?_)⟩
    · obtain ⟨⟨u3, u4, u5, rfl⟩, s1⟩ := y
      obtain ⟨rfl, gv⟩ := z
      obtain ⟨dd, Dd, Sd⟩ := bag v (List.mem_of_getElem? gv)
      have D1 := (Dd.da (n := p) rfl).same s1
      have dl : dLen dd ≤ 200000 := Nat.le_trans (dlen_le Sd) (by decide)
      refine ⟨_, rfl, p, v, dd, 130000, 20, rfl, D1, Sd, by decide, by decide, _, rfl, _, rfl, p, x, tops, rs, v, dd, rfl, hp.keep (.same s1), D1, dl, fun G2 s2 => ⟨_, _, rfl, ?_⟩⟩
      refine ⟨_, rfl, p, _, _, "bool", _, rfl, .bl _, kit_bool _, _, rfl, iteF ?_⟩
      refine ⟨_, rfl, _, rfl, _, rfl, p, t, tops, v, dd, rfl, (s1.trans s2) _ _ et, D1.same s2, fun G3 s3 => ⟨rfl, _, rfl, not_diff rfl ?_⟩⟩
      refine ⟨_, rfl, p, v, dd, 130000, 20, rfl, (D1.same s2).same s3, Sd, by decide, by decide, _, rfl, rfl, _, rfl, not_diff rfl ⟨⟨_, _, _, rfl⟩, (s1.trans s2).trans s3⟩⟩
    · obtain ⟨⟨u3, u4, u5, rfl⟩, s1⟩ := y
      refine ⟨_, rfl, Nat.zero_le _, fun z nz => ?_⟩
      have sz := same_new (o := HO.tup []) nz
      refine ⟨p, x, tops, rs, _, .tuple [], rfl, hp.keep (.same (s1.trans sz)), .tup upd_same .nil, by decide, fun G2 s2 => ⟨_, _, rfl, rfl, ?_⟩⟩
      exact q _ ((s1.trans sz).trans s2)
def spR11 : Sp := fun vs H Q _ => ∃ (p : Addr) (c : Nat), vs = [.ref p] ∧ PotAt H p c ∧ c < 500000 ∧ ∀ H', But p H H' → Q (.bl true) H'
abbrev a__law_right : Stmt := topS 56
abbrev n__law_right : List Str := ["_law_pot_here", "_law_tops_here", "_law_rules", "_law_plan", "_law_sides", "_law_roads_here", "_law_items", "_law_turn", "_law_want_here", "_law_again", "_law_standing_here", "_law_full", "_law_k"]
theorem sc__law_right : FnScope n__law_right ["_law_pot_here"] (defScope a__law_right) := ⟨rfl, rfl, rfl, by decide +kernel, rfl, by decide +kernel, by decide +kernel⟩
set_option maxHeartbeats 8000000 in
theorem ok__law_right {f fLo fAs fRd fWa fFo fRe fSt fHa fLh fBe fOf fFr : Addr} {fd fdLo fdAs fdRd fdWa fdFo fdRe fdSt fdHa fdLh fdBe fdOf fdFr : FuncData}  {C f0 : Addr} {fd0 : FuncData} (F : Fun K "_law_right" "_law_right" a__law_right f fd) (Lo : Kn P w K mg base 4 "_law_loose" ["_law_pot_here"] spLoose fLo fdLo) (As : Kn P w K mg base 1 "_law_all_sides" ["_law_tops_here"] spAS fAs fdAs) (Rd : Kn P w K mg base 4 "_law_roads" ["_law_tops_here", "_law_rules"] spRds fRd fdRd) (Wa : Kn P w K mg base 4 "_law_want" ["_law_pot_here", "_law_tops_here", "_law_most"] spWantL fWa fdWa) (Fo : Kn P w K mg base 5 "follows" ["plan", "want"] (spFol K C) fFo fdFo) (Re : Kn P w K mg base 1 "_law_reach" ["_law_tops_here", "_law_roads_here", "_law_want_here"] spReach fRe fdRe) (St : Kn P w K mg base 2 "_law_standing" ["_law_pot_here", "_law_tops_here"] (spStand K) fSt fdSt) (Ha : Kn P w K mg base 2 "has" ["want", "standing"] (spHas K) fHa fdHa) (Lh : Kn P w K mg base 2 "_law_has" ["_law_want_here", "_law_standing_here"] spHasL fLh fdLh) (Be : Kn P w K mg base 6 "_law_bent" ["_law_pot_here", "_law_item", "_law_deep"] (spBentK 3) fBe fdBe) (Of : Kn P w K mg base 2 "_law_of" ["_law_pot_here", "_law_some"] (spOf K) fOf fdOf) (Fr : FnG P w K mg base 6 fFr fdFr ["_law_plan", "_law_tops_here", "_law_items"] (spForms C)) (gFr : mg "_law_forms_right" = some (.ref fFr)) (kFr : PySem.W.keepIn K (.ref fFr) = true) (bFr : Binds K fdFr ["_law_plan", "_law_tops_here", "_law_items"] []) (TX : PlanTxt K mg C) (M : Mk K C f0) (GI : FnOk P w K mg base CX0 7 f0 fd0 ["self", "tops", "rules"] (spInit C)) (bI : Binds K fd0 ["self", "tops", "rules"] []) (m_list : mg "list" = none) (m_range : mg "range" = none) (m_repr : mg "repr" = none) (m_tuple : mg "tuple" = none) : FnG P w K mg base 10 f fd ["_law_pot_here"] spR11 := by
  refine fnG F sc__law_right (fun vs H Q E h => ?_) (fun cdv A outer s H vs Q E hG hr h => ?_)
  · obtain ⟨p, c, rfl, _⟩ := h
    rfl
  · obtain ⟨p, c, rfl, pp, hc, q⟩ := h
    refine ⟨_, (pss_cons (ps_asg (pe_kn Lo hr (by omega) (pa_cons (pv 0) pa_nil)) (pg_tup rfl (pgs_cons (pg_name (i := 1) sc__law_right.nd rfl (.inl rfl)) (pgs_cons (pg_name (i := 2) sc__law_right.nd rfl (.inl rfl)) pgs_nil))))
      (pss_cons (ps_asg (pe_tup (pa_cons (pe_make M GI (hr.mono (by omega)) (by rfl) TX.mgC bI .nil pass0 (pa_cons (pv 1) (pa_cons (pv 2) pa_nil))) (pa_cons (pe_kn As hr (by omega) (pa_cons (pv 1) pa_nil)) (pa_cons (pe_kn Rd hr (by omega) (pa_cons (pv 1) (pa_cons (pv 2) pa_nil))) pa_nil)))) (pg_tup rfl (pgs_cons (pg_name (i := 3) sc__law_right.nd rfl (.inl rfl)) (pgs_cons (pg_name (i := 4) sc__law_right.nd rfl (.inr rfl)) (pgs_cons (pg_name (i := 5) sc__law_right.nd rfl (.inl rfl)) pgs_nil)))))
      (pss_cons (ps_set (i := 6) sc__law_right.nd rfl (.inl rfl) (pe_lstN (pa_cons pe_non (pa_cons pe_bl (pa_cons pe_int (pa_cons pe_str (pa_cons (pe_lstN pa_nil) (pa_cons pe_dnewK (pa_cons (pe_tup (pa_cons pe_non pa_nil)) (pa_cons (pe_ix ix_list (pv 4) pe_int (fun _ _ => rfl)) (pa_cons (pe_lstN (pa_cons (pe_ix ix_list (pv 4) pe_int (fun _ _ => rfl)) pa_nil)) (pa_cons (pe_op op_repT (pe_tup (pa_cons (pe_ix ix_list (pv 4) pe_int (fun _ _ => rfl)) pa_nil)) pe_int) (pa_cons (pe_op op_repT (pe_tup (pa_cons (pe_ix ix_list (pv 4) pe_int (fun _ _ => rfl)) pa_nil)) pe_int) pa_nil)))))))))))))
      (pss_cons (ps_for PassesOwn.never rfl (pi_range1 (by rfl) m_range (pa_cons pe_int pa_nil)) (pg_name (i := 7) sc__law_right.nd rfl (.inl rfl))
        (pss_cons (ps_set (i := 8) sc__law_right.nd rfl (.inr rfl) (pe_kn Wa hr (by omega) (pa_cons (pv 0) (pa_cons (pv 1) (pa_cons pe_int pa_nil)))))
      (pss_cons (ps_if (pt_cmpR op_ne (pe_callB (call_reprA hG hr.units) (by rfl) m_repr (by decide +kernel) (pa_cons (pe_kn Fo hr (by omega) (pa_cons (pv 3) (pa_cons (pv 8) pa_nil))) pa_nil)) (pe_callB (call_reprA hG hr.units) (by rfl) m_repr (by decide +kernel) (pa_cons (pe_kn Re hr (by omega) (pa_cons (pv 1) (pa_cons (pv 5) (pa_cons (pv 8) pa_nil)))) pa_nil)) (nomark _)) (pss_one (ps_ret pe_bl)) pss_nil)
      (pss_cons (ps_for PassesOwn.never rfl (pi_range1 (by rfl) m_range (pa_cons pe_int pa_nil)) (pg_name (i := 9) sc__law_right.nd rfl (.inl rfl))
        (pss_cons (ps_set (i := 10) sc__law_right.nd rfl (.inl rfl) (pe_kn St hr (by omega) (pa_cons (pv 0) (pa_cons (pv 1) pa_nil))))
      (pss_one (ps_if (pt_cmpR op_ne (pe_callB (call_reprA hG hr.units) (by rfl) m_repr (by decide +kernel) (pa_cons (pe_kn Ha hr (by omega) (pa_cons (pv 8) (pa_cons (pv 10) pa_nil))) pa_nil)) (pe_callB (call_reprA hG hr.units) (by rfl) m_repr (by decide +kernel) (pa_cons (pe_kn Lh hr (by omega) (pa_cons (pv 8) (pa_cons (pv 10) pa_nil))) pa_nil)) (nomark _)) (pss_one (ps_ret pe_bl)) pss_nil))))
      (pss_one (ps_set (i := 6) sc__law_right.nd rfl (.inl rfl) (pe_op op_cat (pe_op op_cat (pv 6) (pe_lstN (pa_cons (pv 8) (pa_cons (pe_callTy call_list_ofN (by rfl) m_list (by decide +kernel) (pa_cons (pv 8) pa_nil)) (pa_cons (pe_op (r := rCatA K) op_catA (pv 8) (pe_slice (r := rSlA K) sl_tupA (pv 8) po_none (po_some pe_int))) pa_nil))))) (
        pe_lc (own := [("_law_again", 9)]) (g := (gName 9)) (tt := tYes) (te := (tCall (spBentK 3) [] E0 (tCons (tVar 0) (tCons (tVar 8) (tCons (tC (.int 2)) tNil))))) rfl sc__law_right.nd (pi_range1 (by rfl) m_range (pa_cons pe_int pa_nil)) (blkOk_by (N := n__law_right) (sc := defScope a__law_right) (by decide +kernel))
          (fun _ _ _ _ _ => (pg_name (i := 9) sc__law_right.nd rfl (.inl rfl) (hf := .inr rfl))) (fun _ _ _ _ _ => pts_nil) (fun _ _ _ _ _ => (pe_kn Be hr (by omega) (pa_cons (pv 0) (pa_cons (pv 8) (pa_cons pe_int pa_nil)))))))))))))
      (pss_cons (ps_set (i := 11) sc__law_right.nd rfl (.inl rfl) (pe_callTy call_tuple_of (by rfl) m_tuple (by decide +kernel) (pa_cons (
        pe_lc (own := [("_law_k", 12)]) (g := (gName 12)) (tt := tYes) (te := (tCall (spOf K) [] E0 (tCons (tVar 0) (tCons (tVar 4) tNil)))) rfl sc__law_right.nd (pi_range1 (by rfl) m_range (pa_cons pe_int pa_nil)) (blkOk_by (N := n__law_right) (sc := defScope a__law_right) (by decide +kernel))
          (fun _ _ _ _ _ => (pg_name (i := 12) sc__law_right.nd rfl (.inl rfl) (hf := .inr rfl))) (fun _ _ _ _ _ => pts_nil) (fun _ _ _ _ _ => (pe_kn Of hr (by omega) (pa_cons (pv 0) (pa_cons (pv 4) pa_nil))))) pa_nil)))
      (pss_cons (ps_set (i := 6) sc__law_right.nd rfl (.inl rfl) (pe_op op_cat (pv 6) (pe_lstN (pa_cons (pv 11) (pa_cons (pe_op (r := rCatA K) op_catA (pv 11) (pe_slice (r := rSlA K) sl_tupA (pv 11) po_none (po_some pe_int))) (pa_cons (pe_op (r := rCatA K) op_catA (pe_slice (r := rSlA K) sl_tupA (pv 11) (po_some pe_int) po_none) (pe_tup (pa_cons pe_non pa_nil))) pa_nil))))))
      (pss_cons (ps_if (pt_cmpR op_ne (pe_callB (call_reprA hG hr.units) (by rfl) m_repr (by decide +kernel) (pa_cons (pe_kn Fo hr (by omega) (pa_cons (pv 3) (pa_cons (pv 11) pa_nil))) pa_nil)) (pe_callB (call_reprA hG hr.units) (by rfl) m_repr (by decide +kernel) (pa_cons (pe_kn Re hr (by omega) (pa_cons (pv 1) (pa_cons (pv 5) (pa_cons (pv 11) pa_nil)))) pa_nil)) (nomark _)) (pss_one (ps_ret pe_bl)) pss_nil)
      (pss_one (ps_ret (pe_callG hG Fr (hr.mono (by omega)) (by rfl) gFr kFr bFr (pa_cons (pv 3) (pa_cons (pv 1) (pa_cons (pv 6) pa_nil))))))))))))), ?_⟩
    have w1 : (1 : Nat) ≤ sizeLine := by decide
    have w3 : (3 : Nat) ≤ sizeLine := by decide
    refine ⟨.ref p, rfl, p, c, rfl, pp, by omega, fun H1 g t R tops rs b1 p1 eg et l1 l4 fw hR lR rok => ?_⟩
    refine ⟨g, _, rfl, .inl (.inl eg), rfl, _, _, rfl, _, _, rfl, rfl, ?_⟩
    refine ⟨.ref t, rfl, .ref R, rfl, fun x dx nx ndx ne => ?_⟩
    refine plan_made (C := C) (rs := rs) nx ndx ne et hR l1 (by omega) fw.pl (by omega) rok fun H3 s3 hp => ⟨rfl, ?_⟩
    refine ⟨.ref t, rfl, t, tops, rfl, s3 _ _ et, fw, l4, fun H4 l L s4 nl el hL eL => ?_⟩
    have s14 := s3.trans s4
    have okL : ∀ z ∈ L, SideOk tops z.2 := fun z hz => (allS_ok fw).mp (by rw [← eL]; exact List.mem_map.mpr ⟨z, hz, rfl⟩)
    have lL : L.length ≤ 32 := by
      have h := allS_len fw
      rw [← eL, List.length_map] at h
      omega
    refine ⟨.ref t, rfl, .ref R, rfl, t, R, tops, rs, rfl, s14 _ _ et, hR.keep (.same s14), fw, l1, l4, rok, fun H5 d kvs s5 rd => ⟨w3, fun T nT => ?_⟩⟩
    have sT := same_new (o := HO.tup [V.ref x, V.ref l, V.ref d]) nT
    refine ⟨T, _, rfl, .inl (.inl upd_same), rfl, _, _, rfl, _, _, rfl, _, _, rfl, rfl, ?_⟩
    have s15 := (s14.trans s5).trans sT
    have s45 := s5.trans sT
    have ok0 : SideOk tops (0, true, 0) := by
      have h0 := fw.pl _ (List.getElem_mem (show 0 < tops.length by omega))
      rw [← plc_get (show 0 < tops.length by omega)] at h0
      exact SideOk.mk' (by omega) (Int.le_refl _) h0.1
    have neL : L ≠ [] := fun z => by
      have := (allS_ok fw).mpr ok0
      rw [← eL, z] at this
      exact absurd this List.not_mem_nil
    have rd5 := rd.same sT
    have hp5 := hp.keep (.same (s4.trans s45))
    have et5 := s15 _ _ et
    have el5 := s45 _ _ el
    have hL5 := hL.keep (.same s45)
    have p5 := p1.keep s15
    have b5 : But p H (upd H5 T (.tup [V.ref x, V.ref l, V.ref d])) := b1.trans (But.of s15)
    have nlp : l ≠ p := (p1.keep s3).ne nl
    generalize upd H5 T (.tup [V.ref x, V.ref l, V.ref d]) = H6 at rd5 hp5 et5 el5 hL5 p5 b5 ⊢
    clear el hL s15 s45 sT nT rd hp et s14
    obtain ⟨z0, L0, rfl⟩ := List.exists_cons_of_ne_nil neL
    have hz0 := hL5 z0 List.mem_cons_self
    have okz0 := okL z0 List.mem_cons_self
    have at0 : atI (sdR (z0 :: L0)) 0 = some (.ref z0.1) := atI_nat (j := 0) rfl
    -- eleven items
    refine ⟨Nat.zero_le _, fun a1 n1 m1 => ?_⟩
    obtain ⟨t1, D1⟩ := newb_lst n1 m1 (there_one p5) .nil
    have q1 := p5.keep t1
    refine fun a2 n2 => ?_
    obtain ⟨t2, D2⟩ := newb_dct (E := only p) n2
    refine ⟨w1, fun a3 n3 => ?_⟩
    obtain ⟨t3, D3⟩ := newb_tup (E := only p) n3 (.cons .non .nil)
    have t13 := (t1.trans t2).trans t3
    have q3 := p5.keep t13
    have D1' := (D1.same t2).same t3
    have D2' := D2.same t3
    generalize upd (upd (upd H6 a1 (.lst [])) a2 (.dK [])) a3 (.tup [V.non]) = H7 at t13 D1' D2' D3 q3 ⊢
    refine ⟨_, rfl, l, _, 0, _, rfl, rfl, .inl (.inl (t13 _ _ el5)), at0, _, rfl, l, _, 0, _, rfl, rfl, .inl (.inl (t13 _ _ el5)), at0, w1, fun a4 n4 m4 => ?_⟩
    have hz7 := hz0.keep (.same t13)
    obtain ⟨t4, D4⟩ := newb_lst n4 m4 (there_one q3) (.cons (db_side hz7) .nil)
    refine ⟨_, rfl, l, _, 0, _, rfl, rfl, .inl (.inl ((t13.trans t4) _ _ el5)), at0, w1, fun a5 n5 => ⟨a5, 24, _, rfl, rfl, .inl (.inl upd_same), List.cons_ne_nil _ _, by decide, by decide, (show 1 ≤ 1000 by decide), fun a6 n6 => ?_⟩⟩
    have t5 := same_new (o := HO.tup [V.ref z0.1]) n5
    have t6 := same_new (o := HO.tup (List.replicate (24 : Int).toNat [V.ref z0.1]).flatten) n6
    have D6 : Db (only p) (upd (upd (upd H7 a4 (.lst [V.ref z0.1])) a5 (.tup [V.ref z0.1])) a6 (.tup (List.replicate (24 : Int).toNat [V.ref z0.1]).flatten)) (.ref a6) (.tuple (sdsD (List.replicate 24 z0))) := .tup (xs := sdR (List.replicate 24 z0)) (by rw [upd_same]; exact congrArg (fun l => some (HO.tup l)) (repS z0 24)) (db_sides fun y hy => by
      rw [(List.mem_replicate.mp hy).2]
      exact ((hz7.keep (.same t4)).keep (.same t5)).keep (.same t6))
    have t46 := (t4.trans t5).trans t6
    have D4' := (D4.same t5).same t6
    have q6 := q3.keep t46
    have t16 := t13.trans t46
    generalize upd (upd (upd H7 a4 (.lst [V.ref z0.1])) a5 (.tup [V.ref z0.1])) a6 (.tup (List.replicate (24 : Int).toNat [V.ref z0.1]).flatten) = H8 at t46 D6 D4' q6 t16 ⊢
    have hz8 := hz7.keep (.same t46)
    refine ⟨_, rfl, l, _, 0, _, rfl, rfl, .inl (.inl (t16 _ _ el5)), at0, w1, fun a7 n7 => ⟨a7, 25, _, rfl, rfl, .inl (.inl upd_same), List.cons_ne_nil _ _, by decide, by decide, (show 1 ≤ 1000 by decide), fun a8 n8 => ?_⟩⟩
    have t7 := same_new (o := HO.tup [V.ref z0.1]) n7
    have t8 := same_new (o := HO.tup (List.replicate (25 : Int).toNat [V.ref z0.1]).flatten) n8
    have D8 : Db (only p) (upd (upd H8 a7 (.tup [V.ref z0.1])) a8 (.tup (List.replicate (25 : Int).toNat [V.ref z0.1]).flatten)) (.ref a8) (.tuple (sdsD (List.replicate 25 z0))) := .tup (xs := sdR (List.replicate 25 z0)) (by rw [upd_same]; exact congrArg (fun l => some (HO.tup l)) (repS z0 25)) (db_sides fun y hy => by
      rw [(List.mem_replicate.mp hy).2]
      exact (hz8.keep (.same t7)).keep (.same t8))
    have t78 := t7.trans t8
    have t18 := t16.trans t78
    generalize upd (upd H8 a7 (.tup [V.ref z0.1])) a8 (.tup (List.replicate (25 : Int).toNat [V.ref z0.1]).flatten) = H9 at t78 D8 t18 ⊢
    have ss := sm_side fw l4 okz0
    have sw := ss.wt
    have smr : ∀ n, n ≤ 25 → Sm (.tuple (sdsD (List.replicate n z0))) 600 2 := fun n hn => by
      obtain ⟨e1, e2⟩ := sm_sides fw l4 (L := List.replicate n z0) fun y hy => by
        rw [(List.mem_replicate.mp hy).2]
        exact okz0
      rw [List.length_replicate] at e2
      exact Sm.tupD e1 (by omega)
    have bag0 : Bag (only p) H9 [V.non, .bl true, .int 0, .str "", .ref a1, .ref a2, .ref a3, .ref z0.1, .ref a4, .ref a6, .ref a8] 130000 20 := by
      refine .cons .non (Sm.none.mono (by decide) (by decide)) ?_
      refine .cons (.bl _) ((Sm.bool _).mono (by decide) (by decide)) ?_
      refine .cons (.int _) ((Sm.int (by decide)).mono (by decide) (by decide)) ?_
      refine .cons (.str _) ⟨rfl, by decide, by decide +kernel, by decide +kernel⟩ ?_
      refine .cons ((D1'.same t46).same t78) ⟨rfl, by decide, by decide +kernel, by decide +kernel⟩ ?_
      refine .cons ((D2'.same t46).same t78) ⟨rfl, by decide, by decide +kernel, by decide +kernel⟩ ?_
      refine .cons ((D3.same t46).same t78) ⟨by decide +kernel, by decide +kernel, by decide +kernel, by decide +kernel⟩ ?_
      refine .cons (db_side (hz8.keep (.same t78))) (ss.mono (by decide) (by decide)) ?_
      refine .cons (D4'.same t78) ((Sm.lst (w := 100) (SmE.one ss) (by simp only [PyData.weightAll]; omega)).mono (by decide) (by decide)) ?_
      refine .cons (D6.same t78) ((smr 24 (by decide)).mono (by decide) (by decide)) ?_
      exact .cons D8 ((smr 25 (by decide)).mono (by decide) (by decide)) .nil
    clear D1 D2 D3 D4 D6 D8 D1' D2' D4' t1 t2 t3 t4 t5 t6 t7 t8 n1 n2 n3 n4 n5 n6 n7 n8
    refine ⟨(show 11 ≤ sizeLine by decide), fun I nI mI => ?_⟩
    have tI : Same H9 (upd H9 I (.lst [V.non, .bl true, .int 0, .str "", .ref a1, .ref a2, .ref a3, .ref z0.1, .ref a4, .ref a6, .ref a8])) := same_new nI
    have eI : (upd H9 I (.lst [V.non, .bl true, .int 0, .str "", .ref a1, .ref a2, .ref a3, .ref z0.1, .ref a4, .ref a6, .ref a8])) I = some (.lst [V.non, .bl true, .int 0, .str "", .ref a1, .ref a2, .ref a3, .ref z0.1, .ref a4, .ref a6, .ref a8]) := upd_same
    have bagI := bag0.same tI
    have qI := (p5.keep t18).keep tI
    have nIp := (p5.keep t18).ne nI
    have l11 : [V.non, .bl true, .int 0, .str "", .ref a1, .ref a2, .ref a3, .ref z0.1, .ref a4, .ref a6, .ref a8].length = 11 := rfl
    have tt := t18.trans tI
    generalize [V.non, .bl true, .int 0, .str "", .ref a1, .ref a2, .ref a3, .ref z0.1, .ref a4, .ref a6, .ref a8] = is0 at tI eI bagI l11 qI tt ⊢
    generalize upd H9 I (.lst is0) = H10 at tI eI bagI qI tt ⊢
    clear bag0
    generalize z0 :: L0 = L at el5 hL5 okL lL neL eL
    refine ⟨5, rfl, by decide, by decide, for_it walk_range (fun k σ H' => (∃ I' u7 u8 u9 u10, σ = [some (.ref p), some (.ref t), some (.ref R), some (.ref x), some (.ref l), some (.ref d), some (.ref I'), u7, u8, u9, u10, none, none] ∧ I' ≠ p ∧ ∃ is, H' I' = some (.lst is) ∧ Bag (only p) H' is 130000 20 ∧ is.length = 11 + 6 * k) ∧ But p H6 H' ∧ PotAt H' p (c + 300 + 200 * k)) ⟨⟨I, _, _, _, _, rfl, nIp, is0, eI, bagI, l11⟩, But.of tt, qI.mono (by omega)⟩ (fun _ _ _ _ _ => trivial) (fun k v σ K0x K0 hk y z => ?_) (fun σ K0 y => ?_)⟩
    · obtain ⟨⟨I', u7, u8, u9, u10, rfl, nI', is, eI', bgI, lI⟩, bK, pK⟩ := y
      obtain ⟨rfl, rfl⟩ := z
      have hk5 : k < 5 := hk
      have kK := Keep.but bK p5
      refine ⟨_, rfl, _, rfl, p, t, tops, 4, _, rfl, pK, kK.tup et5, fw.pl, l1, by omega, by decide, by omega, fun K1 g1 W b1' p1' hT lW => ?_⟩
      have bK1 := bK.trans b1'
      have kK1 := Keep.but bK1 p5
      have ow : ∀ s, s ∈ W.map (·.2) → SideOk tops s := fun s hs => by
        obtain ⟨z, hz, rfl⟩ := List.mem_map.mp hs
        exact hT.ok z hz
      have wnt : Wnt K C K1 x g1 tops rs W := ⟨hp5.keep kK1, .inl (.inl hT.eg), hT.hW, hT.ok, rok, by omega, by omega, by omega, fun i hi => by rw [plc_get hi]; exact (fw _ (List.getElem_mem hi)).1⟩
      refine ⟨_, rfl, _, rfl, x, g1, tops, rs, W, rfl, wnt, fun K2 f1 lo1 hi1 s2 nf1 hb1 F1 => ⟨p, _, _, 2800, 2, rfl, bnd_da hb1, fol_small rok fw ow F1 l4, by decide, by decide, ?_⟩⟩
      have k12 := kK1.trans (.same s2)
      refine ⟨_, rfl, _, rfl, _, rfl, t, d, g1, tops, rs, kvs, W, rfl, k12.tup et5, fw, l4, (rd5.but bK1 p5).same s2, hT.keep (.same s2), by omega, rok, fun K3 f2 lo2 hi2 s3' hb2 F2 => ⟨p, _, _, 2800, 2, rfl, bnd_da hb2, fol_small rok fw ow F2 l4, by decide, by decide, rfl, _, rfl, ?_⟩⟩
      obtain ⟨rfl, rfl⟩ := F1.uniq F2
      refine not_diff rfl ?_
      have s23 := s2.trans s3'
      have hT3 := hT.keep (.same s23)
      have p3' := p1'.keep s23
      have bK3 := bK1.trans (But.of s23)
      refine ⟨5, rfl, by decide, by decide, for_it walk_range (fun j σ H' => (∃ u9 u10, σ = [some (.ref p), some (.ref t), some (.ref R), some (.ref x), some (.ref l), some (.ref d), some (.ref I'), some (.int (0 + (k : Int))), some (.ref g1), u9, u10, none, none]) ∧ But p K3 H' ∧ PotAt H' p (c + 300 + 200 * k + 13 + 12 * j)) ⟨⟨_, _, rfl⟩, (fun _ _ _ e => e), p3'.mono (by omega)⟩ (fun _ _ _ _ _ => trivial) (fun j v σ J0x J0 hj y z => ?_) (fun σ J0 y => ?_)⟩
      · obtain ⟨⟨v9, v10, rfl⟩, bJ, pJ⟩ := y
        obtain ⟨rfl, rfl⟩ := z
        have hj5 : j < 5 := hj
        have kJ := Keep.but bJ p3'
        have kKJ := (Keep.but bK3 p5).trans kJ
        refine ⟨_, rfl, _, rfl, p, t, tops, _, rfl, pJ, .inl (.inl (kKJ.tup et5)), fw.pl, by omega, by omega, fun J1 a st b2 p2 na ea ls _ _ => ?_⟩
        have k2 := Keep.but b2 pJ
        have hTJ := hT3.keep (kJ.trans k2)
        refine ⟨_, rfl, _, rfl, g1, a, W, st, rfl, .inl (.inl hTJ.eg), hTJ.hW, fun z hz => by rw [ls]; exact (hT.ok z hz).lt, by omega, ea, fun J2 s2' => ⟨p, _, _, 0, 0, rfl, .bl _, Sm.bool _, by decide, by decide, ?_⟩⟩
        refine ⟨_, rfl, _, rfl, g1, a, tops, st, W, rfl, hTJ.keep (.same s2'), s2' _ _ ea, ls, by omega, fun J3 s3'' => ⟨p, _, _, 0, 0, rfl, .bl _, Sm.bool _, by decide, by decide, rfl, _, rfl, not_diff rfl ?_⟩⟩
        have s23' := s2'.trans s3''
        exact ⟨⟨_, _, rfl⟩, (bJ.trans b2).trans (But.of s23'), (p2.keep s23').mono (by omega)⟩
      obtain ⟨⟨v9, v10, rfl⟩, bJ, pJ⟩ := y
      have kJ := Keep.but bJ p3'
      have hTJ := hT3.keep kJ
      have bKJ := bK3.trans bJ
      have b0J := (b1'.trans (But.of s23)).trans bJ
      have eIJ := b0J _ _ nI' eI'
      have bgJ := bgI.but rfl pK b0J
      have dM : DbAll (only p) J0 (sdR W) (sdsD W) := db_sides hTJ.hW
      obtain ⟨eM, wM⟩ := sm_sides fw l4 hT.ok
      have lsd : (sdsD W).length = W.length := List.length_map _
      refine ⟨_, rfl, _, rfl, _, rfl, g1, _, rfl, .inl (.inl hTJ.eg), fun a1' n1' m1' => ?_⟩
      obtain ⟨y1, X1⟩ := newb_lst n1' m1' (there_one pJ) dM
      refine ⟨_, rfl, _, rfl, ?_⟩
      show tNoPart _ _ _
      unfold tNoPart
      refine ⟨1, rfl, slD (y1 _ _ hTJ.eg) (dM.same y1) fun g2 J1 ys2 i2 j2 y2 eg2 hg2 => ?_⟩
      have lc2 := len_cut (sdsD W) i2 j2
      have wc2 := wt_cut (sdsD W) i2 j2
      have y12 := y1.trans y2
      refine catD (y12 _ _ hTJ.eg) (dM.same y12) eg2 hg2 (by omega) fun g3 J2 ys3 y3 eg3 hg3 => ?_
      have y13 := y12.trans y3
      have X3 : Db (only p) J2 (.ref g3) (.tuple (sdsD W ++ ((sdsD W).drop i2).take j2)) := .tup eg3 hg3
      refine ⟨w3, fun N nN mN => ?_⟩
      have tN := same_new (o := HO.lst [V.ref g1, .ref a1', .ref g3]) nN
      have sM : Sm (.tuple (sdsD W)) 100 2 := Sm.tupD eM (by omega)
      have bagN : Bag (only p) J2 [V.ref g1, .ref a1', .ref g3] 130000 20 :=
        .cons (.tup (y13 _ _ hTJ.eg) (dM.same y13)) (sM.mono (by decide) (by decide)) (.cons ((X1.same y2).same y3) ((Sm.lst (w := 100) eM (by omega)).mono (by decide) (by decide)) (.cons X3 ((Sm.tupD (w := 200) (SmE.app eM (SmE.cut eM _ _)) (by rw [wt_app]; omega)).mono (by decide) (by decide)) .nil))
      have bagN' := bagN.same tN
      have eN : (upd J2 N (.lst [V.ref g1, .ref a1', .ref g3])) N = some (.lst [V.ref g1, .ref a1', .ref g3]) := upd_same
      have l3N : [V.ref g1, .ref a1', .ref g3].length = 3 := rfl
      have y1N := y13.trans tN
      have rN := pJ.keep y1N
      generalize [V.ref g1, .ref a1', .ref g3] = ns at tN bagN' eN l3N y1N rN ⊢
      generalize upd J2 N (.lst ns) = J3 at tN bagN' eN y1N rN ⊢
      clear X1 X3 bagN
      refine ⟨I', N, is, ns, rfl, rfl, y1N _ _ eIJ, eN, Nat.le_of_lt (small1000 (by omega)), fun I2 nI2 => ?_⟩
      have tI2 := same_new (o := HO.lst (is ++ ns)) nI2
      have eI2 : (upd J3 I2 (.lst (is ++ ns))) I2 = some (.lst (is ++ ns)) := upd_same
      have bag2 := ((bgJ.same y1N).same tI2).app (bagN'.same tI2)
      have l2 : (is ++ ns).length = 14 + 6 * k := by rw [List.length_append]; omega
      have y14 := y1N.trans tI2
      have r8 := rN.keep tI2
      have nI2p := rN.ne nI2
      generalize is ++ ns = is2 at tI2 eI2 bag2 l2 y14 r8 ⊢
      generalize upd J3 I2 (.lst is2) = J4 at tI2 eI2 bag2 y14 r8 ⊢
      have hT4 := hTJ.keep (.same y14)
      have ap := part_sides fw l4 hT.ok
      refine ⟨3, rfl, by decide, by decide, fun D nD => ?_⟩
      have nDp := r8.ne nD
      refine lc_it walk_range (fun j H' => But p J4 H' ∧ PotAt H' p (c + 300 + 200 * k + 80 + 15 * j) ∧ ∃ ys, H' D = some (.lst ys) ∧ ys.length = j ∧ Bag (twoA p D) H' ys 130000 20) ⟨But.of (same_new nD), pot_upd (r8.mono (by omega)) nDp, [], upd_same, rfl, .nil⟩ (fun _ _ _ _ => trivial) (fun j v Jx J hj y z => ?_) (fun J y => ?_)
      · obtain ⟨bJ', pJ', ys, eD, ly, bgy⟩ := y
        obtain ⟨rfl, rfl⟩ := z
        have hj3 : j < 3 := hj
        have hTj := hT4.keep (Keep.but bJ' r8)
        refine ⟨wipe_one, _, rfl, _, rfl, p, .ref g1, .tuple (sdsD W), _, 100, 2, 2, twoA p D, rfl, by omega, .inl rfl, there_two pJ' eD, pJ', .tup hTj.eg (db_sides hTj.hW), ap, sM, by decide, by omega, fun v' d' J2 b2 p2 D2 S2 => ?_⟩
        have eD2 := b2 _ _ nDp eD
        have bg2 := bgy.but (.inl rfl) pJ' b2
        refine ⟨_, eD2, by exact small1000 (by omega), but_new (bJ'.trans b2) nD, pot_upd (p2.mono (by omega)) nDp, ys ++ [v'], upd_same, by rw [List.length_append, ly]; rfl, (bg2.app (.cons D2 (S2.mono (by decide) (by decide)) .nil)).upd (.inr rfl) eD2⟩
      · obtain ⟨bJ', pJ', ys, eD, ly, bgy⟩ := y
        have ly3 : ys.length = 3 := ly
        have eI3 := bJ' _ _ nI2p eI2
        have bg3 := bag2.but rfl r8 bJ'
        refine ⟨I2, D, is2, ys, rfl, rfl, eI3, eD, Nat.le_of_lt (small1000 (by omega)), fun I3 nI3 => ?_⟩
        have tI3 := same_new (o := HO.lst (is2 ++ ys)) nI3
        exact ⟨⟨I3, _, _, _, _, rfl, pJ'.ne nI3, is2 ++ ys, upd_same, (bg3.same tI3).app ((bgy.weak fun n hn => .inl hn).same tI3), by rw [List.length_append]; omega⟩, ((bKJ.trans (But.of y14)).trans bJ').trans (But.of tI3), (pJ'.keep tI3).mono (by omega)⟩
    · obtain ⟨⟨I', u7, u8, u9, u10, rfl, nI', is, eI', bgI, lI⟩, bK, pK⟩ := y
      have lI' : is.length ≤ 41 := by omega
      have kK := Keep.but bK p5
      have hLK := hL5.keep kK
      have elK := bK _ _ nlp el5
      have lrL : (sdR L).length = L.length := List.length_map _
      have l1L : 1 ≤ L.length := List.length_pos_iff.mpr neL
      refine ⟨24, rfl, by decide, by decide, fun D nD => ?_⟩
      have nDp := pK.ne nD
      refine lc_it walk_range (fun j H' => But p K0 H' ∧ PotAt H' p (c + 1300 + j) ∧ ∃ M, H' D = some (.lst (sdR M)) ∧ SdsAt H' M ∧ (∀ z ∈ M, SideOk tops z.2) ∧ M.length = j) ⟨But.of (same_new nD), pot_upd (pK.mono (by omega)) nDp, [], upd_same, (fun _ h => absurd h List.not_mem_nil), (fun _ h => absurd h List.not_mem_nil), rfl⟩ (fun _ _ _ _ => trivial) (fun j v Jx J hj y z => ?_) (fun J y => ?_)
      · obtain ⟨bJ, pJ, M, eD, hM, oM, lM⟩ := y
        obtain ⟨rfl, rfl⟩ := z
        have hj24 : j < 24 := hj
        have kJ := Keep.but bJ pK
        refine ⟨wipe_one, _, rfl, _, rfl, p, l, _, _, rfl, pJ, nlp, .inl (.inl (.inl (bJ _ _ nlp elK))), by omega, by omega, by omega, fun y J2 hy b2 p2 => ?_⟩
        obtain ⟨z, mz, rfl⟩ := List.mem_map.mp hy
        have k2 := Keep.but b2 pJ
        have eD2 := b2 _ _ nDp eD
        have kE : Keep J2 (upd J2 D (.lst (sdR M ++ [.ref z.1]))) := .upd eD2
        refine ⟨_, eD2, ?_, but_new (bJ.trans b2) nD, pot_upd (p2.mono (by omega)) nDp, M ++ [z], by rw [upd_same, ← sdR_app]; rfl, (hM.keep (k2.trans kE)).snoc ((hLK z mz).keep ((kJ.trans k2).trans kE)), fun y hy => ?_, by rw [List.length_append, lM]; rfl⟩
        · show (M.map fun z => V.ref z.1).length < _
          rw [List.length_map]
          exact small1000 (by omega)
        · rcases List.mem_append.mp hy with h | h
          · exact oM y h
          · rw [List.mem_singleton.mp h]
            exact okL z mz
      obtain ⟨bJ, pJ, M, eD, hM, oM, lM⟩ := y
      have lM24 : M.length = 24 := lM
      refine ⟨D, _, rfl, .inl ⟨.inl (.inl eD), fun gf ngf => ?_⟩⟩
      have sg := same_new (o := HO.tup (sdR M)) ngf
      have TM : Tsd tops (upd J gf (.tup (sdR M))) gf M := ⟨upd_same, hM.keep (.same sg), oM⟩
      have bJ' := bJ.trans (But.of sg)
      have pJ' := pJ.keep sg
      generalize upd J gf (.tup (sdR M)) = J1 at sg TM bJ' pJ' ⊢
      have eIJ := bJ' _ _ nI' eI'
      have bgJ := bgI.but rfl pK bJ'
      have dM : DbAll (only p) J1 (sdR M) (sdsD M) := db_sides TM.hW
      obtain ⟨eM, wM⟩ := sm_sides fw l4 oM
      have lsd : (sdsD M).length = M.length := List.length_map _
      refine ⟨_, rfl, _, rfl, _, rfl, _, rfl, ?_⟩
      show tNoPart _ _ _
      unfold tNoPart
      refine ⟨1, rfl, slD TM.eg dM fun g2 J2 ys2 i2 j2 y2 eg2 hg2 => ?_⟩
      have lc2 := len_cut (sdsD M) i2 j2
      have wc2 := wt_cut (sdsD M) i2 j2
      refine catD (y2 _ _ TM.eg) (dM.same y2) eg2 hg2 (by omega) fun g3 J3 ys3 y3 eg3 hg3 => ?_
      have y13 := y2.trans y3
      have X3 : Db (only p) J3 (.ref g3) (.tuple (sdsD M ++ ((sdsD M).drop i2).take j2)) := .tup eg3 hg3
      refine ⟨_, rfl, 1, rfl, ?_⟩
      refine slD (y13 _ _ TM.eg) (dM.same y13) fun g4 J4 ys4 i4 j4 y4 eg4 hg4 => ⟨w1, fun a5 n5 => ?_⟩
      have lc4 := len_cut (sdsD M) i4 j4
      have wc4 := wt_cut (sdsD M) i4 j4
      obtain ⟨y5, X5⟩ := newb_tup (E := only p) n5 (.cons .non .nil)
      have h5 : DbAll (only p) (upd J4 a5 (.tup [V.non])) [V.non] [.none] := .cons .non .nil
      refine catD (y5 _ _ eg4) (hg4.same y5) upd_same h5 (by simp only [List.length_cons, List.length_nil]; omega) fun g6 J6 ys6 y6 eg6 hg6 => ?_
      have y16 := ((y13.trans y4).trans y5).trans y6
      have X6 : Db (only p) J6 (.ref g6) (.tuple ((((sdsD M).drop i4).take j4) ++ [.none])) := .tup eg6 hg6
      refine ⟨w3, fun N nN mN => ?_⟩
      have tN := same_new (o := HO.lst [V.ref gf, .ref g3, .ref g6]) nN
      have sM : Sm (.tuple (sdsD M)) 600 2 := Sm.tupD eM (by omega)
      have bagN : Bag (only p) J6 [V.ref gf, .ref g3, .ref g6] 130000 20 :=
        .cons (.tup (y16 _ _ TM.eg) (dM.same y16)) (sM.mono (by decide) (by decide)) (.cons (((X3.same y4).same y5).same y6) ((Sm.tupD (w := 1200) (SmE.app eM (SmE.cut eM _ _)) (by rw [wt_app]; omega)).mono (by decide) (by decide)) (.cons X6 ((Sm.tupD (w := 700) (SmE.app (SmE.cut eM _ _) (SmE.mono (SmE.one Sm.none) (by decide))) (by rw [wt_app]; simp only [PyData.weightAll, PyData.weight]; omega)).mono (by decide) (by decide)) .nil))
      have y1N := y16.trans tN
      refine ⟨I', N, is, _, rfl, rfl, y1N _ _ eIJ, upd_same, Nat.le_of_lt (small1000 (by simp only [List.length_cons, List.length_nil]; omega)), fun I2 nI2 => ?_⟩
      have tI2 := same_new (o := HO.lst (is ++ [V.ref gf, .ref g3, .ref g6])) nI2
      have eI2 : (upd (upd J6 N (.lst [V.ref gf, .ref g3, .ref g6])) I2 (.lst (is ++ [V.ref gf, .ref g3, .ref g6]))) I2 = some (.lst (is ++ [V.ref gf, .ref g3, .ref g6])) := upd_same
      have bag2 := ((bgJ.same y1N).same tI2).app ((bagN.same tN).same tI2)
      have l2 : (is ++ [V.ref gf, .ref g3, .ref g6]).length ≤ 60 := by rw [List.length_append]; simp only [List.length_cons, List.length_nil]; omega
      have y14 := y1N.trans tI2
      generalize is ++ [V.ref gf, .ref g3, .ref g6] = is2 at tI2 eI2 bag2 l2 y14 ⊢
      generalize upd (upd J6 N (.lst [V.ref gf, .ref g3, .ref g6])) I2 (.lst is2) = J7 at tI2 eI2 bag2 y14 ⊢
      have bK7 := (bK.trans bJ').trans (But.of y14)
      have kK7 := Keep.but bK7 p5
      have hT7 := TM.keep (.same y14)
      have ow : ∀ s, s ∈ M.map (·.2) → SideOk tops s := fun s hs => by
        obtain ⟨z, hz, rfl⟩ := List.mem_map.mp hs
        exact oM z hz
      have wnt : Wnt K C J7 x gf tops rs M := ⟨hp5.keep kK7, .inl (.inl hT7.eg), hT7.hW, hT7.ok, rok, by omega, by omega, by omega, fun i hi => by rw [plc_get hi]; exact (fw _ (List.getElem_mem hi)).1⟩
      refine ⟨_, rfl, _, rfl, x, gf, tops, rs, M, rfl, wnt, fun K2 f1 lo1 hi1 s2 nf1 hb1 F1 => ⟨p, _, _, 2800, 2, rfl, bnd_da hb1, fol_small rok fw ow F1 l4, by decide, by decide, ?_⟩⟩
      have k12 := kK7.trans (.same s2)
      refine ⟨_, rfl, _, rfl, _, rfl, t, d, gf, tops, rs, kvs, M, rfl, k12.tup et5, fw, l4, (rd5.but bK7 p5).same s2, hT7.keep (.same s2), by omega, rok, fun K3 f2 lo2 hi2 s3' hb2 F2 => ⟨p, _, _, 2800, 2, rfl, bnd_da hb2, fol_small rok fw ow F2 l4, by decide, by decide, rfl, _, rfl, ?_⟩⟩
      obtain ⟨rfl, rfl⟩ := F1.uniq F2
      refine not_diff rfl ?_
      have s23 := s2.trans s3'
      refine ⟨_, rfl, _, rfl, _, rfl, p, x, t, I2, tops, rs, is2, rfl, hp5.keep (kK7.trans (.same s23)), (kK7.trans (.same s23)).tup et5, s23 _ _ eI2, by omega, bag2.same s23, fun K4 s4' => ?_⟩
      exact q _ ((b5.trans bK7).trans (But.of (s23.trans s4')))
def spLaw (K : PySem.W.Frag) : Sp := fun vs H Q _ => ∃ (a : Addr) (ns : List Int), vs = [.ref a] ∧ SqL K H a (ns.map V.int) ∧ ns.length ≤ 63 ∧ ∀ H', Q (.bl true) H'
abbrev a_law : Stmt := topS 57
abbrev n_law : List Str := ["_law_script", "_law_k"]
theorem sc_law : FnScope n_law ["_law_script"] (defScope a_law) := ⟨rfl, rfl, rfl, by decide +kernel, rfl, by decide +kernel, by decide +kernel⟩
set_option maxHeartbeats 8000000 in
theorem ok_law {f fPo fRi : Addr} {fd fdPo fdRi : FuncData}   (F : Fun K "law" "law" a_law f fd) (Po : Kn P w K mg base 1 "_law_pot" ["_law_script", "_law_k"] (spPot K) fPo fdPo) (Ri : FnG P w K mg base 10 fRi fdRi ["_law_pot_here"] spR11) (gRi : mg "_law_right" = some (.ref fRi)) (kRi : PySem.W.keepIn K (.ref fRi) = true) (bRi : Binds K fdRi ["_law_pot_here"] [])  (m_all : mg "all" = none) (m_len : mg "len" = none) (m_max : mg "max" = none) (m_min : mg "min" = none) (m_range : mg "range" = none) : FnG P w K mg base 11 f fd ["_law_script"] (spLaw K) := by
  refine fnG F sc_law (fun vs H Q E h => ?_) (fun cdv A outer s H vs Q E hG hr h => ?_)
  · obtain ⟨a, ns, rfl, _⟩ := h
    rfl
  · obtain ⟨a, ns, rfl, hS, hn, q⟩ := h
    refine ⟨_, (pss_one (ps_ret (pe_callB (cr_all rfl) (by rfl) m_all (by decide +kernel) (pa_cons (
        pe_lc (own := [("_law_k", 1)]) (g := (gName 1)) (tt := tYes) (te := (tCall spR11 [] E0 (tCons (tCall (spPot K) [] E0 (tCons (tVar 0) (tCons (tVar 1) tNil))) tNil))) rfl sc_law.nd (pi_range1 (by rfl) m_range (pa_cons (pe_callB (call_max2 rfl) (by rfl) m_max (by decide +kernel) (pa_cons pe_int (pa_cons (pe_callB (call_min2 rfl) (by rfl) m_min (by decide +kernel) (pa_cons pe_int (pa_cons (pe_callB call_len_seq (by rfl) m_len (by decide +kernel) (pa_cons (pv 0) pa_nil)) pa_nil))) pa_nil))) pa_nil)) (blkOk_by (N := n_law) (sc := defScope a_law) (by decide +kernel))
          (fun _ _ _ _ _ => (pg_name (i := 1) sc_law.nd rfl (.inl rfl) (hf := .inr rfl))) (fun _ _ _ _ _ => pts_nil) (fun _ _ _ _ _ => (pe_callG hG Ri (hr.mono (by omega)) (by rfl) gRi kRi bRi (pa_cons (pe_kn Po hr (by omega) (pa_cons (pv 0) (pa_cons (pv 1) pa_nil))) pa_nil)))) pa_nil)))), ?_⟩
    refine ⟨.ref a, rfl, a, _, rfl, .inl hS, 2, _, rfl, 1, _, rfl, _, rfl, ?_, ?_, fun D nD => lc_it walk_range (fun i H' => Same H H' ∧ H' D = some (.lst ((List.replicate i true).map V.bl))) ⟨same_new nD, upd_same⟩ (fun _ _ _ _ => trivial) (fun i v H1' H1 hi y z => ?_) (fun H1 y => ?_)⟩
    · split <;> omega
    · split <;> omega
    · obtain ⟨s1, eD⟩ := y
      obtain ⟨rfl, rfl⟩ := z
      have i3 : i < 5 := by
        revert hi
        split <;> intro hi <;> omega
      refine ⟨wipe_one, .ref a, rfl, _, rfl, a, ns, i, by show [V.ref a, V.int (0 + (i : Int))] = _; rw [Int.zero_add], s1.seq hS, by omega, fun H2 p t2 n2 q2 => ?_⟩
      refine ⟨p, 0, rfl, q2, by omega, fun H3 b3 => ?_⟩
      have s3 : Same H1 H3 := fun b o e => b3 _ _ (ne_of_none e n2) (t2 _ _ e)
      refine ⟨_, s3 _ _ eD, ?_, same_over (s1.trans s3) nD, ?_⟩
      · rw [List.length_map, List.length_replicate]
        exact small1000 (by omega)
      · rw [upd_same, List.replicate_succ', List.map_append]
        rfl
    · obtain ⟨s1, eD⟩ := y
      refine ⟨D, _, rfl, .inl (.inl eD), ?_⟩
      rw [show ∀ n : Nat, (List.replicate n true).all id = true from fun n => by simp]
      exact q H1
end
end K11

set_option Elab.async false
set_option linter.all false
set_option maxRecDepth 100000
namespace K11
open PySem PySem.Spec PyProof.Rows L2 NB
set_option maxHeartbeats 8000000 in
theorem all_mk {l : PySem.W.OpenLaw} {w : World} {K : PySem.W.Frag} {h : Heap} {mg : Str → Option Value} {fa : Addr} (X : K.In h) (G : h.Ns mainGlobals mg) (hfa : mg "law" = some (.ref fa))
    {f1 : Addr} {od1 an1 : Option Addr} {sl1 : Array (Option Value)} {oc1 kV1 dc1 pm1 cd1 ct1 : Value}
    {f2 : Addr} {od2 an2 : Option Addr} {sl2 : Array (Option Value)} {oc2 kV2 dc2 pm2 cd2 ct2 : Value}
    {f3 : Addr} {od3 an3 : Option Addr} {sl3 : Array (Option Value)} {oc3 kV3 dc3 pm3 cd3 ct3 : Value}
    {f4 : Addr} {od4 an4 : Option Addr} {sl4 : Array (Option Value)} {oc4 kV4 dc4 pm4 cd4 ct4 : Value}
    {f5 : Addr} {od5 an5 : Option Addr} {sl5 : Array (Option Value)} {oc5 kV5 dc5 pm5 cd5 ct5 : Value}
    {f6 : Addr} {od6 an6 : Option Addr} {sl6 : Array (Option Value)} {oc6 kV6 dc6 pm6 cd6 ct6 : Value}
    {f7 : Addr} {od7 an7 : Option Addr} {sl7 : Array (Option Value)} {oc7 kV7 dc7 pm7 cd7 ct7 : Value}
    {f8 : Addr} {od8 an8 : Option Addr} {sl8 : Array (Option Value)} {oc8 kV8 dc8 pm8 cd8 ct8 : Value}
    {f9 : Addr} {od9 an9 : Option Addr} {sl9 : Array (Option Value)} {oc9 kV9 dc9 pm9 cd9 ct9 : Value}
    {f10 : Addr} {od10 an10 : Option Addr} {sl10 : Array (Option Value)} {oc10 kV10 dc10 pm10 cd10 ct10 : Value}
    {f11 : Addr} {od11 an11 : Option Addr} {sl11 : Array (Option Value)} {oc11 kV11 dc11 pm11 cd11 ct11 : Value}
    {f12 : Addr} {od12 an12 : Option Addr} {sl12 : Array (Option Value)} {oc12 kV12 dc12 pm12 cd12 ct12 : Value}
    {f13 : Addr} {od13 an13 : Option Addr} {sl13 : Array (Option Value)} {oc13 kV13 dc13 pm13 cd13 ct13 : Value}
    {f14 : Addr} {od14 an14 : Option Addr} {sl14 : Array (Option Value)} {oc14 kV14 dc14 pm14 cd14 ct14 : Value}
    {f15 : Addr} {od15 an15 : Option Addr} {sl15 : Array (Option Value)} {oc15 kV15 dc15 pm15 cd15 ct15 : Value}
    {f16 : Addr} {od16 an16 : Option Addr} {sl16 : Array (Option Value)} {oc16 kV16 dc16 pm16 cd16 ct16 : Value}
    {f17 : Addr} {od17 an17 : Option Addr} {sl17 : Array (Option Value)} {oc17 kV17 dc17 pm17 cd17 ct17 : Value}
    {f18 : Addr} {od18 an18 : Option Addr} {sl18 : Array (Option Value)} {oc18 kV18 dc18 pm18 cd18 ct18 : Value}
    {f19 : Addr} {od19 an19 : Option Addr} {sl19 : Array (Option Value)} {oc19 kV19 dc19 pm19 cd19 ct19 : Value}
    {f20 : Addr} {od20 an20 : Option Addr} {sl20 : Array (Option Value)} {oc20 kV20 dc20 pm20 cd20 ct20 : Value}
    {f21 : Addr} {od21 an21 : Option Addr} {sl21 : Array (Option Value)} {oc21 kV21 dc21 pm21 cd21 ct21 : Value}
    {f22 : Addr} {od22 an22 : Option Addr} {sl22 : Array (Option Value)} {oc22 kV22 dc22 pm22 cd22 ct22 : Value}
    {f23 : Addr} {od23 an23 : Option Addr} {sl23 : Array (Option Value)} {oc23 kV23 dc23 pm23 cd23 ct23 : Value}
    {f24 : Addr} {od24 an24 : Option Addr} {sl24 : Array (Option Value)} {oc24 kV24 dc24 pm24 cd24 ct24 : Value}
    {f25 : Addr} {od25 an25 : Option Addr} {sl25 : Array (Option Value)} {oc25 kV25 dc25 pm25 cd25 ct25 : Value}
    {f26 : Addr} {od26 an26 : Option Addr} {sl26 : Array (Option Value)} {oc26 kV26 dc26 pm26 cd26 ct26 : Value}
    {f27 : Addr} {od27 an27 : Option Addr} {sl27 : Array (Option Value)} {oc27 kV27 dc27 pm27 cd27 ct27 : Value}
    {f28 : Addr} {od28 an28 : Option Addr} {sl28 : Array (Option Value)} {oc28 kV28 dc28 pm28 cd28 ct28 : Value}
    {f29 : Addr} {od29 an29 : Option Addr} {sl29 : Array (Option Value)} {oc29 kV29 dc29 pm29 cd29 ct29 : Value}
    {f30 : Addr} {od30 an30 : Option Addr} {sl30 : Array (Option Value)} {oc30 kV30 dc30 pm30 cd30 ct30 : Value}
    {f31 : Addr} {od31 an31 : Option Addr} {sl31 : Array (Option Value)} {oc31 kV31 dc31 pm31 cd31 ct31 : Value}
    {f32 : Addr} {od32 an32 : Option Addr} {sl32 : Array (Option Value)} {oc32 kV32 dc32 pm32 cd32 ct32 : Value}
    {f33 : Addr} {od33 an33 : Option Addr} {sl33 : Array (Option Value)} {oc33 kV33 dc33 pm33 cd33 ct33 : Value}
    {f34 : Addr} {od34 an34 : Option Addr} {sl34 : Array (Option Value)} {oc34 kV34 dc34 pm34 cd34 ct34 : Value}
    {f35 : Addr} {od35 an35 : Option Addr} {sl35 : Array (Option Value)} {oc35 kV35 dc35 pm35 cd35 ct35 : Value}
    {f36 : Addr} {od36 an36 : Option Addr} {sl36 : Array (Option Value)} {oc36 kV36 dc36 pm36 cd36 ct36 : Value}
    {f37 : Addr} {od37 an37 : Option Addr} {sl37 : Array (Option Value)} {oc37 kV37 dc37 pm37 cd37 ct37 : Value}
    {f38 : Addr} {od38 an38 : Option Addr} {sl38 : Array (Option Value)} {oc38 kV38 dc38 pm38 cd38 ct38 : Value}
    {C f0 Td e0 wa : Addr} {od0 an0 odT odW : Option Addr} {sl0 slT slW : Array (Option Value)} {oc0 kV0 dc0 pm0 cd0 ct0 ocT : Value} {nT nW : Nat} {tk1 tk2 tk3 tk4 tk5 : Tok}
    (a1 : PySem.W.nsIn K mainGlobals "is_whole" = some (some (.ref f1)))
    (l1 : K.lookup f1 = some ⟨oc1, od1, .func (PySem.W.fnOf "is_whole" "is_whole" (defArgs a_is_whole) (defBody a_is_whole) (defScope a_is_whole) .none kV1 dc1 pm1 an1 cd1 ct1), sl1⟩)
    (c1 : PySem.W.codeIn K cd1 "is_whole" = true) (k1 : PySem.W.keepIn K (.ref f1) = true)
    (a2 : PySem.W.nsIn K mainGlobals "is_place" = some (some (.ref f2)))
    (l2 : K.lookup f2 = some ⟨oc2, od2, .func (PySem.W.fnOf "is_place" "is_place" (defArgs a_is_place) (defBody a_is_place) (defScope a_is_place) .none kV2 dc2 pm2 an2 cd2 ct2), sl2⟩)
    (c2 : PySem.W.codeIn K cd2 "is_place" = true) (k2 : PySem.W.keepIn K (.ref f2) = true)
    (a3 : PySem.W.nsIn K mainGlobals "are_tops" = some (some (.ref f3)))
    (l3 : K.lookup f3 = some ⟨oc3, od3, .func (PySem.W.fnOf "are_tops" "are_tops" (defArgs kTops) (defBody kTops) (defScope kTops) .none kV3 dc3 pm3 an3 cd3 ct3), sl3⟩)
    (c3 : PySem.W.codeIn K cd3 "are_tops" = true) (k3 : PySem.W.keepIn K (.ref f3) = true)
    (a4 : PySem.W.nsIn K mainGlobals "is_side_of" = some (some (.ref f4)))
    (l4 : K.lookup f4 = some ⟨oc4, od4, .func (PySem.W.fnOf "is_side_of" "is_side_of" (defArgs a_is_side_of) (defBody a_is_side_of) (defScope a_is_side_of) .none kV4 dc4 pm4 an4 cd4 ct4), sl4⟩)
    (c4 : PySem.W.codeIn K cd4 "is_side_of" = true) (k4 : PySem.W.keepIn K (.ref f4) = true)
    (a5 : PySem.W.nsIn K mainGlobals "are_sides_of" = some (some (.ref f5)))
    (l5 : K.lookup f5 = some ⟨oc5, od5, .func (PySem.W.fnOf "are_sides_of" "are_sides_of" (defArgs a_are_sides_of) (defBody a_are_sides_of) (defScope a_are_sides_of) .none kV5 dc5 pm5 an5 cd5 ct5), sl5⟩)
    (c5 : PySem.W.codeIn K cd5 "are_sides_of" = true) (k5 : PySem.W.keepIn K (.ref f5) = true)
    (a6 : PySem.W.nsIn K mainGlobals "is_rule_of" = some (some (.ref f6)))
    (l6 : K.lookup f6 = some ⟨oc6, od6, .func (PySem.W.fnOf "is_rule_of" "is_rule_of" (defArgs kRule) (defBody kRule) (defScope kRule) .none kV6 dc6 pm6 an6 cd6 ct6), sl6⟩)
    (c6 : PySem.W.codeIn K cd6 "is_rule_of" = true) (k6 : PySem.W.keepIn K (.ref f6) = true)
    (a7 : PySem.W.nsIn K mainGlobals "are_rules_of" = some (some (.ref f7)))
    (l7 : K.lookup f7 = some ⟨oc7, od7, .func (PySem.W.fnOf "are_rules_of" "are_rules_of" (defArgs kRules) (defBody kRules) (defScope kRules) .none kV7 dc7 pm7 an7 cd7 ct7), sl7⟩)
    (c7 : PySem.W.codeIn K cd7 "are_rules_of" = true) (k7 : PySem.W.keepIn K (.ref f7) = true)
    (a8 : PySem.W.nsIn K mainGlobals "span" = some (some (.ref f8)))
    (l8 : K.lookup f8 = some ⟨oc8, od8, .func (PySem.W.fnOf "span" "span" (defArgs a_span) (defBody a_span) (defScope a_span) .none kV8 dc8 pm8 an8 cd8 ct8), sl8⟩)
    (c8 : PySem.W.codeIn K cd8 "span" = true) (k8 : PySem.W.keepIn K (.ref f8) = true)
    (a9 : PySem.W.nsIn K mainGlobals "bars" = some (some (.ref f9)))
    (l9 : K.lookup f9 = some ⟨oc9, od9, .func (PySem.W.fnOf "bars" "bars" (defArgs a_bars) (defBody a_bars) (defScope a_bars) .none kV9 dc9 pm9 an9 cd9 ct9), sl9⟩)
    (c9 : PySem.W.codeIn K cd9 "bars" = true) (k9 : PySem.W.keepIn K (.ref f9) = true)
    (a10 : PySem.W.nsIn K mainGlobals "led_by_rules" = some (some (.ref f10)))
    (l10 : K.lookup f10 = some ⟨oc10, od10, .func (PySem.W.fnOf "led_by_rules" "led_by_rules" (defArgs a_led_by_rules) (defBody a_led_by_rules) (defScope a_led_by_rules) .none kV10 dc10 pm10 an10 cd10 ct10), sl10⟩)
    (c10 : PySem.W.codeIn K cd10 "led_by_rules" = true) (k10 : PySem.W.keepIn K (.ref f10) = true)
    (a11 : PySem.W.nsIn K mainGlobals "reached" = some (some (.ref f11)))
    (l11 : K.lookup f11 = some ⟨oc11, od11, .func (PySem.W.fnOf "reached" "reached" (defArgs a_reached) (defBody a_reached) (defScope a_reached) .none kV11 dc11 pm11 an11 cd11 ct11), sl11⟩)
    (c11 : PySem.W.codeIn K cd11 "reached" = true) (k11 : PySem.W.keepIn K (.ref f11) = true)
    (a12 : PySem.W.nsIn K mainGlobals "is_in" = some (some (.ref f12)))
    (l12 : K.lookup f12 = some ⟨oc12, od12, .func (PySem.W.fnOf "is_in" "is_in" (defArgs kIn) (defBody kIn) (defScope kIn) .none kV12 dc12 pm12 an12 cd12 ct12), sl12⟩)
    (c12 : PySem.W.codeIn K cd12 "is_in" = true) (k12 : PySem.W.keepIn K (.ref f12) = true)
    (a13 : PySem.W.nsIn K mainGlobals "is_want" = some (some (.ref f13)))
    (l13 : K.lookup f13 = some ⟨oc13, od13, .func (PySem.W.fnOf "is_want" "is_want" (defArgs a_is_want) (defBody a_is_want) (defScope a_is_want) .none kV13 dc13 pm13 an13 cd13 ct13), sl13⟩)
    (c13 : PySem.W.codeIn K cd13 "is_want" = true) (k13 : PySem.W.keepIn K (.ref f13) = true)
    (a14 : PySem.W.nsIn K mainGlobals "has" = some (some (.ref f14)))
    (l14 : K.lookup f14 = some ⟨oc14, od14, .func (PySem.W.fnOf "has" "has" (defArgs a_has) (defBody a_has) (defScope a_has) .none kV14 dc14 pm14 an14 cd14 ct14), sl14⟩)
    (c14 : PySem.W.codeIn K cd14 "has" = true) (k14 : PySem.W.keepIn K (.ref f14) = true)
    (a15 : PySem.W.nsIn K mainGlobals "follows" = some (some (.ref f15)))
    (l15 : K.lookup f15 = some ⟨oc15, od15, .func (PySem.W.fnOf "follows" "follows" (defArgs a_follows) (defBody a_follows) (defScope a_follows) .none kV15 dc15 pm15 an15 cd15 ct15), sl15⟩)
    (c15 : PySem.W.codeIn K cd15 "follows" = true) (k15 : PySem.W.keepIn K (.ref f15) = true)
    (a16 : PySem.W.nsIn K mainGlobals "_law_pot" = some (some (.ref f16)))
    (l16 : K.lookup f16 = some ⟨oc16, od16, .func (PySem.W.fnOf "_law_pot" "_law_pot" (defArgs sPot) (defBody sPot) (defScope sPot) .none kV16 dc16 pm16 an16 cd16 ct16), sl16⟩)
    (c16 : PySem.W.codeIn K cd16 "_law_pot" = true) (k16 : PySem.W.keepIn K (.ref f16) = true)
    (a17 : PySem.W.nsIn K mainGlobals "_law_take" = some (some (.ref f17)))
    (l17 : K.lookup f17 = some ⟨oc17, od17, .func (PySem.W.fnOf "_law_take" "_law_take" (defArgs sTake) (defBody sTake) (defScope sTake) .none kV17 dc17 pm17 an17 cd17 ct17), sl17⟩)
    (c17 : PySem.W.codeIn K cd17 "_law_take" = true) (k17 : PySem.W.keepIn K (.ref f17) = true)
    (a18 : PySem.W.nsIn K mainGlobals "_law_of" = some (some (.ref f18)))
    (l18 : K.lookup f18 = some ⟨oc18, od18, .func (PySem.W.fnOf "_law_of" "_law_of" (defArgs sOf) (defBody sOf) (defScope sOf) .none kV18 dc18 pm18 an18 cd18 ct18), sl18⟩)
    (c18 : PySem.W.codeIn K cd18 "_law_of" = true) (k18 : PySem.W.keepIn K (.ref f18) = true)
    (a19 : PySem.W.nsIn K mainGlobals "_law_standing" = some (some (.ref f19)))
    (l19 : K.lookup f19 = some ⟨oc19, od19, .func (PySem.W.fnOf "_law_standing" "_law_standing" (defArgs sStand) (defBody sStand) (defScope sStand) .none kV19 dc19 pm19 an19 cd19 ct19), sl19⟩)
    (c19 : PySem.W.codeIn K cd19 "_law_standing" = true) (k19 : PySem.W.keepIn K (.ref f19) = true)
    (a20 : PySem.W.nsIn K mainGlobals "_law_is_in" = some (some (.ref f20)))
    (l20 : K.lookup f20 = some ⟨oc20, od20, .func (PySem.W.fnOf "_law_is_in" "_law_is_in" (defArgs aIn) (defBody aIn) (defScope aIn) .none kV20 dc20 pm20 an20 cd20 ct20), sl20⟩)
    (c20 : PySem.W.codeIn K cd20 "_law_is_in" = true) (k20 : PySem.W.keepIn K (.ref f20) = true)
    (a21 : PySem.W.nsIn K mainGlobals "_law_tops" = some (some (.ref f21)))
    (l21 : K.lookup f21 = some ⟨oc21, od21, .func (PySem.W.fnOf "_law_tops" "_law_tops" (defArgs aTops) (defBody aTops) (defScope aTops) .none kV21 dc21 pm21 an21 cd21 ct21), sl21⟩)
    (c21 : PySem.W.codeIn K cd21 "_law_tops" = true) (k21 : PySem.W.keepIn K (.ref f21) = true)
    (a22 : PySem.W.nsIn K mainGlobals "_law_side" = some (some (.ref f22)))
    (l22 : K.lookup f22 = some ⟨oc22, od22, .func (PySem.W.fnOf "_law_side" "_law_side" (defArgs a__law_side) (defBody a__law_side) (defScope a__law_side) .none kV22 dc22 pm22 an22 cd22 ct22), sl22⟩)
    (c22 : PySem.W.codeIn K cd22 "_law_side" = true) (k22 : PySem.W.keepIn K (.ref f22) = true)
    (a23 : PySem.W.nsIn K mainGlobals "_law_loose" = some (some (.ref f23)))
    (l23 : K.lookup f23 = some ⟨oc23, od23, .func (PySem.W.fnOf "_law_loose" "_law_loose" (defArgs a__law_loose) (defBody a__law_loose) (defScope a__law_loose) .none kV23 dc23 pm23 an23 cd23 ct23), sl23⟩)
    (c23 : PySem.W.codeIn K cd23 "_law_loose" = true) (k23 : PySem.W.keepIn K (.ref f23) = true)
    (a24 : PySem.W.nsIn K mainGlobals "_law_places" = some (some (.ref f24)))
    (l24 : K.lookup f24 = some ⟨oc24, od24, .func (PySem.W.fnOf "_law_places" "_law_places" (defArgs a__law_places) (defBody a__law_places) (defScope a__law_places) .none kV24 dc24 pm24 an24 cd24 ct24), sl24⟩)
    (c24 : PySem.W.codeIn K cd24 "_law_places" = true) (k24 : PySem.W.keepIn K (.ref f24) = true)
    (a25 : PySem.W.nsIn K mainGlobals "_law_bars" = some (some (.ref f25)))
    (l25 : K.lookup f25 = some ⟨oc25, od25, .func (PySem.W.fnOf "_law_bars" "_law_bars" (defArgs a__law_bars) (defBody a__law_bars) (defScope a__law_bars) .none kV25 dc25 pm25 an25 cd25 ct25), sl25⟩)
    (c25 : PySem.W.codeIn K cd25 "_law_bars" = true) (k25 : PySem.W.keepIn K (.ref f25) = true)
    (a26 : PySem.W.nsIn K mainGlobals "_law_leads" = some (some (.ref f26)))
    (l26 : K.lookup f26 = some ⟨oc26, od26, .func (PySem.W.fnOf "_law_leads" "_law_leads" (defArgs a__law_leads) (defBody a__law_leads) (defScope a__law_leads) .none kV26 dc26 pm26 an26 cd26 ct26), sl26⟩)
    (c26 : PySem.W.codeIn K cd26 "_law_leads" = true) (k26 : PySem.W.keepIn K (.ref f26) = true)
    (a27 : PySem.W.nsIn K mainGlobals "_law_all_sides" = some (some (.ref f27)))
    (l27 : K.lookup f27 = some ⟨oc27, od27, .func (PySem.W.fnOf "_law_all_sides" "_law_all_sides" (defArgs a__law_all_sides) (defBody a__law_all_sides) (defScope a__law_all_sides) .none kV27 dc27 pm27 an27 cd27 ct27), sl27⟩)
    (c27 : PySem.W.codeIn K cd27 "_law_all_sides" = true) (k27 : PySem.W.keepIn K (.ref f27) = true)
    (a28 : PySem.W.nsIn K mainGlobals "_law_is_side" = some (some (.ref f28)))
    (l28 : K.lookup f28 = some ⟨oc28, od28, .func (PySem.W.fnOf "_law_is_side" "_law_is_side" (defArgs a__law_is_side) (defBody a__law_is_side) (defScope a__law_is_side) .none kV28 dc28 pm28 an28 cd28 ct28), sl28⟩)
    (c28 : PySem.W.codeIn K cd28 "_law_is_side" = true) (k28 : PySem.W.keepIn K (.ref f28) = true)
    (a29 : PySem.W.nsIn K mainGlobals "_law_roads" = some (some (.ref f29)))
    (l29 : K.lookup f29 = some ⟨oc29, od29, .func (PySem.W.fnOf "_law_roads" "_law_roads" (defArgs a__law_roads) (defBody a__law_roads) (defScope a__law_roads) .none kV29 dc29 pm29 an29 cd29 ct29), sl29⟩)
    (c29 : PySem.W.codeIn K cd29 "_law_roads" = true) (k29 : PySem.W.keepIn K (.ref f29) = true)
    (a30 : PySem.W.nsIn K mainGlobals "_law_has" = some (some (.ref f30)))
    (l30 : K.lookup f30 = some ⟨oc30, od30, .func (PySem.W.fnOf "_law_has" "_law_has" (defArgs a__law_has) (defBody a__law_has) (defScope a__law_has) .none kV30 dc30 pm30 an30 cd30 ct30), sl30⟩)
    (c30 : PySem.W.codeIn K cd30 "_law_has" = true) (k30 : PySem.W.keepIn K (.ref f30) = true)
    (a31 : PySem.W.nsIn K mainGlobals "_law_want" = some (some (.ref f31)))
    (l31 : K.lookup f31 = some ⟨oc31, od31, .func (PySem.W.fnOf "_law_want" "_law_want" (defArgs a__law_want) (defBody a__law_want) (defScope a__law_want) .none kV31 dc31 pm31 an31 cd31 ct31), sl31⟩)
    (c31 : PySem.W.codeIn K cd31 "_law_want" = true) (k31 : PySem.W.keepIn K (.ref f31) = true)
    (a32 : PySem.W.nsIn K mainGlobals "_law_odd" = some (some (.ref f32)))
    (l32 : K.lookup f32 = some ⟨oc32, od32, .func (PySem.W.fnOf "_law_odd" "_law_odd" (defArgs a__law_odd) (defBody a__law_odd) (defScope a__law_odd) .none kV32 dc32 pm32 an32 cd32 ct32), sl32⟩)
    (c32 : PySem.W.codeIn K cd32 "_law_odd" = true) (k32 : PySem.W.keepIn K (.ref f32) = true)
    (a33 : PySem.W.nsIn K mainGlobals "_law_bent" = some (some (.ref f33)))
    (l33 : K.lookup f33 = some ⟨oc33, od33, .func (PySem.W.fnOf "_law_bent" "_law_bent" (defArgs a__law_bent) (defBody a__law_bent) (defScope a__law_bent) .none kV33 dc33 pm33 an33 cd33 ct33), sl33⟩)
    (c33 : PySem.W.codeIn K cd33 "_law_bent" = true) (k33 : PySem.W.keepIn K (.ref f33) = true)
    (a34 : PySem.W.nsIn K mainGlobals "_law_is_want" = some (some (.ref f34)))
    (l34 : K.lookup f34 = some ⟨oc34, od34, .func (PySem.W.fnOf "_law_is_want" "_law_is_want" (defArgs a__law_is_want) (defBody a__law_is_want) (defScope a__law_is_want) .none kV34 dc34 pm34 an34 cd34 ct34), sl34⟩)
    (c34 : PySem.W.codeIn K cd34 "_law_is_want" = true) (k34 : PySem.W.keepIn K (.ref f34) = true)
    (a35 : PySem.W.nsIn K mainGlobals "_law_reach" = some (some (.ref f35)))
    (l35 : K.lookup f35 = some ⟨oc35, od35, .func (PySem.W.fnOf "_law_reach" "_law_reach" (defArgs a__law_reach) (defBody a__law_reach) (defScope a__law_reach) .none kV35 dc35 pm35 an35 cd35 ct35), sl35⟩)
    (c35 : PySem.W.codeIn K cd35 "_law_reach" = true) (k35 : PySem.W.keepIn K (.ref f35) = true)
    (a36 : PySem.W.nsIn K mainGlobals "_law_forms_right" = some (some (.ref f36)))
    (l36 : K.lookup f36 = some ⟨oc36, od36, .func (PySem.W.fnOf "_law_forms_right" "_law_forms_right" (defArgs a__law_forms_right) (defBody a__law_forms_right) (defScope a__law_forms_right) .none kV36 dc36 pm36 an36 cd36 ct36), sl36⟩)
    (c36 : PySem.W.codeIn K cd36 "_law_forms_right" = true) (k36 : PySem.W.keepIn K (.ref f36) = true)
    (a37 : PySem.W.nsIn K mainGlobals "_law_right" = some (some (.ref f37)))
    (l37 : K.lookup f37 = some ⟨oc37, od37, .func (PySem.W.fnOf "_law_right" "_law_right" (defArgs a__law_right) (defBody a__law_right) (defScope a__law_right) .none kV37 dc37 pm37 an37 cd37 ct37), sl37⟩)
    (c37 : PySem.W.codeIn K cd37 "_law_right" = true) (k37 : PySem.W.keepIn K (.ref f37) = true)
    (a38 : PySem.W.nsIn K mainGlobals "law" = some (some (.ref f38)))
    (l38 : K.lookup f38 = some ⟨oc38, od38, .func (PySem.W.fnOf "law" "law" (defArgs a_law) (defBody a_law) (defScope a_law) .none kV38 dc38 pm38 an38 cd38 ct38), sl38⟩)
    (c38 : PySem.W.codeIn K cd38 "law" = true) (k38 : PySem.W.keepIn K (.ref f38) = true)
    (aC : PySem.W.nsIn K mainGlobals "Plan" = some (some (.ref C))) (aI : PySem.W.findIn K (.ref C) "__init__" = some (some (.ref f0))) (iI : PySem.W.isFn K (.ref f0) = true)
    (lI : K.lookup f0 = some ⟨oc0, od0, .func (PySem.W.fnOf "__init__" "Plan.__init__" (defArgs kInit) (defBody kInit) (defScope kInit) (.ref Td) kV0 dc0 pm0 an0 cd0 ct0), sl0⟩) (cI : PySem.W.codeIn K cd0 "Plan.__init__" = true) (kI : PySem.W.keepIn K (.ref f0) = true)
    (lT : K.lookup Td = some ⟨ocT, odT, .seq #[.ref e0] nT, slT⟩)
    (pg : PySem.W.plainGet K C Str.empty = true) (hd : PySem.W.hasDictIn K C = true) (po : PySem.W.plainOver K C = true) (sa : PySem.W.findIn K (.ref C) "__setattr__" = some (some (.builtin "object.__setattr__"))) (mk : PySem.W.makesIn K C = true) (kc : PySem.W.keepIn K (.ref C) = true)
    (nTo : PySem.W.findIn K (.ref C) "tops" = some none) (nRu : PySem.W.findIn K (.ref C) "rules" = some none)
    (v1 : PySem.W.nsIn K mainGlobals "MOST_THINGS" = some (some (.int 12 tk1))) (v2 : PySem.W.nsIn K mainGlobals "MOST_RULES" = some (some (.int 40 tk2))) (v3 : PySem.W.nsIn K mainGlobals "BEYOND_THIRTY_FIGURES" = some (some (.int 1000000000000000000000000000000 tk3)))
    (v4 : PySem.W.nsIn K mainGlobals "WORDS" = some (some (.ref wa))) (v5 : K.lookup wa = some ⟨.type "tuple", odW, .seq #[.str "from" tk4, .str "to" tk5] nW, slW⟩)
    {tk6 : Tok} (v6 : PySem.W.nsIn K mainGlobals "MOST_SIDES" = some (some (.int 24 tk6)))
    (z1 : PySem.W.nsIn K mainGlobals "abs" = some none)
    (z2 : PySem.W.nsIn K mainGlobals "all" = some none)
    (z3 : PySem.W.nsIn K mainGlobals "any" = some none)
    (z4 : PySem.W.nsIn K mainGlobals "bool" = some none)
    (z5 : PySem.W.nsIn K mainGlobals "dict" = some none)
    (z6 : PySem.W.nsIn K mainGlobals "enumerate" = some none)
    (z7 : PySem.W.nsIn K mainGlobals "int" = some none)
    (z8 : PySem.W.nsIn K mainGlobals "isinstance" = some none)
    (z9 : PySem.W.nsIn K mainGlobals "len" = some none)
    (z10 : PySem.W.nsIn K mainGlobals "list" = some none)
    (z11 : PySem.W.nsIn K mainGlobals "max" = some none)
    (z12 : PySem.W.nsIn K mainGlobals "min" = some none)
    (z13 : PySem.W.nsIn K mainGlobals "range" = some none)
    (z14 : PySem.W.nsIn K mainGlobals "repr" = some none)
    (z15 : PySem.W.nsIn K mainGlobals "str" = some none)
    (z16 : PySem.W.nsIn K mainGlobals "tuple" = some none)
    (z17 : PySem.W.nsIn K mainGlobals "zip" = some none)
    : ∃ fd : FuncData, (∀ (s : Shared) (v : Value), BindsTo s fd ⟨[v], []⟩ [("_law_script", v)]) ∧ ∀ base : Heap, K.In base → base.Ns mainGlobals mg → FnG l.prog w K mg base 11 fa fd ["_law_script"] (spLaw K) := by
  have e := hfa.symm.trans (PySem.W.mg_of X G a38)
  cases e
  have F1 := fun_mk (st := a_is_whole) l1 c1 k1
  have b1 := F1.binds (ps := ["thing"]) fun _ _ _ _ _ _ us hl => match us, hl with | [_], _ => rfl
  have g1 := PySem.W.mg_of X G a1
  have F2 := fun_mk (st := a_is_place) l2 c2 k2
  have b2 := F2.binds (ps := ["top", "thing"]) fun _ _ _ _ _ _ us hl => match us, hl with | [_, _], _ => rfl
  have g2 := PySem.W.mg_of X G a2
  have F3 := fun_mk (st := kTops) l3 c3 k3
  have b3 := F3.binds (ps := ["thing"]) fun _ _ _ _ _ _ us hl => match us, hl with | [_], _ => rfl
  have g3 := PySem.W.mg_of X G a3
  have F4 := fun_mk (st := a_is_side_of) l4 c4 k4
  have b4 := F4.binds (ps := ["tops", "thing"]) fun _ _ _ _ _ _ us hl => match us, hl with | [_, _], _ => rfl
  have g4 := PySem.W.mg_of X G a4
  have F5 := fun_mk (st := a_are_sides_of) l5 c5 k5
  have b5 := F5.binds (ps := ["tops", "thing"]) fun _ _ _ _ _ _ us hl => match us, hl with | [_, _], _ => rfl
  have g5 := PySem.W.mg_of X G a5
  have F6 := fun_mk (st := kRule) l6 c6 k6
  have b6 := F6.binds (ps := ["tops", "thing"]) fun _ _ _ _ _ _ us hl => match us, hl with | [_, _], _ => rfl
  have g6 := PySem.W.mg_of X G a6
  have F7 := fun_mk (st := kRules) l7 c7 k7
  have b7 := F7.binds (ps := ["tops", "thing"]) fun _ _ _ _ _ _ us hl => match us, hl with | [_, _], _ => rfl
  have g7 := PySem.W.mg_of X G a7
  have F8 := fun_mk (st := a_span) l8 c8 k8
  have b8 := F8.binds (ps := ["plan", "side"]) fun _ _ _ _ _ _ us hl => match us, hl with | [_, _], _ => rfl
  have g8 := PySem.W.mg_of X G a8
  have F9 := fun_mk (st := a_bars) l9 c9 k9
  have b9 := F9.binds (ps := ["plan", "one", "other"]) fun _ _ _ _ _ _ us hl => match us, hl with | [_, _, _], _ => rfl
  have g9 := PySem.W.mg_of X G a9
  have F10 := fun_mk (st := a_led_by_rules) l10 c10 k10
  have b10 := F10.binds (ps := ["plan", "side"]) fun _ _ _ _ _ _ us hl => match us, hl with | [_, _], _ => rfl
  have g10 := PySem.W.mg_of X G a10
  have F11 := fun_mk (st := a_reached) l11 c11 k11
  have b11 := F11.binds (ps := ["plan", "starts"]) fun _ _ _ _ _ _ us hl => match us, hl with | [_, _], _ => rfl
  have g11 := PySem.W.mg_of X G a11
  have F12 := fun_mk (st := kIn) l12 c12 k12
  have b12 := F12.binds (ps := ["side", "standing"]) fun _ _ _ _ _ _ us hl => match us, hl with | [_, _], _ => rfl
  have g12 := PySem.W.mg_of X G a12
  have F13 := fun_mk (st := a_is_want) l13 c13 k13
  have b13 := F13.binds (ps := ["plan", "thing"]) fun _ _ _ _ _ _ us hl => match us, hl with | [_, _], _ => rfl
  have g13 := PySem.W.mg_of X G a13
  have F14 := fun_mk (st := a_has) l14 c14 k14
  have b14 := F14.binds (ps := ["want", "standing"]) fun _ _ _ _ _ _ us hl => match us, hl with | [_, _], _ => rfl
  have g14 := PySem.W.mg_of X G a14
  have F15 := fun_mk (st := a_follows) l15 c15 k15
  have b15 := F15.binds (ps := ["plan", "want"]) fun _ _ _ _ _ _ us hl => match us, hl with | [_, _], _ => rfl
  have g15 := PySem.W.mg_of X G a15
  have F16 := fun_mk (st := sPot) l16 c16 k16
  have b16 := F16.binds (ps := ["_law_script", "_law_k"]) fun _ _ _ _ _ _ us hl => match us, hl with | [_, _], _ => rfl
  have g16 := PySem.W.mg_of X G a16
  have F17 := fun_mk (st := sTake) l17 c17 k17
  have b17 := F17.binds (ps := ["_law_pot_here", "_law_many"]) fun _ _ _ _ _ _ us hl => match us, hl with | [_, _], _ => rfl
  have g17 := PySem.W.mg_of X G a17
  have F18 := fun_mk (st := sOf) l18 c18 k18
  have b18 := F18.binds (ps := ["_law_pot_here", "_law_some"]) fun _ _ _ _ _ _ us hl => match us, hl with | [_, _], _ => rfl
  have g18 := PySem.W.mg_of X G a18
  have F19 := fun_mk (st := sStand) l19 c19 k19
  have b19 := F19.binds (ps := ["_law_pot_here", "_law_tops_here"]) fun _ _ _ _ _ _ us hl => match us, hl with | [_, _], _ => rfl
  have g19 := PySem.W.mg_of X G a19
  have F20 := fun_mk (st := aIn) l20 c20 k20
  have b20 := F20.binds (ps := ["_law_side_here", "_law_standing_here"]) fun _ _ _ _ _ _ us hl => match us, hl with | [_, _], _ => rfl
  have g20 := PySem.W.mg_of X G a20
  have F21 := fun_mk (st := aTops) l21 c21 k21
  have b21 := F21.binds (ps := ["_law_pot_here"]) fun _ _ _ _ _ _ us hl => match us, hl with | [_], _ => rfl
  have g21 := PySem.W.mg_of X G a21
  have F22 := fun_mk (st := a__law_side) l22 c22 k22
  have b22 := F22.binds (ps := ["_law_pot_here", "_law_tops_here"]) fun _ _ _ _ _ _ us hl => match us, hl with | [_, _], _ => rfl
  have g22 := PySem.W.mg_of X G a22
  have F23 := fun_mk (st := a__law_loose) l23 c23 k23
  have b23 := F23.binds (ps := ["_law_pot_here"]) fun _ _ _ _ _ _ us hl => match us, hl with | [_], _ => rfl
  have g23 := PySem.W.mg_of X G a23
  have F24 := fun_mk (st := a__law_places) l24 c24 k24
  have b24 := F24.binds (ps := ["_law_tops_here", "_law_side_here"]) fun _ _ _ _ _ _ us hl => match us, hl with | [_, _], _ => rfl
  have g24 := PySem.W.mg_of X G a24
  have F25 := fun_mk (st := a__law_bars) l25 c25 k25
  have b25 := F25.binds (ps := ["_law_tops_here", "_law_one", "_law_other"]) fun _ _ _ _ _ _ us hl => match us, hl with | [_, _, _], _ => rfl
  have g25 := PySem.W.mg_of X G a25
  have F26 := fun_mk (st := a__law_leads) l26 c26 k26
  have b26 := F26.binds (ps := ["_law_tops_here", "_law_rules", "_law_one", "_law_other"]) fun _ _ _ _ _ _ us hl => match us, hl with | [_, _, _, _], _ => rfl
  have g26 := PySem.W.mg_of X G a26
  have F27 := fun_mk (st := a__law_all_sides) l27 c27 k27
  have b27 := F27.binds (ps := ["_law_tops_here"]) fun _ _ _ _ _ _ us hl => match us, hl with | [_], _ => rfl
  have g27 := PySem.W.mg_of X G a27
  have F28 := fun_mk (st := a__law_is_side) l28 c28 k28
  have b28 := F28.binds (ps := ["_law_tops_here", "_law_item"]) fun _ _ _ _ _ _ us hl => match us, hl with | [_, _], _ => rfl
  have g28 := PySem.W.mg_of X G a28
  have F29 := fun_mk (st := a__law_roads) l29 c29 k29
  have b29 := F29.binds (ps := ["_law_tops_here", "_law_rules"]) fun _ _ _ _ _ _ us hl => match us, hl with | [_, _], _ => rfl
  have g29 := PySem.W.mg_of X G a29
  have F30 := fun_mk (st := a__law_has) l30 c30 k30
  have b30 := F30.binds (ps := ["_law_want_here", "_law_standing_here"]) fun _ _ _ _ _ _ us hl => match us, hl with | [_, _], _ => rfl
  have g30 := PySem.W.mg_of X G a30
  have F31 := fun_mk (st := a__law_want) l31 c31 k31
  have b31 := F31.binds (ps := ["_law_pot_here", "_law_tops_here", "_law_most"]) fun _ _ _ _ _ _ us hl => match us, hl with | [_, _, _], _ => rfl
  have g31 := PySem.W.mg_of X G a31
  have F32 := fun_mk (st := a__law_odd) l32 c32 k32
  have b32 := F32.binds (ps := ["_law_pot_here", "_law_part"]) fun _ _ _ _ _ _ us hl => match us, hl with | [_, _], _ => rfl
  have g32 := PySem.W.mg_of X G a32
  have F33 := fun_mk (st := a__law_bent) l33 c33 k33
  have b33 := F33.binds (ps := ["_law_pot_here", "_law_item", "_law_deep"]) fun _ _ _ _ _ _ us hl => match us, hl with | [_, _, _], _ => rfl
  have g33 := PySem.W.mg_of X G a33
  have F34 := fun_mk (st := a__law_is_want) l34 c34 k34
  have b34 := F34.binds (ps := ["_law_tops_here", "_law_item"]) fun _ _ _ _ _ _ us hl => match us, hl with | [_, _], _ => rfl
  have g34 := PySem.W.mg_of X G a34
  have F35 := fun_mk (st := a__law_reach) l35 c35 k35
  have b35 := F35.binds (ps := ["_law_tops_here", "_law_roads_here", "_law_want_here"]) fun _ _ _ _ _ _ us hl => match us, hl with | [_, _, _], _ => rfl
  have g35 := PySem.W.mg_of X G a35
  have F36 := fun_mk (st := a__law_forms_right) l36 c36 k36
  have b36 := F36.binds (ps := ["_law_plan", "_law_tops_here", "_law_items"]) fun _ _ _ _ _ _ us hl => match us, hl with | [_, _, _], _ => rfl
  have g36 := PySem.W.mg_of X G a36
  have F37 := fun_mk (st := a__law_right) l37 c37 k37
  have b37 := F37.binds (ps := ["_law_pot_here"]) fun _ _ _ _ _ _ us hl => match us, hl with | [_], _ => rfl
  have g37 := PySem.W.mg_of X G a37
  have F38 := fun_mk (st := a_law) l38 c38 k38
  have m1 := PySem.W.mg_none_of X G z1
  have m2 := PySem.W.mg_none_of X G z2
  have m3 := PySem.W.mg_none_of X G z3
  have m4 := PySem.W.mg_none_of X G z4
  have m5 := PySem.W.mg_none_of X G z5
  have m6 := PySem.W.mg_none_of X G z6
  have m7 := PySem.W.mg_none_of X G z7
  have m8 := PySem.W.mg_none_of X G z8
  have m9 := PySem.W.mg_none_of X G z9
  have m10 := PySem.W.mg_none_of X G z10
  have m11 := PySem.W.mg_none_of X G z11
  have m12 := PySem.W.mg_none_of X G z12
  have m13 := PySem.W.mg_none_of X G z13
  have m14 := PySem.W.mg_none_of X G z14
  have m15 := PySem.W.mg_none_of X G z15
  have m16 := PySem.W.mg_none_of X G z16
  have m17 := PySem.W.mg_none_of X G z17
  have TX : PlanTxt K mg C := ⟨⟨pg, hd, po, sa⟩, nTo, nRu, PySem.W.mg_of X G aC⟩
  have MK : Mk K C f0 := ⟨mk, aI, iI, kc⟩
  have FD : FunD K "__init__" "Plan.__init__" (defArgs kInit) (defBody kInit) (defScope kInit) [V.ref e0] [] f0 (PySem.W.fnOf "__init__" "Plan.__init__" (defArgs kInit) (defBody kInit) (defScope kInit) (.ref Td) kV0 dc0 pm0 an0 cd0 ct0) :=
    ⟨⟨oc0, od0, .ref Td, kV0, dc0, pm0, an0, cd0, ct0, sl0, rfl, lI, cI, .inr ⟨by simp, Td, _, [.ref e0], nT, rfl, lT, rfl, .cons rfl .nil⟩, .inl rfl⟩, kI⟩
  obtain ⟨ds, rds, bI⟩ := FD.binds1 (ps := ["self", "tops", "rules"]) 3 1 (by simp) rfl fun T kV doc pm an cdv ct us its h1 h2 => match us, its, h1, h2 with | [_, _, _], [_], _, _ => ⟨_, rfl, rfl⟩
  cases rds
  have hW : ∀ H, SqT K H wa [.str "from", .str "to"] := fun H => .inr ⟨_, _, _, v5, rfl, rfl, (show 2 ≤ sizeLine by decide), .cons ⟨_, rfl⟩ (.cons ⟨_, rfl⟩ .nil)⟩
  have gv1 := PySem.W.mg_of X G v1
  have gv2 := PySem.W.mg_of X G v2
  have gv3 := PySem.W.mg_of X G v3
  have gv4 := PySem.W.mg_of X G v4
  have gv6 := PySem.W.mg_of X G v6
  refine ⟨PySem.W.fnOf "law" "law" (defArgs a_law) (defBody a_law) (defScope a_law) .none kV38 dc38 pm38 an38 cd38 ct38, fun s v => .of_eq rfl, fun base _ _ => ?_⟩
  have K_is_whole := Kn.mk (x := "is_whole") (base := base) (w := w) (P := l.prog) (ok_is_whole (k := 0) F1 m4 m7 m8) g1 F1.kp b1
  have K_is_place := Kn.mk (x := "is_place") (base := base) (w := w) (P := l.prog) (ok_is_place (k := 0) F2 K_is_whole) g2 F2.kp b2
  have Kwh := Kn.mk (x := "is_whole") (base := base) (w := w) (P := l.prog) (ok_whole (k := 0) F1 m8 m7 m4) g1 F1.kp b1
  have Kpl := Kn.mk (x := "is_place") (base := base) (w := w) (P := l.prog) (ok_place (k := 0) F2 Kwh) g2 F2.kp b2
  have Kto := Kn.mk (x := "are_tops") (base := base) (w := w) (P := l.prog) (ok_tops (k := 0) F3 Kpl m8 m16 m9 m2 gv1 gv3) g3 F3.kp b3
  have K_are_tops := Kto
  have K_is_side_of := Kn.mk (x := "is_side_of") (base := base) (w := w) (P := l.prog) (ok_is_side_of (k := 0) F4 K_is_place gv4 hW m8 m9 m15 m16) g4 F4.kp b4
  have K_are_sides_of := Kn.mk (x := "are_sides_of") (base := base) (w := w) (P := l.prog) (ok_are_sides_of (k := 0) F5 K_is_side_of m2 m8 m16) g5 F5.kp b5
  have Ksi := Kn.mk (x := "is_side_of") (base := base) (w := w) (P := l.prog) (ok_side (k := 0) F4 Kpl m8 m16 m9 m15 gv4 hW) g4 F4.kp b4
  have Kss := Kn.mk (x := "are_sides_of") (base := base) (w := w) (P := l.prog) (ok_sides (k := 0) F5 Ksi m8 m16 m2) g5 F5.kp b5
  have Kru := Kn.mk (x := "is_rule_of") (base := base) (w := w) (P := l.prog) (ok_rule (k := 0) F6 Kss m9) g6 F6.kp b6
  have K_is_rule_of := Kru
  have Krs := Kn.mk (x := "are_rules_of") (base := base) (w := w) (P := l.prog) (ok_rules (k := 0) F7 Kru m8 m16 m9 m2 gv2) g7 F7.kp b7
  have K_are_rules_of := Krs
  have K_span := Kn.mk (x := "span") (base := base) (w := w) (P := l.prog) (ok_span (k := 0) F8 TX) g8 F8.kp b8
  have K_bars := Kn.mk (x := "bars") (base := base) (w := w) (P := l.prog) (ok_bars (k := 0) F9 K_span) g9 F9.kp b9
  have K_led_by_rules := Kn.mk (x := "led_by_rules") (base := base) (w := w) (P := l.prog) (ok_led_by_rules (k := 0) F10 K_bars TX) g10 F10.kp b10
  have K_reached := Kn.mk (x := "reached") (base := base) (w := w) (P := l.prog) (ok_reached (k := 0) F11 K_led_by_rules m9 m10) g11 F11.kp b11
  have K_is_want := Kn.mk (x := "is_want") (base := base) (w := w) (P := l.prog) (ok_is_want (k := 0) F13 K_are_sides_of TX gv6 m9) g13 F13.kp b13
  have Kin := Kn.mk (x := "is_in") (base := base) (w := w) (P := l.prog) (ok_in (k := 0) F12) g12 F12.kp b12
  have K_is_in := Kin
  have K_has := Kn.mk (x := "has") (base := base) (w := w) (P := l.prog) (ok_has (k := 0) F14 K_is_in m2) g14 F14.kp b14
  have K_follows := Kn.mk (x := "follows") (base := base) (w := w) (P := l.prog) (ok_follows (k := 0) F15 K_reached TX m17 m9 m10 m11 m12 m16) g15 F15.kp b15
  have Ktake := Kn.mk (x := "_law_take") (base := base) (w := w) (P := l.prog) (ok_take (k := 0) F17) g17 F17.kp b17
  have K__law_take := Ktake
  have Kof := Kn.mk (x := "_law_of") (base := base) (w := w) (P := l.prog) (ok_of (k := 0) F18 Ktake m9) g18 F18.kp b18
  have K__law_of := Kof
  have K__law_side := Kn.mk (x := "_law_side") (base := base) (w := w) (P := l.prog) (ok__law_side (k := 0) F22 K__law_take K__law_of m9) g22 F22.kp b22
  have Ktp := Kn.mk (x := "_law_tops") (base := base) (w := w) (P := l.prog) (ok_topsL (k := 0) F21 Ktake Kof m13 m16) g21 F21.kp b21
  have K__law_tops := Ktp
  have K__law_loose := Kn.mk (x := "_law_loose") (base := base) (w := w) (P := l.prog) (ok__law_loose (k := 0) F23 K__law_tops K__law_take K__law_side m13 m16) g23 F23.kp b23
  have K__law_places := Kn.mk (x := "_law_places") (base := base) (w := w) (P := l.prog) (ok__law_places (k := 0) F24 m13) g24 F24.kp b24
  have K__law_bars := Kn.mk (x := "_law_bars") (base := base) (w := w) (P := l.prog) (ok__law_bars (k := 0) F25 K__law_places m3) g25 F25.kp b25
  have K__law_leads := Kn.mk (x := "_law_leads") (base := base) (w := w) (P := l.prog) (ok__law_leads (k := 0) F26 K__law_places K__law_bars m2) g26 F26.kp b26
  have K__law_all_sides := Kn.mk (x := "_law_all_sides") (base := base) (w := w) (P := l.prog) (ok__law_all_sides (k := 0) F27 m6 m13) g27 F27.kp b27
  have K__law_is_side := Kn.mk (x := "_law_is_side") (base := base) (w := w) (P := l.prog) (ok__law_is_side (k := 0) F28 m2 m4 m7 m8 m9 m15 m16) g28 F28.kp b28
  have K__law_roads := Kn.mk (x := "_law_roads") (base := base) (w := w) (P := l.prog) (ok__law_roads (k := 0) F29 K__law_all_sides K__law_leads m5) g29 F29.kp b29
  have Kli := Kn.mk (x := "_law_is_in") (base := base) (w := w) (P := l.prog) (ok_lin (k := 0) F20) g20 F20.kp b20
  have K__law_is_in := Kli
  have K__law_has := Kn.mk (x := "_law_has") (base := base) (w := w) (P := l.prog) (ok__law_has (k := 0) F30 K__law_is_in m2) g30 F30.kp b30
  have K__law_want := Kn.mk (x := "_law_want") (base := base) (w := w) (P := l.prog) (ok__law_want (k := 0) F31 K__law_side K__law_take m13 m16) g31 F31.kp b31
  have K__law_odd := Kn.mk (x := "_law_odd") (base := base) (w := w) (P := l.prog) (ok__law_odd (k := 0) F32 K__law_of K__law_take m7 m8 m9 m10 m15 m16) g32 F32.kp b32
  have K__law_bent := Kn.mk (x := "_law_bent") (base := base) (w := w) (P := l.prog) (ok_bentK F33 K__law_odd K__law_take g33 b33 m8 m9 m16 3) g33 F33.kp b33
  have K__law_is_want := Kn.mk (x := "_law_is_want") (base := base) (w := w) (P := l.prog) (ok__law_is_want (k := 0) F34 K__law_is_side m2 m8 m9 m16) g34 F34.kp b34
  have K__law_reach := Kn.mk (x := "_law_reach") (base := base) (w := w) (P := l.prog) (ok__law_reach (k := 0) F35 m5 m6 m10 m11 m12 m16) g35 F35.kp b35
  have K__law_forms_right := ok__law_forms_right F36 K_is_want K__law_is_want m4 m8 m14
  have Kst := Kn.mk (x := "_law_standing") (base := base) (w := w) (P := l.prog) (ok_stand (k := 0) F19 Ktake m16) g19 F19.kp b19
  have K__law_standing := Kst
  have GI := ok_init (P := l.prog) (w := w) (base := base) (k := 0) FD TX Kto Krs
  have K__law_right := ok__law_right F37 K__law_loose K__law_all_sides K__law_roads K__law_want K_follows K__law_reach K__law_standing K_has K__law_has K__law_bent K__law_of K__law_forms_right g36 F36.kp b36 TX MK GI bI m10 m13 m14 m16
  have Kpot := Kn.mk (x := "_law_pot") (base := base) (w := w) (P := l.prog) (ok_pot (k := 0) F16 m9 m1 m7) g16 F16.kp b16
  have K__law_pot := Kpot
  exact ok_law F38 K__law_pot K__law_right g37 F37.kp b37 m2 m9 m11 m12 m13
end K11
open PySem PySem.W PyProof.Rows
set_option maxHeartbeats 0 in
theorem PySem.Challenge.cw_notbothout_k11_wants_and_what_follows_holds : PySem.Challenge.rw_notbothout_k11_wants_and_what_follows.Holds := by
  w_on; o_law; k_head; (case hw => w_witness2)
  k_fill
  refine NB.walkG (l := PySem.Challenge.rw_notbothout_k11_wants_and_what_follows) (n := 63) (k := 11) (x := "_law_script") (sp := fun w => K11.spLaw _) rfl (by decide) rfl ⟨rfl, by decide, by decide⟩ (fun w h Y => PySem.W.kIn_of Y) ?F (fun _ _ a ns hl hS => ⟨a, ns, rfl, hS, hl, fun _ => rfl⟩)
  case F =>
    intro w mg fa h KX G hmg
    refine' K11.all_mk KX G hmg ?a1 ?l1 ?c1 ?k1 ?a2 ?l2 ?c2 ?k2 ?a3 ?l3 ?c3 ?k3 ?a4 ?l4 ?c4 ?k4 ?a5 ?l5 ?c5 ?k5 ?a6 ?l6 ?c6 ?k6 ?a7 ?l7 ?c7 ?k7 ?a8 ?l8 ?c8 ?k8 ?a9 ?l9 ?c9 ?k9 ?a10 ?l10 ?c10 ?k10 ?a11 ?l11 ?c11 ?k11 ?a12 ?l12 ?c12 ?k12 ?a13 ?l13 ?c13 ?k13 ?a14 ?l14 ?c14 ?k14 ?a15 ?l15 ?c15 ?k15 ?a16 ?l16 ?c16 ?k16 ?a17 ?l17 ?c17 ?k17 ?a18 ?l18 ?c18 ?k18 ?a19 ?l19 ?c19 ?k19 ?a20 ?l20 ?c20 ?k20 ?a21 ?l21 ?c21 ?k21 ?a22 ?l22 ?c22 ?k22 ?a23 ?l23 ?c23 ?k23 ?a24 ?l24 ?c24 ?k24 ?a25 ?l25 ?c25 ?k25 ?a26 ?l26 ?c26 ?k26 ?a27 ?l27 ?c27 ?k27 ?a28 ?l28 ?c28 ?k28 ?a29 ?l29 ?c29 ?k29 ?a30 ?l30 ?c30 ?k30 ?a31 ?l31 ?c31 ?k31 ?a32 ?l32 ?c32 ?k32 ?a33 ?l33 ?c33 ?k33 ?a34 ?l34 ?c34 ?k34 ?a35 ?l35 ?c35 ?k35 ?a36 ?l36 ?c36 ?k36 ?a37 ?l37 ?c37 ?k37 ?a38 ?l38 ?c38 ?k38 ?aC ?aI ?iI ?lI ?cI ?kI ?lT ?pg ?hd ?po ?sa ?mk ?kc ?nTo ?nRu ?v1 ?v2 ?v3 ?v4 ?v5 ?v6 ?z1 ?z2 ?z3 ?z4 ?z5 ?z6 ?z7 ?z8 ?z9 ?z10 ?z11 ?z12 ?z13 ?z14 ?z15 ?z16 ?z17
    (case a1 => k_is)
    (case l1 => k_is)
    (case c1 => k_is)
    (case k1 => k_is)
    (case a2 => k_is)
    (case l2 => k_is)
    (case c2 => k_is)
    (case k2 => k_is)
    (case a3 => k_is)
    (case l3 => k_is)
    (case c3 => k_is)
    (case k3 => k_is)
    (case a4 => k_is)
    (case l4 => k_is)
    (case c4 => k_is)
    (case k4 => k_is)
    (case a5 => k_is)
    (case l5 => k_is)
    (case c5 => k_is)
    (case k5 => k_is)
    (case a6 => k_is)
    (case l6 => k_is)
    (case c6 => k_is)
    (case k6 => k_is)
    (case a7 => k_is)
    (case l7 => k_is)
    (case c7 => k_is)
    (case k7 => k_is)
    (case a8 => k_is)
    (case l8 => k_is)
    (case c8 => k_is)
    (case k8 => k_is)
    (case a9 => k_is)
    (case l9 => k_is)
    (case c9 => k_is)
    (case k9 => k_is)
    (case a10 => k_is)
    (case l10 => k_is)
    (case c10 => k_is)
    (case k10 => k_is)
    (case a11 => k_is)
    (case l11 => k_is)
    (case c11 => k_is)
    (case k11 => k_is)
    (case a12 => k_is)
    (case l12 => k_is)
    (case c12 => k_is)
    (case k12 => k_is)
    (case a13 => k_is)
    (case l13 => k_is)
    (case c13 => k_is)
    (case k13 => k_is)
    (case a14 => k_is)
    (case l14 => k_is)
    (case c14 => k_is)
    (case k14 => k_is)
    (case a15 => k_is)
    (case l15 => k_is)
    (case c15 => k_is)
    (case k15 => k_is)
    (case a16 => k_is)
    (case l16 => k_is)
    (case c16 => k_is)
    (case k16 => k_is)
    (case a17 => k_is)
    (case l17 => k_is)
    (case c17 => k_is)
    (case k17 => k_is)
    (case a18 => k_is)
    (case l18 => k_is)
    (case c18 => k_is)
    (case k18 => k_is)
    (case a19 => k_is)
    (case l19 => k_is)
    (case c19 => k_is)
    (case k19 => k_is)
    (case a20 => k_is)
    (case l20 => k_is)
    (case c20 => k_is)
    (case k20 => k_is)
    (case a21 => k_is)
    (case l21 => k_is)
    (case c21 => k_is)
    (case k21 => k_is)
    (case a22 => k_is)
    (case l22 => k_is)
    (case c22 => k_is)
    (case k22 => k_is)
    (case a23 => k_is)
    (case l23 => k_is)
    (case c23 => k_is)
    (case k23 => k_is)
    (case a24 => k_is)
    (case l24 => k_is)
    (case c24 => k_is)
    (case k24 => k_is)
    (case a25 => k_is)
    (case l25 => k_is)
    (case c25 => k_is)
    (case k25 => k_is)
    (case a26 => k_is)
    (case l26 => k_is)
    (case c26 => k_is)
    (case k26 => k_is)
    (case a27 => k_is)
    (case l27 => k_is)
    (case c27 => k_is)
    (case k27 => k_is)
    (case a28 => k_is)
    (case l28 => k_is)
    (case c28 => k_is)
    (case k28 => k_is)
    (case a29 => k_is)
    (case l29 => k_is)
    (case c29 => k_is)
    (case k29 => k_is)
    (case a30 => k_is)
    (case l30 => k_is)
    (case c30 => k_is)
    (case k30 => k_is)
    (case a31 => k_is)
    (case l31 => k_is)
    (case c31 => k_is)
    (case k31 => k_is)
    (case a32 => k_is)
    (case l32 => k_is)
    (case c32 => k_is)
    (case k32 => k_is)
    (case a33 => k_is)
    (case l33 => k_is)
    (case c33 => k_is)
    (case k33 => k_is)
    (case a34 => k_is)
    (case l34 => k_is)
    (case c34 => k_is)
    (case k34 => k_is)
    (case a35 => k_is)
    (case l35 => k_is)
    (case c35 => k_is)
    (case k35 => k_is)
    (case a36 => k_is)
    (case l36 => k_is)
    (case c36 => k_is)
    (case k36 => k_is)
    (case a37 => k_is)
    (case l37 => k_is)
    (case c37 => k_is)
    (case k37 => k_is)
    (case a38 => k_is)
    (case l38 => k_is)
    (case c38 => k_is)
    (case k38 => k_is)
    (case aC => k_is)
    (case aI => k_is)
    (case iI => k_is)
    (case lI => k_is)
    (case cI => k_is)
    (case kI => k_is)
    (case lT => k_is)
    (case pg => k_is)
    (case hd => k_is)
    (case po => k_is)
    (case sa => k_is)
    (case mk => k_is)
    (case kc => k_is)
    (case nTo => k_is)
    (case nRu => k_is)
    (case v1 => k_is)
    (case v2 => k_is)
    (case v3 => k_is)
    (case v4 => k_is)
    (case v5 => k_is)
    (case v6 => k_is)
    (case z1 => k_is)
    (case z2 => k_is)
    (case z3 => k_is)
    (case z4 => k_is)
    (case z5 => k_is)
    (case z6 => k_is)
    (case z7 => k_is)
    (case z8 => k_is)
    (case z9 => k_is)
    (case z10 => k_is)
    (case z11 => k_is)
    (case z12 => k_is)
    (case z13 => k_is)
    (case z14 => k_is)
    (case z15 => k_is)
    (case z16 => k_is)
    (case z17 => k_is)
