import PyProof.Rows.All
import Wide.All
import OpenK.AllK
import Wide.FinOn
import HandS.Base
import HandS.Call
import HandS.List
import HandS.Comp
import HandS.Ends
import HandS.Dict
import HandS.Iter
import HandS.Text
import HandS.Words
import HandS.WordsList
import HandS.WordsDict
import HandS.Wide
import HandS.Zip
import HandS.Flow
import HandS.Flt
import KE.GoesMore
import KE.KDictZip
import PyProof.ReprRoads
import HandS.Walk
import PyProof.TupleOfSeq
import KE.GoesEnum
import HandS.Style
import PyProof.ReprLen
import HandS.TupAny
import HandS.Codes
import HandS.IsInst
import HandS.Defaults
import KE.KListMore
import HandS.SortOrd
import HandS.SortRule
import HandS.TupSets
import HandS.Deep
import KE.KDictPairs
import PyProof.Rows.TupDisplay
import HandS.Steps
import HandS.OwnEq
import HandS.DictComp
import HandS.DictTup
import PyProof.CollectWalk
import HandS.Conv
import HandS.Star
import PyProof.EqAt
import PyProof.NeKinds
import KE.GoesZip
import KE.GoesNew
import PyProof.P3In
import HandS.TryOnly
import PySem.Challenge.RW_notbothout_k18_whole_middles_are_the_nea
set_option Elab.async false
set_option linter.all false
set_option maxRecDepth 100000
/-! Defs whose callers are known to show nothing (guards empty): what repr wants. -/
namespace NB
open PySem PySem.Spec PyProof.Rows L2

/-- a def's promise, wherever nothing is being shown around it -/
structure FnG (P : Program) (w : World) (K : PySem.W.Frag) (mg : Str → Option Value) (base : Heap) (k : Nat) (f : Addr) (fd : FuncData) (ps : List Str) (sp : Sp) : Prop where
  len : ∀ vs H Q E, sp vs H Q E → vs.length = ps.length
  go : ∀ (A : Around) (out : List Env) (s : Shared) (H : Hp) (ar : Args) (us : List Value) (vs : List V) (Q : VK) (E : XK),
    A.guards = some [] → Room k A → Env0 P w K mg base A out s H → BindsTo s fd ar (ps.zip us) → Vals vs us → sp vs H Q E →
    codeAny (model P w) A (.call (.ref f) ar) (CR CX0 out P w H s Q E) s

section
variable {P : Program} {w : World} {K : PySem.W.Frag} {mg : Str → Option Value} {base : Heap}

theorem FnG.of {k : Nat} {f : Addr} {fd : FuncData} {ps : List Str} {sp : Sp} (F : FnOk P w K mg base CX0 k f fd ps sp) : FnG P w K mg base k f fd ps sp :=
  ⟨F.len, fun A out s H ar us vs Q E _ => F.run A out s H ar us vs Q E⟩

theorem fnG {x qual : Str} {st : Stmt} {f : Addr} {fd : FuncData} {N ps : List Str} {k : Nat} {sp : Sp} (F : Fun K x qual st f fd)
    (S : FnScope N ps (defScope st)) (len : ∀ vs H Q E, sp vs H Q E → vs.length = ps.length)
    (body : ∀ (c : Value) (A : Around) (out : List Env) (s : Shared) (H : Hp) (vs : List V) (Q : VK) (E : XK),
      A.guards = some [] → Room k (A.deeper (envOfC qual (defScope st) s.heap.objs.size f c)) → sp vs H Q E →
      ∃ t, PSs (cxOf CX0 P w K mg base N qual (defScope st) f c A out s H E).nox (defBody st) t ∧
        t { nx := fun _ H' => Q .non H', rt := Q } (start N vs) H) :
    FnG P w K mg base (k + 1) f fd ps sp := by
  obtain ⟨oc, od, kV, doc, pm, an, c, ct, osl, rfl, lk, hc⟩ := F.ex
  refine ⟨len, fun A out s H ar us vs Q E hg hr e hb r h => ?_⟩
  have stays : ∀ b o, base.get? b = some o → s.heap.get? b = some o := fun b o q => (e.bs b o q).1
  have inH : K.In s.heap := e.mod.kin.keeps stays
  have noLim : s.heap.NoLimit := e.mod.nolimit.keeps stays
  have kinds : ∀ y ∈ ps.zip us, (defScope st).names.lookup y.1 = some .local ∨
      ((defScope st).names.lookup y.1 = some .cell ∧ ((cellsFrom (s.heap.objs.size + 1) (defScope st).names []).lookup y.1).isSome = true) := by
    intro y hy
    obtain ⟨n, v⟩ := y
    cases S.par n (List.of_mem_zip hy).1 with
    | inl q => exact .inl q
    | inr q => exact .inr ⟨q, PySem.W.cellsFrom_some _ _ _ (.inl q)⟩
  refine codeAny_call_function hr.depth (inH _ _ lk) rfl S.co S.gen rfl (PySem.W.codeRec_of inH hc) (hb _ _ _ _ ?_)
  refine wpAny_newFunctionEnv_cells S.kind kinds ?_
  rintro env rfl s1 x
  refine ⟨noLim.keeps x.toInCall.keep, codeAny_func ?_⟩
  obtain ⟨t, ht, hq⟩ := body c A out s H vs Q E hg (hr.deeper _) h
  have I := inv_start (CX := CX0) (E := E) S hr.hd e (len _ _ _ _ h) r x
  refine wpAny_mono (ht.nox.run [] s1 (start N vs) H _ I hq) ?_ fun _ _ z => z
  intro fl s' z
  cases fl with
  | ret u =>
    obtain ⟨v, σ', H', J, rv, q⟩ := z
    exact ⟨v, H', J.os, J.bare, J.base, J.hok, rv, q⟩
  | next =>
    obtain ⟨σ', H', J, q⟩ := z
    exact ⟨V.non, H', J.os, J.bare, J.base, J.hok, rfl, q⟩
  | brk => exact False.elim z.choose_spec.choose_spec.2
  | cont => exact False.elim z.choose_spec.choose_spec.2
end

section
variable {X : Cx} {k : Nat} {f : Addr} {fd : FuncData} {ps : List Str} {sp : Sp} {x : Str} {p pos : Pos} {e : Expr} {es : List Expr} {t : TA}
/-- f(..) of such a def, all arguments written -/
theorem pe_callG (hG : X.A.guards = some []) (F : FnG X.prog X.w X.K X.mg X.base k f fd ps sp) (hr : Room k X.A) (hg : Gl X x) (hm : X.mg x = some (.ref f))
    (hk : PySem.W.keepIn X.K (.ref f) = true) (hb : Binds X.K fd ps []) (ha : PA X (e :: es) t) (hdb : (x == ("__debug__" : Str)) = false := by decide)
    (he : starEach (e :: es) X.env = (false, eval e X.env) :: starEach es X.env := by rfl) (hpl : (backTo pos (starEach es X.env)).any (·.1) = false := by rfl) :
    PE X (.Call (.Name x p) (e :: es) [] pos) (tCall sp [] E0 t) := by
  refine ⟨fun pins s σ H Q I h => wpAny_Call_Name_kw (ld_glob I hg hm ?_ hdb)⟩
  refine PySem.W.callWith_K (h₀ := X.base) I.ok.mod.kin hk (thn (ha.run pos pins s σ H _ I h) ?_) he hpl
  rintro us s1 ⟨vs, H1, I1, r, q⟩
  refine ⟨I1.kIn, wpAny_call ?_⟩
  have q2 : sp vs H1 Q E0 := by
    have q' : sp (vs ++ []) H1 Q E0 := q
    rwa [List.append_nil] at q'
  have ln : us.length = ps.length := r.length.symm.trans (F.len _ _ _ _ q2)
  have bnd : BindsTo s1 fd ⟨us, []⟩ (ps.zip us) := by
    have b := hb s1 us I1.kIn (by rw [List.append_nil]; exact ln)
    rwa [List.append_nil] at b
  refine codeAny_mono (F.go X.A X.stack s1 H1 ⟨us, []⟩ us vs Q E0 hG hr I1.env0 bnd r q2) ?_
  intro rs s' z
  cases rs with
  | error e => exact False.elim z
  | ok fl =>
    cases fl with
    | ret u => exact I1.after z
    | next => exact False.elim z
    | brk => exact False.elim z
    | cont => exact False.elim z
end

section
variable {X : Cx}
/-- what repr asks of data -/
structure Showable (d : PyData) : Prop where
  sh : d.showable = true
  nd : d.hasDict = false
  dp : d.depth ≤ 60
  sz : d.shown.length ≤ sizeLine
/-- repr(x), x a list or a tuple of data -/
theorem call_reprD (hG : X.A.guards = some []) (hu : X.A.units + 64 < cLine) : CallR X (.builtin "repr") (fun xs H Q => ∃ a d, xs = [.ref a] ∧ Dp X.K H (.ref a) d ∧ Showable d ∧ Q (.str d.shown) H) := by
  intro pins s σ H xs us Q I r h
  obtain ⟨a, d, rfl, hd, S, q⟩ := h
  obtain ⟨u, rfl, ru⟩ := vals1 r
  obtain ⟨as, rd⟩ := Dp.reads I d _ u hd ru
  cases ru
  have hn := S.dp
  exact repr_of_reads' rd S.sh (PyData.noDict_hsm S.nd) hG (by omega) (fun _ _ z => z) (fun h' u tk hk => ⟨.str _, H, I.kept hk, ⟨_, rfl⟩, q⟩) S.sz
end
end NB

set_option Elab.async false
set_option linter.all false
set_option maxRecDepth 100000
set_option maxHeartbeats 1000000
/-! zip of three tuples of one length, its turns given to one name or to three. -/
namespace NB
open PySem PySem.Spec PyProof.Rows L2
open PySem.Sem (wp)

/-- a zip as it stands between two turns: a is None or the tuple given out last -/
abbrev Zat (h : Heap) (z ti to : Addr) (a b : Value) : Prop :=
  h.get? z = some { cls := .type "zip", dict := none, data := .fields #[a, b, .bool false, .ref ti, .ref to], slots := #[] }
def Out (a : Value) : Prop := a = .none ∨ ∃ T : Addr, a = rawInt T

section
variable {prog : Program} {w : World} {A : Around} {E : Value → Shared → Prop} {s : Shared} {z ti to i1 i2 i3 l1 l2 l3 : Addr} {a a1 a2 a3 : Value} {f : Bool} {xs ys zs : Array Value} {i : Nat}

theorem freeOr {Q : Bool → Shared → Prop} (ho : Out a) (hz : Zat s.heap z ti to a (.bool f))
    (h : ∀ (b : Bool) (h' : Heap) (g : Bool), Zat h' z ti to a (.bool g) → Heap.SameBut z s.heap h' → Q b { s with heap := h' }) :
    wpAny (model prog w) A (Builtin.SmallTypes.ownedTupleIsFree (.ref z)) Q E s := by
  unfold Builtin.SmallTypes.ownedTupleIsFree
  refine wpAny_bind (wpAny_field hz rfl (x := a) rfl ?_)
  rcases ho with e | ⟨T, e⟩
  · subst e
    exact wpAny_pure (h true s.heap f hz (Heap.SameBut.refl _ _))
  · subst e
    show wpAny _ _ (loadIfAlive ((T : Int).toNat) >>= _) _ _ _
    rw [Int.toNat_natCast]
    refine wpAny_bind ?_
    cases e : s.heap.get? T with
    | none =>
      have key : wpAny (model prog w) A (loadIfAlive T) (fun r s' => r = none ∧ s' = s) E s := fun _ _ _ => ⟨e, rfl⟩
      refine thn key fun r s' q => ?_
      obtain ⟨rfl, rfl⟩ := q
      exact wpAny_pure (h true _ f hz (Heap.SameBut.refl _ _))
    | some o =>
      refine PySem.W.kdx_alive e ?_
      simp only [Option.isNone_some, Bool.false_eq_true, if_false]
      refine wpAny_bind (wpAny_field hz rfl (x := .bool f) rfl ?_)
      cases f with
      | true =>
        rw [if_neg (show ¬ ((Value.bool true != Value.bool true) = true) by decide)]
        exact wpAny_pure (h false s.heap true hz (Heap.SameBut.refl _ _))
      | false =>
        rw [if_pos (show (Value.bool false != Value.bool true) = true by decide)]
        exact wpAny_bind (wpAny_setField_rec hz (by simp) fun h1 z1 s1 => wpAny_pure (h false h1 true z1 s1))

/-- the three iterators over their tuples at turn i, apart from the zip's own cells -/
abbrev St3 (h : Heap) (i1 i2 i3 l1 l2 l3 : Addr) (xs ys zs : Array Value) (i : Nat) : Prop :=
  (h.IsTupleIter i1 l1 i ∧ h.IsTuple l1 xs) ∧ (h.IsTupleIter i2 l2 i ∧ h.IsTuple l2 ys) ∧ (h.IsTupleIter i3 l3 i ∧ h.IsTuple l3 zs)

theorem keepIt {h h' : Heap} {it l : Addr} {k : Nat} {vs : Array Value} (st : h.IsTupleIter it l k ∧ h.IsTuple l vs) {x : Addr} (hs : Heap.SameBut x h h') (n1 : it ≠ x) (n2 : l ≠ x) : h'.IsTupleIter it l k ∧ h'.IsTuple l vs :=
  ⟨st.1.extBut hs.extBut n1, st.2.extBut hs.extBut n2⟩

structure Far3 (z ti to i1 i2 i3 l1 l2 l3 : Addr) : Prop where
  tiz : ti ≠ z
  toz : to ≠ z
  tito : ti ≠ to
  ti1 : ti ≠ i1
  ti2 : ti ≠ i2
  ti3 : ti ≠ i3
  to1 : to ≠ i1
  to2 : to ≠ i2
  to3 : to ≠ i3
  z1 : i1 ≠ z
  z2 : i2 ≠ z
  z3 : i3 ≠ z
  n12 : i1 ≠ i2
  n13 : i1 ≠ i3
  n23 : i2 ≠ i3
  l1n : l1 ≠ z ∧ l1 ≠ to ∧ l1 ≠ i1 ∧ l1 ≠ i2 ∧ l1 ≠ i3
  l2n : l2 ≠ z ∧ l2 ≠ to ∧ l2 ≠ i1 ∧ l2 ≠ i2 ∧ l2 ≠ i3
  l3n : l3 ≠ z ∧ l3 ≠ to ∧ l3 ≠ i1 ∧ l3 ≠ i2 ∧ l3 ≠ i3

theorem drawT {it l : Addr} {k : Nat} {vs : Array Value} {x : Value} {Q : Value → Shared → Prop} (st : s.heap.IsTupleIter it l k ∧ s.heap.IsTuple l vs) (ne : l ≠ it) (hx : vs[k]? = some x)
    (h : ∀ h', (h'.IsTupleIter it l (k + 1) ∧ h'.IsTuple l vs) → Heap.SameBut it s.heap h' → Q x { s with heap := h' }) :
    wpAny (model prog w) A (Builtin.SmallTypes.nextOf (.ref it)) Q E s :=
  RZ.nextOf_tuple_item st.1 st.2 hx fun h' q1 q2 => h h' ⟨q1, st.2.extBut q2.extBut ne⟩ q2

theorem next3 {x1 x2 x3 : Value} {Q : Value → Shared → Prop} (D : Far3 z ti to i1 i2 i3 l1 l2 l3) (ho : Out a) (hz : Zat s.heap z ti to a (.bool f))
    (hI : IsTupOf3 s.heap ti (.ref i1) (.ref i2) (.ref i3)) (hO : IsTupOf3 s.heap to a1 a2 a3) (st : St3 s.heap i1 i2 i3 l1 l2 l3 xs ys zs i)
    (hx : xs[i]? = some x1) (hy : ys[i]? = some x2) (hw : zs[i]? = some x3)
    (hQ : ∀ (h' : Heap) (a' : Value) (g : Bool) (b1 b2 b3 : Value), Out a' → Zat h' z ti to a' (.bool g) → IsTupOf3 h' to b1 b2 b3 → St3 h' i1 i2 i3 l1 l2 l3 xs ys zs (i + 1) → IsTupOf3 h' s.heap.objs.size x1 x2 x3 → h'.objs.size = s.heap.objs.size + 1 →
      (∀ c o, c ≠ z → c ≠ to → c ≠ i1 → c ≠ i2 → c ≠ i3 → s.heap.get? c = some o → h'.get? c = some o) → Q (.ref s.heap.objs.size) { s with heap := h' }) :
    wpAny (model prog w) A (Builtin.«zip.__next__» ⟨[.ref z], []⟩) (fun fin s' => ∃ v, fin = .done (.ret v) ∧ Q v s') E s := by
  obtain ⟨hp, gg, dd, tk, os⟩ := s
  show wpAny _ _ (field (.ref z) 2 >>= _) _ _ _
  refine wpAny_bind (wpAny_field hz rfl (x := .bool false) rfl ?_)
  show wpAny _ _ (field (.ref z) 3 >>= _) _ _ _
  refine wpAny_bind (wpAny_field hz rfl (x := .ref ti) rfl ?_)
  refine wpAny_bind (wpAny_seqItems hI rfl ?_)
  show wpAny _ _ (Builtin.SmallTypes.ownedTupleIsFree (.ref z) >>= _) _ _ _
  refine wpAny_bind (freeOr ho hz fun b h1 f1 hz1 hs1 => ?_)
  replace hs1 : Heap.SameBut z hp h1 := hs1
  obtain ⟨sa, sb, sc⟩ := st
  have sa1 := keepIt sa hs1 D.z1 D.l1n.1
  have sb1 := keepIt sb hs1 D.z2 D.l2n.1
  have sc1 := keepIt sc hs1 D.z3 D.l3n.1
  have hO1 : IsTupOf3 h1 to a1 a2 a3 := hs1.extBut _ _ D.toz hO
  cases b with
  | false =>
    simp only [Bool.false_eq_true, if_false]
    refine wpAny_bind ?_
    rw [← Array.forIn_toList]
    simp only [List.forIn_cons, List.forIn_nil]
    refine wpAny_bind (wpAny_bind (wpAny_holding ?_))
    show wpAny _ _ (Builtin.SmallTypes.nextOf (.ref i1) >>= _) _ _ ⟨h1, gg, dd, tk, os⟩
    refine wpAny_bind (drawT (s := ⟨h1, gg, dd, tk, os⟩) sa1 D.l1n.2.2.1 hx fun h2 sa2 hs2 => wpAny_pure (wpAny_pure ?_))
    replace hs2 : Heap.SameBut i1 h1 h2 := hs2
    have sb2 := keepIt sb1 hs2 D.n12.symm D.l2n.2.2.1
    have sc2 := keepIt sc1 hs2 D.n13.symm D.l3n.2.2.1
    refine wpAny_bind (wpAny_bind (wpAny_holding ?_))
    show wpAny _ _ (Builtin.SmallTypes.nextOf (.ref i2) >>= _) _ _ ⟨h2, gg, dd, tk, os⟩
    refine wpAny_bind (drawT (s := ⟨h2, gg, dd, tk, os⟩) sb2 D.l2n.2.2.2.1 hy fun h3 sb3 hs3 => wpAny_pure (wpAny_pure ?_))
    replace hs3 : Heap.SameBut i2 h2 h3 := hs3
    have sa3 := keepIt sa2 hs3 D.n12 D.l1n.2.2.2.1
    have sc3 := keepIt sc2 hs3 D.n23.symm D.l3n.2.2.2.1
    refine wpAny_bind (wpAny_bind (wpAny_holding ?_))
    show wpAny _ _ (Builtin.SmallTypes.nextOf (.ref i3) >>= _) _ _ ⟨h3, gg, dd, tk, os⟩
    refine wpAny_bind (drawT (s := ⟨h3, gg, dd, tk, os⟩) sc3 D.l3n.2.2.2.2 hw fun h4 sc4 hs4 => wpAny_pure (wpAny_pure (wpAny_pure ?_)))
    replace hs4 : Heap.SameBut i3 h3 h4 := hs4
    have sa4 := keepIt sa3 hs4 D.n13 D.l1n.2.2.2.2
    have sb4 := keepIt sb3 hs4 D.n23 D.l2n.2.2.2.2
    show wpAny _ _ (newTuple [x1, x2, x3] >>= _) _ _ ⟨h4, gg, dd, tk, os⟩
    refine wpAny_bind (wpAny_newTuple (wpAny_pure ⟨_, rfl, ?_⟩))
    have sz : h4.objs.size = hp.objs.size := by rw [hs4.1, hs3.1, hs2.1, hs1.1]
    have kk : ∀ c o, c ≠ z → c ≠ i1 → c ≠ i2 → c ≠ i3 → hp.get? c = some o → h4.get? c = some o := fun c o c0 c1 c2 c3 e =>
      hs4.extBut _ _ c3 (hs3.extBut _ _ c2 (hs2.extBut _ _ c1 (hs1.extBut _ _ c0 e)))
    have hz4 : Zat h4 z ti to a (.bool f1) := hs4.extBut _ _ D.z3.symm (hs3.extBut _ _ D.z2.symm (hs2.extBut _ _ D.z1.symm hz1))
    have hO4 : IsTupOf3 h4 to a1 a2 a3 := kk _ _ D.toz D.to1 D.to2 D.to3 hO
    have up : ∀ c o, h4.get? c = some o → (h4.push { cls := .type "tuple", data := .seq #[x1, x2, x3] }).get? c = some o := fun c o e => Heap.get?_push_of_some _ e
    have nw : IsTupOf3 (h4.push { cls := .type "tuple", data := .seq #[x1, x2, x3] }) h4.objs.size x1 x2 x3 := Heap.get?_push_size _ rfl
    have zw : (h4.push { cls := .type "tuple", data := .seq #[x1, x2, x3] }).objs.size = h4.objs.size + 1 := Heap.size_push ..
    show Q (.ref h4.objs.size) _
    rw [sz] at nw zw ⊢
    exact hQ _ a f1 a1 a2 a3 ho (up _ _ hz4) (up _ _ hO4)
      ⟨⟨sa4.1.at fun o e => up _ o e, sa4.2.push _⟩, ⟨sb4.1.at fun o e => up _ o e, sb4.2.push _⟩, ⟨sc4.1.at fun o e => up _ o e, sc4.2.push _⟩⟩ nw zw
      fun c o c0 _ c1 c2 c3 e => up c o (kk c o c0 c1 c2 c3 e)
  | true =>
    simp only [if_true]
    refine wpAny_bind (wpAny_rule ?_)
    refine wpAny_bind (wpAny_field (s := ⟨h1, gg, dd, tk, os⟩) hz1 rfl (x := .ref to) rfl ?_)
    refine wpAny_bind (wpAny_setField_rec (s := ⟨h1, gg, dd, tk, os⟩) hz1 (by simp) fun g0 z0 s0 => ?_)
    replace z0 : Zat g0 z ti to .ellipsis (.bool f1) := z0
    replace s0 : Heap.SameBut z h1 g0 := s0
    have ta0 := keepIt sa1 s0 D.z1 D.l1n.1
    have tb0 := keepIt sb1 s0 D.z2 D.l2n.1
    have tc0 := keepIt sc1 s0 D.z3 D.l3n.1
    have o0 : IsTupOf3 g0 to a1 a2 a3 := s0.extBut _ _ D.toz hO1
    refine wpAny_bind ?_
    simp only [List.zipIdx_cons, List.zipIdx_nil, List.forIn_cons, List.forIn_nil]
    refine wpAny_bind (wpAny_bind (wpAny_onRaise ?_))
    show wpAny _ _ (Builtin.SmallTypes.nextOf (.ref i1) >>= _) _ _ ⟨g0, gg, dd, tk, os⟩
    refine wpAny_bind (drawT (s := ⟨g0, gg, dd, tk, os⟩) ta0 D.l1n.2.2.1 hx fun p1 ta1 s1 => wpAny_pure ?_)
    replace s1 : Heap.SameBut i1 g0 p1 := s1
    have o1 : IsTupOf3 p1 to a1 a2 a3 := s1.extBut _ _ D.to1 o0
    refine wpAny_bind (wpAny_seqItems (s := ⟨p1, gg, dd, tk, os⟩) o1 rfl ?_)
    refine wpAny_bind (updateSeq_IsTupOf3 (s := ⟨p1, gg, dd, tk, os⟩) o1 fun q1 u1 r1 => wpAny_bind (wpAny_letGo (wpAny_pure ?_)))
    replace u1 : IsTupOf3 q1 to x1 a2 a3 := u1
    replace r1 : Heap.SameBut to p1 q1 := r1
    have ta2 := keepIt ta1 r1 D.to1.symm D.l1n.2.1
    have tb2 := keepIt (keepIt tb0 s1 D.n12.symm D.l2n.2.2.1) r1 D.to2.symm D.l2n.2.1
    have tc2 := keepIt (keepIt tc0 s1 D.n13.symm D.l3n.2.2.1) r1 D.to3.symm D.l3n.2.1
    refine wpAny_bind (wpAny_bind (wpAny_onRaise ?_))
    show wpAny _ _ (Builtin.SmallTypes.nextOf (.ref i2) >>= _) _ _ ⟨q1, gg, dd, tk, os⟩
    refine wpAny_bind (drawT (s := ⟨q1, gg, dd, tk, os⟩) tb2 D.l2n.2.2.2.1 hy fun p2 tb3 s2 => wpAny_pure ?_)
    replace s2 : Heap.SameBut i2 q1 p2 := s2
    have o2 : IsTupOf3 p2 to x1 a2 a3 := s2.extBut _ _ D.to2 u1
    refine wpAny_bind (wpAny_seqItems (s := ⟨p2, gg, dd, tk, os⟩) o2 rfl ?_)
    refine wpAny_bind (updateSeq_IsTupOf3 (s := ⟨p2, gg, dd, tk, os⟩) o2 fun q2 u2 r2 => wpAny_bind (wpAny_letGo (wpAny_pure ?_)))
    replace u2 : IsTupOf3 q2 to x1 x2 a3 := u2
    replace r2 : Heap.SameBut to p2 q2 := r2
    have ta4 := keepIt (keepIt ta2 s2 D.n12 D.l1n.2.2.2.1) r2 D.to1.symm D.l1n.2.1
    have tb4 := keepIt tb3 r2 D.to2.symm D.l2n.2.1
    have tc4 := keepIt (keepIt tc2 s2 D.n23.symm D.l3n.2.2.2.1) r2 D.to3.symm D.l3n.2.1
    refine wpAny_bind (wpAny_bind (wpAny_onRaise ?_))
    show wpAny _ _ (Builtin.SmallTypes.nextOf (.ref i3) >>= _) _ _ ⟨q2, gg, dd, tk, os⟩
    refine wpAny_bind (drawT (s := ⟨q2, gg, dd, tk, os⟩) tc4 D.l3n.2.2.2.2 hw fun p3 tc5 s3 => wpAny_pure ?_)
    replace s3 : Heap.SameBut i3 q2 p3 := s3
    have o3 : IsTupOf3 p3 to x1 x2 a3 := s3.extBut _ _ D.to3 u2
    refine wpAny_bind (wpAny_seqItems (s := ⟨p3, gg, dd, tk, os⟩) o3 rfl ?_)
    refine wpAny_bind (updateSeq_IsTupOf3 (s := ⟨p3, gg, dd, tk, os⟩) o3 fun q3 u3 r3 => wpAny_bind (wpAny_letGo (wpAny_pure (wpAny_pure ?_))))
    replace u3 : IsTupOf3 q3 to x1 x2 x3 := u3
    replace r3 : Heap.SameBut to p3 q3 := r3
    have ta6 := keepIt (keepIt ta4 s3 D.n13 D.l1n.2.2.2.2) r3 D.to1.symm D.l1n.2.1
    have tb6 := keepIt (keepIt tb4 s3 D.n23 D.l2n.2.2.2.2) r3 D.to2.symm D.l2n.2.1
    have tc6 := keepIt tc5 r3 D.to3.symm D.l3n.2.1
    refine wpAny_bind (wpAny_seqItems (s := ⟨q3, gg, dd, tk, os⟩) u3 rfl (wpAny_bind (wpAny_newTuple ?_)))
    have sz : q3.objs.size = hp.objs.size := by rw [r3.1, s3.1, r2.1, s2.1, r1.1, s1.1, s0.1, hs1.1]
    have hz3 : Zat q3 z ti to .ellipsis (.bool f1) := r3.extBut _ _ D.toz.symm (s3.extBut _ _ D.z3.symm (r2.extBut _ _ D.toz.symm (s2.extBut _ _ D.z2.symm (r1.extBut _ _ D.toz.symm (s1.extBut _ _ D.z1.symm z0)))))
    have kk : ∀ c o, c ≠ z → c ≠ to → c ≠ i1 → c ≠ i2 → c ≠ i3 → hp.get? c = some o → q3.get? c = some o := fun c o c0 ct c1 c2 c3 e =>
      r3.extBut _ _ ct (s3.extBut _ _ c3 (r2.extBut _ _ ct (s2.extBut _ _ c2 (r1.extBut _ _ ct (s1.extBut _ _ c1 (s0.extBut _ _ c0 (hs1.extBut _ _ c0 e)))))))
    have zlt : z < q3.objs.size := Heap.lt_size hz3
    show wpAny _ _ (Builtin.SmallTypes.ownedTupleHandOut (.ref z) (.ref q3.objs.size) >>= _) _ _ ⟨q3.push { cls := .type "tuple", data := .seq #[x1, x2, x3] }, gg, dd, tk, os⟩
    refine wpAny_bind ?_
    unfold Builtin.SmallTypes.ownedTupleHandOut
    have z5 : Zat (q3.push { cls := .type "tuple", data := .seq #[x1, x2, x3] }) z ti to .ellipsis (.bool f1) := Heap.get?_push_of_some _ hz3
    refine wpAny_bind (wpAny_setField_rec z5 (by simp) fun h7 z7 s7 => ?_)
    replace z7 : Zat h7 z ti to (rawInt q3.objs.size) (.bool f1) := z7
    replace s7 : Heap.SameBut z (q3.push { cls := .type "tuple", data := .seq #[x1, x2, x3] }) h7 := s7
    refine wpAny_setField_rec z7 (by simp) fun h8 z8 s8 => ?_
    replace z8 : Zat h8 z ti to (rawInt q3.objs.size) (.bool false) := z8
    replace s8 : Heap.SameBut z h7 h8 := s8
    have up : ∀ c o, c ≠ z → q3.get? c = some o → h8.get? c = some o := fun c o c1 e => s8.extBut _ _ c1 (s7.extBut _ _ c1 (Heap.get?_push_of_some _ e))
    have nw : IsTupOf3 h8 q3.objs.size x1 x2 x3 := s8.extBut _ _ (Nat.ne_of_gt zlt) (s7.extBut _ _ (Nat.ne_of_gt zlt) (Heap.get?_push_size _ rfl))
    have zw : h8.objs.size = q3.objs.size + 1 := by rw [s8.1, s7.1, Heap.size_push]
    have fin : ∀ {it l : Addr} {k : Nat} {vs : Array Value}, (q3.IsTupleIter it l k ∧ q3.IsTuple l vs) → it ≠ z → l ≠ z → h8.IsTupleIter it l k ∧ h8.IsTuple l vs := fun {it l k vs} st n1 n2 =>
      keepIt (keepIt ⟨st.1.at fun o e => Heap.get?_push_of_some _ e, st.2.push _⟩ s7 n1 n2) s8 n1 n2
    refine wpAny_pure ⟨_, rfl, ?_⟩
    show Q (.ref q3.objs.size) _
    rw [sz] at nw zw z8 ⊢
    exact hQ h8 _ false x1 x2 x3 (.inr ⟨_, rfl⟩) z8 (up _ _ D.toz u3) ⟨fin ta6 D.z1 D.l1n.1, fin tb6 D.z2 D.l2n.1, fin tc6 D.z3 D.l3n.1⟩ nw zw
      fun c o c0 ct c1 c2 c3 e => up c o c0 (kk c o c0 ct c1 c2 c3 e)

theorem end3 {Q : Fin → Shared → Prop} (hh : A.handled = none) (D : Far3 z ti to i1 i2 i3 l1 l2 l3) (ho : Out a) (hz : Zat s.heap z ti to a (.bool f))
    (hI : IsTupOf3 s.heap ti (.ref i1) (.ref i2) (.ref i3)) (st : s.heap.IsTupleIter i1 l1 i ∧ s.heap.IsTuple l1 xs) (hx : xs[i]? = none)
    (hE : ∀ h' e, (∀ c o, c ≠ z → c ≠ to → c ≠ i1 → c ≠ i2 → c ≠ i3 → s.heap.get? c = some o → h'.get? c = some o) → (∃ o, h'.get? e = some o ∧ o.cls = .type "StopIteration") → E (.ref e) { s with heap := h' }) :
    wpAny (model prog w) A (Builtin.«zip.__next__» ⟨[.ref z], []⟩) Q E s := by
  obtain ⟨hp, gg, dd, tk, os⟩ := s
  show wpAny _ _ (field (.ref z) 2 >>= _) _ _ _
  refine wpAny_bind (wpAny_field hz rfl (x := .bool false) rfl ?_)
  show wpAny _ _ (field (.ref z) 3 >>= _) _ _ _
  refine wpAny_bind (wpAny_field hz rfl (x := .ref ti) rfl ?_)
  refine wpAny_bind (wpAny_seqItems hI rfl ?_)
  show wpAny _ _ (Builtin.SmallTypes.ownedTupleIsFree (.ref z) >>= _) _ _ _
  refine wpAny_bind (freeOr ho hz fun b h1 f1 hz1 hs1 => ?_)
  replace hs1 : Heap.SameBut z hp h1 := hs1
  have sa1 := keepIt st hs1 D.z1 D.l1n.1
  cases b with
  | false =>
    simp only [Bool.false_eq_true, if_false]
    refine wpAny_bind ?_
    rw [← Array.forIn_toList]
    simp only [List.forIn_cons, List.forIn_nil]
    refine wpAny_bind (wpAny_bind (wpAny_holding ?_))
    show wpAny _ _ (Builtin.SmallTypes.nextOf (.ref i1) >>= _) _ _ ⟨h1, gg, dd, tk, os⟩
    refine wpAny_bind (RZ.nextOf_tuple_end (s := ⟨h1, gg, dd, tk, os⟩) hh sa1.1 sa1.2 hx fun h2 e hs2 he => ?_)
    exact hE h2 e (fun c o c0 _ c1 _ _ q => hs2 _ _ c1 (hs1.extBut _ _ c0 q)) he
  | true =>
    simp only [if_true]
    refine wpAny_bind (wpAny_rule ?_)
    refine wpAny_bind (wpAny_field (s := ⟨h1, gg, dd, tk, os⟩) hz1 rfl (x := .ref to) rfl ?_)
    refine wpAny_bind (wpAny_setField_rec (s := ⟨h1, gg, dd, tk, os⟩) hz1 (by simp) fun g0 z0 s0 => ?_)
    replace z0 : Zat g0 z ti to .ellipsis (.bool f1) := z0
    replace s0 : Heap.SameBut z h1 g0 := s0
    have ta0 := keepIt sa1 s0 D.z1 D.l1n.1
    refine wpAny_bind ?_
    simp only [List.zipIdx_cons, List.zipIdx_nil, List.forIn_cons, List.forIn_nil]
    refine wpAny_bind (wpAny_bind (wpAny_onRaise ?_))
    show wpAny _ _ (Builtin.SmallTypes.nextOf (.ref i1) >>= _) _ _ ⟨g0, gg, dd, tk, os⟩
    refine wpAny_bind (RZ.nextOf_tuple_end (s := ⟨g0, gg, dd, tk, os⟩) hh ta0.1 ta0.2 hx fun h2 e hs2 he => ?_)
    obtain ⟨oe, hoe, hce⟩ := he
    replace hs2 : Heap.ExtBut i1 g0 h2 := hs2
    replace hoe : h2.get? e = some oe := hoe
    have z2 : Zat h2 z ti to .ellipsis (.bool f1) := hs2 _ _ D.z1.symm z0
    have ne : e ≠ z := fun q => by subst q; rw [z2] at hoe; cases hoe; simp at hce
    refine wpAny_setField_rec (s := ⟨h2, gg, dd, tk, os⟩) z2 (by simp) fun h3 _ s3 => ?_
    replace s3 : Heap.SameBut z h2 h3 := s3
    exact hE h3 e (fun c o c0 _ c1 _ _ q => s3.extBut _ _ c0 (hs2 _ _ c1 (s0.extBut _ _ c0 (hs1.extBut _ _ c0 q)))) ⟨oe, s3.extBut _ _ ne hoe, hce⟩
end
end NB

set_option Elab.async false
set_option linter.all false
set_option maxRecDepth 100000
set_option maxHeartbeats 1000000
namespace NB
open PySem PySem.Spec PyProof.Rows L2

section
variable {prog : Program} {w : World} {A : Around} {E : Value → Shared → Prop} {s : Shared} {z ti to i1 i2 i3 l1 l2 l3 : Addr} {a a1 a2 a3 : Value} {f : Bool} {xs ys zs : Array Value} {i : Nat}

theorem pyNext3 {x1 x2 x3 : Value} {Q : Option Value → Shared → Prop} (D : Far3 z ti to i1 i2 i3 l1 l2 l3) (ho : Out a) (hz : Zat s.heap z ti to a (.bool f))
    (hI : IsTupOf3 s.heap ti (.ref i1) (.ref i2) (.ref i3)) (hO : IsTupOf3 s.heap to a1 a2 a3) (st : St3 s.heap i1 i2 i3 l1 l2 l3 xs ys zs i)
    (hx : xs[i]? = some x1) (hy : ys[i]? = some x2) (hw : zs[i]? = some x3)
    (hQ : ∀ (h' : Heap) (a' : Value) (g : Bool) (b1 b2 b3 : Value), Out a' → Zat h' z ti to a' (.bool g) → IsTupOf3 h' to b1 b2 b3 → St3 h' i1 i2 i3 l1 l2 l3 xs ys zs (i + 1) → IsTupOf3 h' s.heap.objs.size x1 x2 x3 → h'.objs.size = s.heap.objs.size + 1 →
      (∀ c o, c ≠ z → c ≠ to → c ≠ i1 → c ≠ i2 → c ≠ i3 → s.heap.get? c = some o → h'.get? c = some o) → Q (some (.ref s.heap.objs.size)) { s with heap := h' }) :
    wpAny (model prog w) A (pyNext (.ref z)) Q E s := by
  have ty : s.TypeIs (.ref z) "zip" := ⟨_, hz, rfl⟩
  unfold pyNext
  refine wpAny_bind (wpAny_attempt (wpAny_callSpecial?_slot (name := Str.ofString "__next__") ty F.slot_zip_next ?_))
  refine wpAny_call_entry F.slot_zip_next ty F.entry_zip_next ?_ (F.args_zip_next_1 _)
  exact next3 D ho hz hI hO st hx hy hw fun h' a' g b1 b2 b3 c1 c2 c3 c4 c5 c6 c7 => wpAny_pure (hQ h' a' g b1 b2 b3 c1 c2 c3 c4 c5 c6 c7)

theorem pyEnd3 {Q : Option Value → Shared → Prop} (hh : A.handled = none) (D : Far3 z ti to i1 i2 i3 l1 l2 l3) (ho : Out a) (hz : Zat s.heap z ti to a (.bool f))
    (hI : IsTupOf3 s.heap ti (.ref i1) (.ref i2) (.ref i3)) (st : s.heap.IsTupleIter i1 l1 i ∧ s.heap.IsTuple l1 xs) (hx : xs[i]? = none)
    (hQ : ∀ h', (∀ c o, c ≠ z → c ≠ to → c ≠ i1 → c ≠ i2 → c ≠ i3 → s.heap.get? c = some o → h'.get? c = some o) → Q none { s with heap := h' }) :
    wpAny (model prog w) A (pyNext (.ref z)) Q E s := by
  have ty : s.TypeIs (.ref z) "zip" := ⟨_, hz, rfl⟩
  unfold pyNext
  refine wpAny_bind (wpAny_attempt (wpAny_callSpecial?_slot (name := Str.ofString "__next__") ty F.slot_zip_next ?_))
  refine wpAny_call_entry F.slot_zip_next ty F.entry_zip_next (end3 hh D ho hz hI st hx fun h' e hk he => ?_) (F.args_zip_next_1 _)
  obtain ⟨o, h1, h2⟩ := he
  exact wpAny_bind (wpAny_isInstance (T := "StopIteration") (b := true) ⟨o, h1, h2⟩ isSubtype_stop (wpAny_pure (hQ _ hk)))

/-- ahead of the target's store: a target of several names lets the tuple go -/
theorem letGo3 {tg : Expr} {T : Addr} {Q : Unit → Shared → Prop} (ho : Out a) (hz : Zat s.heap z ti to a (.bool f))
    (h : ∀ (h' : Heap) (a' : Value), Out a' → Zat h' z ti to a' (.bool f) → Heap.SameBut z s.heap h' → Q () { s with heap := h' }) :
    wpAny (model prog w) A (letOwnedTupleGo tg (.ref z) (.ref T)) Q E s := by
  have same : Q () s := h s.heap a ho hz (Heap.SameBut.refl _ _)
  have main : wpAny (model prog w) A (do
      let o ← load z
      match o.cls, o.data with
      | .type n, .fields vs =>
        if ["enumerate", "zip", "dict_itemiterator", "dict_reverseitemiterator", "odict_iterator", "itertools.zip_longest", "itertools.pairwise"].contains n && vs[0]? == some (rawInt T) then
          rule "for.unpacks-the-owned-tuple"
          updateField z 0 .none
      | _, _ => pure ()) Q E s := by
    refine wpAny_bind (wpAny_load hz ?_)
    dsimp only
    split
    · refine wpAny_bind (wpAny_rule ?_)
      show wpAny _ _ (setField (.ref z) 0 .none) Q E s
      exact wpAny_setField_rec hz (by simp) fun h' z' s' => h h' .none (.inl rfl) z' s'
    · exact wpAny_pure same
  unfold letOwnedTupleGo
  cases tg <;> first
    | exact wpAny_pure same
    | exact main

theorem iter3 {Q : Value → Shared → Prop} (hz : Zat s.heap z ti to a (.bool f)) (h : Q (.ref z) s) : wpAny (model prog w) A (pyIter (.ref z)) Q E s := by
  have ty : s.TypeIs (.ref z) "zip" := ⟨_, hz, rfl⟩
  refine wpAny_pyIter_slot ty F.slot_zip_iter (wpAny_call_entry F.slot_zip_iter ty F.entry_zip_iter ?_ (F.args_zip_iter_1 _))
  show wpAny _ _ (ret (.ref z)) _ _ s
  exact wpAny_pure ⟨_, rfl, "zip", _, ty, F.slot_zip_next.lookup, h⟩
end

/-- three tuples of one length, turn by turn: a new tuple of the three items -/
def It3 (K : PySem.W.Frag) (a b c : Addr) : It :=
  ⟨fun i H => ∃ (xs ys zs : List V) (x y z : V), SqT K H a xs ∧ SqT K H b ys ∧ SqT K H c zs ∧ xs[i]? = some x ∧ ys[i]? = some y ∧ zs[i]? = some z,
    fun i H v H' => ∃ T x y z, v = .ref T ∧ H T = none ∧ H' = upd H T (.tup [x, y, z]) ∧ (∀ xs, SqT K H a xs → xs[i]? = some x) ∧ (∀ ys, SqT K H b ys → ys[i]? = some y) ∧ ∀ zs, SqT K H c zs → zs[i]? = some z,
    fun i H => ∃ xs : List V, SqT K H a xs ∧ xs.length ≤ i⟩

theorem turn3 {P : Program} {w : World} {K : PySem.W.Frag} {tg : Expr} {a b c z ti to i1 i2 i3 : Addr} (D : Far3 z ti to i1 i2 i3 a b c) :
    Turn P w K tg (It3 K a b c) [z, ti, to, i1, i2, i3] z (fun i h => (∃ v f, Out v ∧ Zat h z ti to v (.bool f)) ∧ IsTupOf3 h ti (.ref i1) (.ref i2) (.ref i3) ∧ (∃ b1 b2 b3, IsTupOf3 h to b1 b2 b3) ∧
      h.IsTupleIter i1 a i ∧ h.IsTupleIter i2 b i ∧ h.IsTupleIter i3 c i) where
  mem := by simp
  obj := fun i h st q hq => by
    obtain ⟨⟨v, f, _, hz⟩, hI, ⟨b1, b2, b3, hO⟩, ⟨o1, e1, _, d1⟩, ⟨o2, e2, _, d2⟩, ⟨o3, e3, _, d3⟩⟩ := st
    have e' : q = z ∨ q = ti ∨ q = to ∨ q = i1 ∨ q = i2 ∨ q = i3 := by simpa using hq
    rcases e' with r | r | r | r | r | r
    · rw [r]; exact ⟨_, hz, fun v q => nomatch q⟩
    · rw [r]; exact ⟨_, hI, fun v q => nomatch q⟩
    · rw [r]; exact ⟨_, hO, fun v q => nomatch q⟩
    · rw [r]; exact ⟨o1, e1, fun v q => by rw [d1] at q; cases q⟩
    · rw [r]; exact ⟨o2, e2, fun v q => by rw [d2] at q; cases q⟩
    · rw [r]; exact ⟨o3, e3, fun v q => by rw [d3] at q; cases q⟩
  keep := fun i h h' st k => by
    obtain ⟨⟨v, f, ho, hz⟩, hI, ⟨b1, b2, b3, hO⟩, h1, h2, h3⟩ := st
    exact ⟨⟨v, f, ho, k z (by simp) _ hz⟩, k ti (by simp) _ hI, ⟨b1, b2, b3, k to (by simp) _ hO⟩, h1.at fun o q => k i1 (by simp) o q, h2.at fun o q => k i2 (by simp) o q, h3.at fun o q => k i3 (by simp) o q⟩
  item := by
    intro X hP hw hK hc i pins s σ H E I hf st hg
    subst hP hw hK
    obtain ⟨⟨v, f, ho, hz⟩, hI, ⟨b1, b2, b3, hO⟩, h1, h2, h3⟩ := st
    obtain ⟨xs, ys, zs, x, y, u, qx, qy, qu, hx, hy, hu⟩ := hg
    obtain ⟨t1, r1, p1, _⟩ := I.tuple qx
    obtain ⟨t2, r2, p2, _⟩ := I.tuple qy
    obtain ⟨t3, r3, p3, _⟩ := I.tuple qu
    obtain ⟨v1, g1, rv1⟩ := r1.get hx
    obtain ⟨v2, g2, rv2⟩ := r2.get hy
    obtain ⟨v3, g3, rv3⟩ := r3.get hu
    have zl : z < s.heap.objs.size := Heap.lt_size hz
    refine pyNext3 D ho hz hI hO ⟨⟨h1, p1⟩, ⟨h2, p2⟩, ⟨h3, p3⟩⟩ (x1 := v1) (x2 := v2) (x3 := v3) (by simpa using g1) (by simpa using g2) (by simpa using g3) fun h' v' f' c1 c2 c3 ho' hz' hO' st' hT hsz hk => ?_
    refine ⟨_, rfl, letGo3 (s := { s with heap := h' }) ho' hz' fun h'' v'' ho'' hz'' sb => ?_⟩
    have hT2 : h''.get? s.heap.objs.size = some { cls := .type "tuple", data := .seq #[v1, v2, v3] } := (sb.2 _ (Nat.ne_of_gt zl)).trans hT
    have new : ObjOk X.prog X.w (upd H s.heap.objs.size (.tup [x, y, u])) h'' s.heap.objs.size (.tup [x, y, u]) :=
      ⟨by show 3 ≤ sizeLine; decide, [v1, v2, v3], .cons rv1 (.cons rv2 (.cons rv3 .nil)), ⟨_, hT2, rfl, _, rfl⟩⟩
    have I1 : Inv X pins σ (upd H s.heap.objs.size (.tup [x, y, u])) { s with heap := h'' } :=
      I.turnedNew (t' := s.toks) (ch := [z, ti, to, i1, i2, i3]) (fun q o hb e => (sb.2 q (fun q' => hb (by simp [q']))).trans
        (hk q o (fun q' => hb (by simp [q'])) (fun q' => hb (by simp [q'])) (fun q' => hb (by simp [q'])) (fun q' => hb (by simp [q'])) (fun q' => hb (by simp [q'])) e)) hf (Nat.le_refl _) new
    refine ⟨.ref s.heap.objs.size, _, I1, rfl, ⟨_, x, y, u, rfl, I.hok.fresh (Nat.le_refl _), rfl, fun l hl => by rw [I.tuple_inj hl qx]; exact hx, fun l hl => by rw [I.tuple_inj hl qy]; exact hy, fun l hl => by rw [I.tuple_inj hl qu]; exact hu⟩,
      ⟨⟨v'', f', ho'', hz''⟩, ?_, ⟨c1, c2, c3, (sb.2 _ D.toz).trans hO'⟩, st'.1.1.at fun o q => (sb.2 _ D.z1).trans q, st'.2.1.1.at fun o q => (sb.2 _ D.z2).trans q, st'.2.2.1.at fun o q => (sb.2 _ D.z3).trans q⟩, fun q hq => ?_⟩
    · exact (sb.2 _ D.tiz).trans (hk _ _ D.tiz D.tito D.ti1 D.ti2 D.ti3 hI)
    · have lt : q < s.heap.objs.size := by
        have e' : q = z ∨ q = ti ∨ q = to ∨ q = i1 ∨ q = i2 ∨ q = i3 := by simpa using hq
        rcases e' with r | r | r | r | r | r
        · rw [r]; exact zl
        · rw [r]; exact Heap.lt_size hI
        · rw [r]; exact Heap.lt_size hO
        · rw [r]; obtain ⟨_, e1, _⟩ := h1; exact Heap.lt_size e1
        · rw [r]; obtain ⟨_, e1, _⟩ := h2; exact Heap.lt_size e1
        · rw [r]; obtain ⟨_, e1, _⟩ := h3; exact Heap.lt_size e1
      rw [upd_ne (Nat.ne_of_lt lt)]
      exact (hf q hq).1
  done := by
    intro X hP hw hK hc i pins s σ H E I hf st hg
    subst hP hw hK
    obtain ⟨⟨v, f, ho, hz⟩, hI, ⟨b1, b2, b3, hO⟩, h1, h2, h3⟩ := st
    obtain ⟨xs, qx, hlen⟩ := hg
    obtain ⟨t1, r1, p1, _⟩ := I.tuple qx
    have le := r1.length
    refine pyEnd3 (I.ok.hd hc) D ho hz hI ⟨h1, p1⟩ (by simp; omega) fun h' hk => ⟨rfl, I.turnedL (t' := s.toks) (ch := [z, ti, to, i1, i2, i3]) (fun q o hb e => ?_) hf⟩
    exact hk q o (fun q' => hb (by simp [q'])) (fun q' => hb (by simp [q'])) (fun q' => hb (by simp [q'])) (fun q' => hb (by simp [q'])) (fun q' => hb (by simp [q'])) e
  self := fun A i s Q E st h => by
    obtain ⟨⟨v, f, _, hz⟩, _⟩ := st
    exact iter3 hz h

theorem far_at (n a b c : Nat) (ha : a < n) (hb : b < n) (hc : c < n) : Far3 (n + 5) (n + 3) (n + 4) n (n + 1) (n + 2) a b c := by
  constructor <;> first | (show (_ : Nat) ≠ _; omega) | (refine ⟨?_, ?_, ?_, ?_, ?_⟩ <;> (show (_ : Nat) ≠ _; omega))

def iZip3 (K : PySem.W.Frag) (ta : TA) : TI := fun σ H R => ta σ H fun vs H1 => ∃ a b c xs ys zs, vs = [.ref a, .ref b, .ref c] ∧ SqT K H1 a xs ∧ SqT K H1 b ys ∧ SqT K H1 c zs ∧ R (It3 K a b c) H1
/-- zip(e, e2, e3), tuples of one length; any target -/
theorem pi_zip3 {X : Cx} {tg e e2 e3 : Expr} {ta : TA} {p pos : Pos} (hg : Gl X "zip") (hm : X.mg "zip" = none) (ha : PA X [e, e2, e3] ta)
    (hs : starEach [e, e2, e3] X.env = (false, eval e X.env) :: starEach [e2, e3] X.env := by rfl) (hpl : (backTo pos (starEach [e2, e3] X.env)).any (·.1) = false := by rfl) :
    PI X tg (.Call (.Name "zip" p) [e, e2, e3] [] pos) (iZip3 X.K ta) := by
  refine ⟨fun pins s σ H R I h => ?_⟩
  refine Call_ (ld_blt I hg hm PyProof.Rows.boot_zip (PyProof.Rows.callWith_type1 (thn (ha.run pos pins s σ H _ I h) fun us s1 q => ?_) hs hpl))
  obtain ⟨vs, H1, I1, r1, a, b, c, xs, ys, zs, ex, q1, q2, q3, q⟩ := q
  subst ex
  cases r1 with
  | cons ra rr =>
    cases rr with
    | cons rb rr =>
      cases rr with
      | cons rc rr =>
        cases rr
        cases ra
        cases rb
        cases rc
        obtain ⟨t1, r1, p1, _⟩ := I1.tuple q1
        obtain ⟨t2, r2, p2, _⟩ := I1.tuple q2
        obtain ⟨t3, r3, p3, _⟩ := I1.tuple q3
        obtain ⟨o1, g1, _⟩ := id p1
        obtain ⟨o2, g2, _⟩ := id p2
        obtain ⟨o3, g3, _⟩ := id p3
        refine zip_begins3 (begins_tuple a t1.toArray) (begins_tuple b t2.toArray) (begins_tuple c t3.toArray) p1 p2 p3 fun h' hz hI hO e1 e2 e3 hsz hk => iter3 hz ?_
        have I2 : Inv X pins σ H1 { s1 with heap := h' } := I1.kept (t' := s1.toks) hk
        refine ⟨s1.heap.objs.size + 5, [s1.heap.objs.size + 5, s1.heap.objs.size + 3, s1.heap.objs.size + 4, s1.heap.objs.size, s1.heap.objs.size + 1, s1.heap.objs.size + 2], _, _, H1, rfl, I2, turn3 (far_at s1.heap.objs.size a b c (Heap.lt_size g1) (Heap.lt_size g2) (Heap.lt_size g3)),
          ⟨⟨.none, false, .inl rfl, hz⟩, hI, ⟨_, _, _, hO⟩, ⟨_, e1, rfl, rfl⟩, ⟨_, e2, rfl, rfl⟩, ⟨_, e3, rfl, rfl⟩⟩, fun q hq => ?_, q⟩
        have le : s1.heap.objs.size ≤ q := by
          have e' : q = s1.heap.objs.size + 5 ∨ q = s1.heap.objs.size + 3 ∨ q = s1.heap.objs.size + 4 ∨ q = s1.heap.objs.size ∨ q = s1.heap.objs.size + 1 ∨ q = s1.heap.objs.size + 2 := by simpa using hq
          rcases e' with r | r | r | r | r | r <;> rw [r] <;> first | exact Nat.le_add_right _ _ | exact Nat.le_refl _
        exact I1.fpOk le (I1.hok.fresh le)

/-- a new triple of the i-th ones -/
def Y3 (xs ys zs : List V) : Nat → Hp → V → Hp → Prop := fun i H v H' => ∃ T x y z, v = .ref T ∧ H T = none ∧ H' = upd H T (.tup [x, y, z]) ∧ xs[i]? = some x ∧ ys[i]? = some y ∧ zs[i]? = some z
theorem walk_zip3 {K : PySem.W.Frag} {a b c : Addr} {xs ys zs : List V} (h2 : ys.length = xs.length) (h3 : zs.length = xs.length) :
    Walk (It3 K a b c) xs.length (fun H => SqT K H a xs ∧ SqT K H b ys ∧ SqT K H c zs) (Y3 xs ys zs) := by
  refine ⟨fun i _ hi q => ?_, fun _ q => ⟨xs, q.1, Nat.le_refl _⟩, fun i H v H' _ q y => ?_⟩
  · exact ⟨xs, ys, zs, xs[i], ys[i]'(by omega), zs[i]'(by omega), q.1, q.2.1, q.2.2, by simp [hi], by simp [show i < ys.length by omega], by simp [show i < zs.length by omega]⟩
  · obtain ⟨T, x, y, z, e1, e2, e3, f1, f2, f3⟩ := y
    exact ⟨T, x, y, z, e1, e2, e3, f1 xs q.1, f2 ys q.2.1, f3 zs q.2.2⟩
theorem walk_zipT {K : PySem.W.Frag} {a b : Addr} {xs ys : List V} (h2 : ys.length = xs.length) :
    Walk (RZ.ItzT K a b) xs.length (fun H => SqT K H a xs ∧ SqT K H b ys) (YPair (fun i => xs[i]?) (fun i => ys[i]?)) := by
  refine ⟨fun i _ hi q => ?_, fun _ q => ⟨xs, ys, q.1, q.2, by omega⟩, fun i H v H' _ q y => ?_⟩
  · exact ⟨xs, ys, xs[i], ys[i]'(by omega), q.1, q.2, by simp [hi], by simp [show i < ys.length by omega]⟩
  · obtain ⟨T, x, u, e1, e2, e3, f1, f2⟩ := y
    exact ⟨T, x, u, e1, e2, e3, f1 xs q.1, f2 ys q.2⟩
end NB

set_option Elab.async false
set_option linter.all false
set_option maxRecDepth 100000
set_option maxHeartbeats 1000000
namespace NB
open PySem PySem.Spec PyProof.Rows L2

/-- the law's own call, its def kept to its promise where nothing is being shown -/
theorem law_end {P : Program} {w : World} {K : PySem.W.Frag} {mg mb : Str → Option Value} {k : Nat} {fa a : Addr} {fd : FuncData} {x : Str} {sp : Sp} {s : Shared} {vs : List Value} {ns : List Int}
    (hK : K.In s.heap) (hN : s.heap.Ns mainGlobals mg) (hB : s.heap.Ns builtinsNs mb) (hbb : ∀ x : Str, x ≠ "__name__" → mb x = bootBuiltins x) (lim : s.heap.NoLimit) (hg : s.gens = #[])
    (ha : s.heap.get? a = some { cls := .type "list", data := .seq vs.toArray }) (hi : IntsAre vs ns) (hl : ns.length ≤ sizeLine) (hr : Room k callerA)
    (F : ∀ base : Heap, K.In base → base.Ns mainGlobals mg → FnG P w K mg base k fa fd [x] sp) (hb : ∀ (s : Shared) (u : Value), BindsTo s fd ⟨[u], []⟩ [(x, u)])
    (hsp : ∀ H : Hp, SqL K H a (ns.map V.int) → sp [.ref a] H (fun v _ => v = .bl true) E0) :
    codeAny (model P w) callerA (.call (.ref fa) ⟨[.ref a], []⟩) (fun r s' => r = .ok (.ret (.bool true)) ∧ OldK s.heap s'.heap ∧ s'.os = s.os ∧ AllBare s'.gens) s := by
  have rv := vals_ints hi
  have lv := hi.length
  -- H: the script alone is tracked, or nothing
  suffices go : ∀ H : Hp, (∀ b, H b ≠ none → b = a ∧ K.lookup a = none ∧ ∃ o xs, H b = some (.frz o (.lst xs))) → SqL K H a (ns.map V.int) → HOk P w H s.heap →
      codeAny (model P w) callerA (.call (.ref fa) ⟨[.ref a], []⟩) (fun r s' => r = .ok (.ret (.bool true)) ∧ OldK s.heap s'.heap ∧ s'.os = s.os ∧ AllBare s'.gens) s by
    cases hk : K.lookup a with
    | some o =>
      have e := hK a o hk
      rw [ha] at e
      cases e
      refine go (fun _ => none) (fun b q => absurd rfl q) (.inr ⟨_, vs.toArray, _, hk, rfl, rfl, rfl, ?_, by simpa using rv⟩) (fun b u q => by cases (show (none : Option HO) = some u from q))
      rw [List.size_toArray, lv]
      exact hl
    | none =>
      refine go (fun b => if b = a then some (.frz { cls := .type "list", data := .seq vs.toArray } (.lst (ns.map V.int))) else none) (fun b q => ?_) (.inl (.inr ⟨_, if_pos rfl⟩)) (fun b u q => ?_)
      · by_cases h : b = a
        · exact ⟨h, hk, _, _, if_pos h⟩
        · exact absurd (if_neg h) q
      · by_cases h : b = a
        · have q' := (if_pos h).symm.trans q
          cases q'
          subst h
          exact ⟨ha, by rw [List.length_map]; exact hl, vs, _, rv, ha⟩
        · have q' := (if_neg h).symm.trans q
          cases q'
  intro H hO hS ok
  have dictFree : ∀ {b : Addr} {o : Obj} {es : Array DictEntry} {ep : Nat}, s.heap.get? b = some o → o.data = .dict es ep → H b = none := by
    intro b o es ep e d
    cases q : H b with
    | none => rfl
    | some u =>
      obtain ⟨e', _⟩ := hO b (by rw [q]; simp)
      subst e'
      rw [ha] at e
      cases e
      cases (show Data.seq vs.toArray _ = Data.dict es ep from d)
  have ns' : ∀ {b : Addr} {m : Str → Option Value}, s.heap.Ns b m → (hidT s.heap H).Ns b m := by
    rintro b m ⟨o, es, ep, e, d, r⟩
    exact ⟨o, es, ep, hidT_get e (dictFree e d), d, r⟩
  have kB : K.In (hidT s.heap H) := by
    intro b o e
    refine hidT_get (hK b o e) ?_
    cases q : H b with
    | none => rfl
    | some u =>
      obtain ⟨e', n, _⟩ := hO b (by rw [q]; simp)
      subst e'
      rw [n] at e
      cases e
  have md : Mod K mg (hidT s.heap H) := by
    obtain ⟨mc, h1, h2⟩ := lim
    exact ⟨kB, ns' hN, ⟨mb, ns' hB, hbb⟩, ⟨mc, ns' h1, h2⟩⟩
  have e0 : Env0 P w K mg (hidT s.heap H) callerA [] s H :=
    ⟨rfl, md, fun b o e => of_hidT e, Nat.le_of_eq (hidT_size _ _), trivial, fun b q => absurd (show b ∈ ([] : List Addr) from q) (by simp), ok, .of_eq hg⟩
  refine codeAny_mono ((F _ kB (ns' hN)).go callerA [] s H ⟨[.ref a], []⟩ [.ref a] [.ref a] _ _ rfl hr e0 (hb s (.ref a)) (.cons rfl .nil) (hsp H hS)) ?_
  intro r s' q
  cases r with
  | error e => exact False.elim q
  | ok fl =>
    cases fl with
    | next => exact False.elim q
    | brk => exact False.elim q
    | cont => exact False.elim q
    | ret u =>
      obtain ⟨v, H', os, bare, un, ok', r', q'⟩ := q
      have q2 : v = .bl true := q'
      subst q2
      obtain rfl : u = Value.bool true := r'
      refine ⟨rfl, OldK.of_keep fun b o e => ?_, os, bare⟩
      cases q : H b with
      | none => exact un.keep b o e q (fun z => absurd (show b ∈ ([] : List Addr) from z) (by simp)) (by simp)
      | some u =>
        obtain ⟨_, _, ob, xs, z⟩ := hO b (by rw [q]; simp)
        obtain ⟨e1, _⟩ := ok b _ z
        obtain ⟨e2, _⟩ := ok' b _ (un.frzs b ob _ z)
        rw [e] at e1
        cases e1
        exact e2

/-- what k_head leaves, from the promise of the law's def -/
theorem walkG {l : PySem.W.OpenLaw} {n k : Nat} {q : Program} {loose : List Str} {XP : (Str → Option Value) → Heap → Prop} {YP : World → Heap → Prop} {d : DefRec} {K : Params → PySem.W.Frag} {sp : World → Sp} {x : Str}
    (hn : l.most = some n) (hn2 : n ≤ sizeLine) (hdf : d.params.defaults = []) (hr : Room k callerA) (hY : ∀ (w : World) (h : Heap), YP w h → (K w.params).In h)
    (F : ∀ (w : World) (mg : Str → Option Value) (fa : Addr) (h : Heap), (K w.params).In h → h.Ns mainGlobals mg → mg d.name = some (.ref fa) →
      ∃ fd : FuncData, (∀ (s : Shared) (u : Value), BindsTo s fd ⟨[u], []⟩ [(x, u)]) ∧
        ∀ base : Heap, (K w.params).In base → base.Ns mainGlobals mg → FnG l.prog w (K w.params) mg base k fa fd [x] (sp w))
    (hsp : ∀ (w : World) (H : Hp) (a : Addr) (ns : List Int), ns.length ≤ n → SqL (K w.params) H a (ns.map V.int) → sp w [.ref a] H (fun v _ => v = .bl true) E0) :
    PySem.W.WalkO q loose XP YP l.row.toRowW d [] (fun f vs => PySem.call f vs) := by
  refine Att.attach_call hn hdf ?_
  intro w s₀ s₁ mg mb fa o pm cd doc a vs ns G Y ho hd hcd hmg hobj hints hlen hg
  have kX := hY w _ Y
  obtain ⟨fd, hb, hF⟩ := F w mg fa _ kX G.T.g hmg
  exact law_end kX G.T.g G.T.b G.T.builtins G.T.nolimit hg hobj hints (Nat.le_trans hlen hn2) hr hF hb fun H hS => hsp w H a ns hlen hS
end NB

set_option Elab.async false
set_option linter.all false
set_option maxRecDepth 100000
set_option maxHeartbeats 1000000
namespace NB
open PySem PySem.Spec PyProof.Rows L2
section
variable {prog : Program} {w : World} {A : Around} {E : Value → Shared → Prop} {s : Shared}
theorem sortedTuple {t : Addr} {vs : List Value} {ns : List Int} {Q : Value → Shared → Prop} (hl : s.heap.IsTuple t vs.toArray) (hI : IntsAre vs ns) (h64 : vs.length < 64)
    (h : ∀ (h1 h' : Heap) (p : Addr) (out : Array Value) (ep : Nat) (ns' : List Int), IntsAre out.toList ns' → ns'.Perm ns → ns'.Pairwise (· ≤ ·) → (∀ b o, s.heap.get? b = some o → h1.get? b = some o) → (∀ b o, h1.get? b = some o → h'.get? b = some o) → h1.objs.size ≤ p →
      h'.get? p = some (seqObj "list" out ep) → Q (.ref p) { s with heap := h' }) :
    wpAny (model prog w) A (call (.builtin "sorted") [.ref t]) Q E s := by
  obtain ⟨o, ho, hc, n, hd⟩ := hl
  refine Calls.call_function_entry kind_sorted plain_sorted entry_sorted (args_sorted1 _) ?_
  unfold Builtin.«sorted»
  refine wpAny_bind (m := checkCount "sorted" 1 1 _) (wpAny_pure ?_)
  refine wpAny_bind (wpAny_collect_seq t (.inr rfl) ho hc hd (fun h1 hk => ?_) (by rw [List.size_toArray, sizeLine_eq]; omega))
  refine wpAny_bind (wpAny_newList ?_)
  have e0 : (vs.toArray.toList) = vs := rfl
  have hoL : (h1.push (seqObj "list" vs.toArray 0)).get? h1.objs.size = some (seqObj "list" vs.toArray 0) := Heap.get?_push_size _ rfl
  show wpAny _ _ _ _ _ { s with heap := h1.push (seqObj "list" vs.toArray 0) }
  refine wpAny_bind (wpAny_holding (wpAny_call_entry slot_list_sort ⟨_, hoL, rfl⟩ entry_list_sort (list_sort_tree hoL hI h64 fun out ns' q1 q2 q3 => ⟨_, rfl, ?_⟩) (args_list_sort _)))
  refine wpAny_pure ⟨_, rfl, ?_⟩
  obtain ⟨ep, hat⟩ := sortedHeap_at (vs := vs) (out := out) hoL
  refine h h1 _ h1.objs.size out ep ns' q1 q2 q3 hk (fun b o q => ?_) (Nat.le_refl _) hat
  have lt := Heap.lt_size q
  rw [sortedHeap_old (Nat.ne_of_lt lt) (by rw [size_push']; exact Nat.lt_succ_of_lt lt)]
  exact Heap.get?_push_of_some _ q
end
section
variable {X : Cx}
/-- sorted(t), t a tuple of few ints -/
def rSortT (K : PySem.W.Frag) : List V → Hp → VK → Prop := fun vs H Q => ∃ (a : Addr) (ns : List Int), vs = [V.ref a] ∧ SqT K H a (ns.map V.int) ∧ ns.length < 64 ∧
  ∀ (ns' : List Int) (p : Addr), ns'.Perm ns → ns'.Pairwise (· ≤ ·) → H p = none → Q (.ref p) (upd H p (.lst (ns'.map V.int)))
theorem cr_sortT : CallR X (.builtin "sorted") (rSortT X.K) := by
  intro pins s σ H vs us Q I r h
  obtain ⟨a, ns, rfl, hs, h64, q⟩ := h
  obtain ⟨its, rv, hl, _⟩ := I.tuple hs
  rw [Vals.ref1 r]
  have hi := rv.ints
  refine sortedTuple hl hi (by rw [hi.length]; exact h64) fun h1 h' p out ep ns' q1 q2 q3 k1 k2 hp hat => ?_
  have I1 : Inv X pins σ H { s with heap := h1 } := I.kept (t' := s.toks) k1
  have hlen : (ns'.map V.int).length ≤ sizeLine := by rw [List.length_map, q2.length_eq]; exact small64 h64
  exact ⟨.ref p, upd H p (.lst (ns'.map V.int)), I1.laid (t' := s.toks) k2 hp ⟨hlen, out.toList, ep, vals_of_ints q1, hat⟩, rfl, q ns' p q2 q3 (I1.hok.fresh hp)⟩

theorem perm_sum {l l' : List Int} (h : l.Perm l') : l.sum = l'.sum := by
  induction h with
  | nil => rfl
  | cons x _ ih => simp only [List.sum_cons, ih]
  | swap x y l => simp only [List.sum_cons]; omega
  | trans _ _ i1 i2 => exact i1.trans i2
/-- the middle one of three -/
def mid3 (a b c : Int) : Int := if a ≤ b then (if b ≤ c then b else if a ≤ c then c else a) else (if a ≤ c then a else if b ≤ c then c else b)
theorem mid_of_sorted {a b c x y z : Int} (p : [x, y, z].Perm [a, b, c]) (s : [x, y, z].Pairwise (· ≤ ·)) : y = mid3 a b c := by
  have h1 : x ≤ y ∧ y ≤ z := by
    rw [List.pairwise_cons, List.pairwise_cons] at s
    exact ⟨s.1 y (by simp), s.2.1 z (by simp)⟩
  have ha : a ∈ [x, y, z] := p.symm.subset (by simp)
  have hb : b ∈ [x, y, z] := p.symm.subset (by simp)
  have hc : c ∈ [x, y, z] := p.symm.subset (by simp)
  have hs : x + y + z = a + b + c := by
    have e := perm_sum p
    simp only [List.sum_cons, List.sum_nil] at e
    omega
  simp only [List.mem_cons, List.not_mem_nil, or_false] at ha hb hc
  unfold mid3
  rcases ha with e | e | e <;> rcases hb with f | f | f <;> rcases hc with g | g | g <;> split <;> split <;> (try split) <;> omega
theorem max3 (hc : X.calm = true) : CallR X (.builtin "max") (fun xs H Q => ∃ i j k : Int, xs = [.int i, .int j, .int k] ∧ Q (.int (max (max i j) k)) H) := by
  intro pins s σ H xs us Q I r h
  obtain ⟨i, j, k, rfl, q⟩ := h
  refine call_max3Nu hc pins s σ H _ us Q I r ⟨_, _, _, _, rfl, ?_, q⟩
  have two : ∀ a b : Int, nuMax2 (.int a) (.int b) = some (.int (max a b)) := fun a b => by
    show some (if decide (a < b) = true then V.int b else V.int a) = _
    by_cases h : a < b
    · rw [if_pos (decide_eq_true h), Int.max_eq_right (Int.le_of_lt h)]
    · rw [if_neg (by simpa using h), Int.max_eq_left (by omega)]
  show (nuMax2 (.int i) (.int j)).bind (fun m => nuMax2 m (.int k)) = _
  rw [two]
  exact two _ _
theorem min3 (hc : X.calm = true) : CallR X (.builtin "min") (fun xs H Q => ∃ i j k : Int, xs = [.int i, .int j, .int k] ∧ Q (.int (min (min i j) k)) H) := by
  intro pins s σ H xs us Q I r h
  obtain ⟨i, j, k, rfl, q⟩ := h
  refine call_min3Nu hc pins s σ H _ us Q I r ⟨_, _, _, _, rfl, ?_, q⟩
  have two : ∀ a b : Int, nuMin2 (.int a) (.int b) = some (.int (min a b)) := fun a b => by
    show some (if decide (b < a) = true then V.int b else V.int a) = _
    by_cases h : b < a
    · rw [if_pos (decide_eq_true h), Int.min_eq_right (Int.le_of_lt h)]
    · rw [if_neg (by simpa using h), Int.min_eq_left (by omega)]
  show (nuMin2 (.int i) (.int j)).bind (fun m => nuMin2 m (.int k)) = _
  rw [two]
  exact two _ _
/-- a ** b: the result within 2 ^ 27 bits -/
def CPowW (i j : Int) : Prop := 0 ≤ j ∧ (Builtin.Int.intBits i : Int) * j ≤ 2 ^ 27
theorem op_powW : OpR X (binaryOp .Pow) (rI CPowW fun i j => .int (i ^ j.toNat)) := opI fun _ _ _ _ _ _ _ hc q => pow_int hc.1 hc.2 q
end
end NB

set_option Elab.async false
set_option linter.all false
set_option maxRecDepth 100000
set_option maxHeartbeats 1000000
/-! enumerate of a tuple -/
namespace NB
open PySem PySem.Spec PyProof.Rows L2

theorem enumNewT (l : Addr) (items : Array Value) : Meets (Builtin.«enumerate.__new__» ⟨[.type "enumerate", .ref l], []⟩) (fun _ R s => s.heap.IsTuple l items ∧
      R (.ok (.ret (.ref (s.heap.push { cls := .type "tuple_iterator", data := .fields #[.ref l, .int 0 0] }).objs.size)))
        { s with heap := (s.heap.push { cls := .type "tuple_iterator", data := .fields #[.ref l, .int 0 0] }).push { cls := .type "enumerate", data := .fields #[.none, .bool false, .ref s.heap.objs.size, rawInt 0, .none, .none] } }) :=
  .of_wp fun prog w A R s h => by
    obtain ⟨hp, g, d, tk, os⟩ := s
    obtain ⟨hl, h⟩ := h
    have hsub := sub_enumerate
    have hL : Heap.IsTuple (Shared.heap ⟨hp, g, d, tk, os⟩) l items := hl
    wp_walk
    refine wpAny_stack_any fun st => wpAny_pure ?_
    split
    · rename_i c _ _ _ _ _
      cases (c == Value.type "enumerate")
      · wp_walk using wpAny_pyIter_tuple hL
        exact ⟨_, rfl, h⟩
      · wp_walk using wpAny_pyIter_tuple hL
        exact ⟨_, rfl, h⟩
    · wp_walk using wpAny_pyIter_tuple hL
      exact ⟨_, rfl, h⟩
section
variable {prog : Program} {w : World} {A : Around} {E : Value → Shared → Prop} {s : Shared}
theorem enumT {l : Addr} {items : Array Value} {Q : Value → Shared → Prop} (hL : s.heap.IsTuple l items)
    (h : ∀ h', IsEnum h' (s.heap.objs.size + 1) s.heap.objs.size 0 .none → h'.IsTupleIter s.heap.objs.size l 0 → (∀ b o, s.heap.get? b = some o → h'.get? b = some o) → Q (.ref (s.heap.objs.size + 1)) { s with heap := h' }) :
    wpAny (model prog w) A (call (.type "enumerate") [.ref l]) Q E s := by
  refine callType_new F.called_enumerate (by decide) (F.typeCall_enumerate_1 _) (F.newCall_enumerate_1 _) (fun obj => F.args_object_init_2 obj _) F.entry_enumerate_new (enumNewT l items) ⟨hL, ?_⟩
  have z : (s.heap.push { cls := .type "tuple_iterator", data := .fields #[.ref l, .int 0 0] }).objs.size = s.heap.objs.size + 1 := Heap.size_push ..
  have he := Heap.get?_push_size (s.heap.push { cls := .type "tuple_iterator", data := .fields #[.ref l, .int 0 0] }) (o := { cls := .type "enumerate", data := .fields #[.none, .bool false, .ref s.heap.objs.size, rawInt 0, .none, .none] }) rfl
  show _ ∧ _
  rw [z] at he ⊢
  exact ⟨⟨_, he, rfl⟩, h _ he ⟨_, Heap.get?_push_of_some _ (Heap.get?_push_size _ rfl), rfl, rfl⟩ fun b o x => Heap.get?_push_of_some _ (Heap.get?_push_of_some _ x)⟩
end
/-- a tuple's items with their numbers, in new pairs -/
def ItE (K : PySem.W.Frag) (a : Addr) : It :=
  ⟨fun i H => ∃ (xs : List V) (x : V), SqT K H a xs ∧ xs[i]? = some x,
    fun i H v H' => ∃ T x, v = .ref T ∧ H T = none ∧ H' = upd H T (.tup [.int (i : Nat), x]) ∧ ∀ xs, SqT K H a xs → xs[i]? = some x,
    fun i H => ∃ xs : List V, SqT K H a xs ∧ xs.length = i⟩
theorem turnE {P : Program} {w : World} {K : PySem.W.Frag} {elts : List Expr} {kk : Nat} {tpos : Pos} (a e it : Addr) (n1 : e ≠ it) (n2 : a ≠ it) (n3 : e ≠ a) :
    Turn P w K (.Tuple elts kk tpos) (ItE K a) [e, it] e (fun i h => (∃ old, IsEnum h e it ((i : Nat) : Int) old) ∧ h.IsTupleIter it a i) where
  mem := by simp
  obj := fun i h st b hb => by
    obtain ⟨⟨old, he⟩, ⟨o, ho, hc, hd⟩⟩ := st
    have e' : b = e ∨ b = it := by simpa using hb
    rcases e' with z | z
    · rw [z]; exact ⟨_, he, fun v q => nomatch q⟩
    · rw [z]; exact ⟨o, ho, fun v q => by rw [hd] at q; cases q⟩
  keep := fun i h h' st k => by
    obtain ⟨⟨old, he⟩, hi⟩ := st
    exact ⟨⟨old, k e (by simp) _ he⟩, hi.at fun o q => k it (by simp) o q⟩
  item := by
    intro X hP hw hK hc i pins s σ H E I hf st hg
    subst hP hw hK
    obtain ⟨⟨old, he⟩, hit⟩ := st
    obtain ⟨xs, x, hq, hx⟩ := hg
    obtain ⟨its, rv, p, hz⟩ := I.tuple hq
    obtain ⟨u, hu, ru⟩ := rv.get hx
    have hel : e < s.heap.objs.size := Heap.lt_size he
    have hil : it < s.heap.objs.size := by obtain ⟨_, q, _⟩ := hit; exact Heap.lt_size q
    have lt : i < its.toArray.size := by
      have : i < its.length := by
        rcases Nat.lt_or_ge i its.length with q | q
        · exact q
        · rw [List.getElem?_eq_none q] at hu
          cases hu
      simpa using this
    have hD := I.ok.hd hc
    refine wpAny_pyNext_enum_itemD (Draws.tuple (A := X.A.in1) hD it a n2 its.toArray) he ⟨hit, p⟩ lt n1 (by simp; exact ⟨n1, n3⟩) fun y h' tk hy ho st' hT hsz hk => ?_
    have ey : y = u := by
      have q : its.toArray[i]? = some u := by simpa using hu
      exact Option.some.inj (hy.symm.trans q)
    subst ey
    refine ⟨_, rfl, wpAny_letOwnedTupleGo_enum (s := { s with heap := h', toks := tk + 1 }) ho fun h'' he' sb => ?_⟩
    have hT2 : h''.get? s.heap.objs.size = some { cls := .type "tuple", data := .seq #[.int i tk, y] } := (sb.2 _ (Nat.ne_of_gt hel)).trans hT
    have new : ObjOk X.prog X.w (upd H s.heap.objs.size (.tup [.int (i : Nat), x])) h'' s.heap.objs.size (.tup [.int (i : Nat), x]) :=
      ⟨by show 2 ≤ sizeLine; decide, [.int i tk, y], .cons ⟨_, rfl⟩ (.cons ru .nil), ⟨_, hT2, rfl, _, rfl⟩⟩
    have I1 : Inv X pins σ (upd H s.heap.objs.size (.tup [.int (i : Nat), x])) { s with heap := h'', toks := tk + 1 } :=
      I.turnedNew (ch := [e, it]) (fun b ob hb q => (sb.2 b (fun z => hb (by simp [z]))).trans (hk b ob (fun z => hb (by simp [z])) (fun z => hb (by simp [z])) q)) hf (Nat.le_refl _) new
    refine ⟨.ref s.heap.objs.size, _, I1, rfl, ⟨_, x, rfl, I.hok.fresh (Nat.le_refl _), rfl, fun ys hy => by rw [I.tuple_inj hy hq]; exact hx⟩, ⟨⟨y, ?_⟩, st'.1.at fun o q => (sb.2 it n1.symm).trans q⟩, fun b hb => ?_⟩
    · rw [show ((i + 1 : Nat) : Int) = (i : Int) + 1 by omega]
      exact he'
    · have hb' : b < s.heap.objs.size := by
        have e' : b = e ∨ b = it := by simpa using hb
        rcases e' with z | z
        · rw [z]; exact hel
        · rw [z]; exact hil
      rw [upd_ne (Nat.ne_of_lt hb')]
      exact (hf b hb).1
  done := by
    intro X hP hw hK hc i pins s σ H E I hf st hg
    subst hP hw hK
    obtain ⟨⟨old, he⟩, hit⟩ := st
    obtain ⟨xs, hq, hx⟩ := hg
    obtain ⟨its, rv, p, hz⟩ := I.tuple hq
    obtain ⟨f0, f1, f2, f3, f4, f5⟩ := hf it (by simp)
    have le : i = its.toArray.size := by
      have := rv.length
      simp
      omega
    subst le
    exact wpAny_pyNext_enum_endD (Draws.tuple (A := X.A.in1) (I.ok.hd hc) it a n2 its.toArray) he ⟨hit, p⟩ fun h' eb => ⟨rfl, I.turned (t' := s.toks) (fun b o hb q => eb b o hb q) f0 f1 f3 f4 f5⟩
  self := fun A i s Q E st h => by
    obtain ⟨⟨_, he⟩, _⟩ := st
    exact wpAny_pyIter_enum he h
def iEnumT (K : PySem.W.Frag) (ta : TA) : TI := fun σ H R => ta σ H fun vs H1 => ∃ a xs, vs = [.ref a] ∧ SqT K H1 a xs ∧ R (ItE K a) H1
theorem pi_enumT {X : Cx} {e : Expr} {ta : TA} {p pos tpos : Pos} {elts : List Expr} {kk : Nat} (hg : Gl X "enumerate") (hm : X.mg "enumerate" = none) (ha : PA X [e] ta) (hs : starEach [e] X.env = [(false, eval e X.env)] := by rfl) :
    PI X (.Tuple elts kk tpos) (.Call (.Name "enumerate" p) [e] [] pos) (iEnumT X.K ta) := by
  refine ⟨fun pins s σ H R I h => ?_⟩
  refine Call_ (ld_blt I hg hm boot_enumerate (PyProof.Rows.callWith_type1 (thn (ha.run pos pins s σ H _ I h) ?_) hs rfl))
  rintro us s1 ⟨vs, H1, I1, r1, a, xs, ex, hq, q⟩
  subst ex
  cases r1 with
  | cons r rr =>
    cases rr
    cases r
    obtain ⟨its, rv, p', hz⟩ := I1.tuple hq
    obtain ⟨o, g, _⟩ := id p'
    have la : a < s1.heap.objs.size := Heap.lt_size g
    refine enumT (items := its.toArray) p' fun h' he hit hk => wpAny_pyIter_enum he ?_
    have I2 : Inv X pins σ H1 { s1 with heap := h' } := I1.kept (t' := s1.toks) hk
    refine ⟨s1.heap.objs.size + 1, [s1.heap.objs.size + 1, s1.heap.objs.size], _, _, H1, rfl, I2, turnE a (s1.heap.objs.size + 1) s1.heap.objs.size (Nat.succ_ne_self _) (Nat.ne_of_lt la) (Nat.ne_of_gt (Nat.lt_succ_of_lt la)), ⟨⟨.none, he⟩, hit⟩, fun b hb => ?_, q⟩
    have e' : b = s1.heap.objs.size + 1 ∨ b = s1.heap.objs.size := by simpa using hb
    have hle : s1.heap.objs.size ≤ b := by
      rcases e' with z | z
      · rw [z]; exact Nat.le_add_right _ _
      · rw [z]; exact Nat.le_refl _
    exact I1.fpOk hle (I1.hok.fresh hle)
theorem walk_enumT {K : PySem.W.Frag} {a : Addr} {xs : List V} : Walk (ItE K a) xs.length (fun H => SqT K H a xs) (YPair (fun i => some (.int (i : Nat))) (fun i => xs[i]?)) := by
  refine ⟨fun i _ hi q => ⟨xs, xs[i], q, by simp [hi]⟩, fun _ q => ⟨xs, q, rfl⟩, fun i H v H' _ q y => ?_⟩
  obtain ⟨T, x, h1, h2, h3, h4⟩ := y
  exact ⟨T, .int (i : Nat), x, h1, h2, h3, rfl, h4 xs q⟩
end NB

set_option Elab.async false
set_option linter.all false
set_option maxRecDepth 100000
/-! t[::-1] of a tuple; repr of a truth. -/
namespace NB
open PySem PySem.Spec PyProof.Rows L2 HT

section
variable {prog : Program} {w : World} {A : Around} {E : Value → Shared → Prop} {s : Shared}
theorem adjust_back (n : Nat) : Builtin.Slice.sliceAdjust none none (-1) (n : Int) = ((n : Int) - 1, -1) := by
  unfold Builtin.Slice.sliceAdjust
  first
  | rfl
  | simp
theorem places_back (n : Nat) : Builtin.Slice.slicePlaces ((n : Int) - 1) (-1) (-1) = n := by
  unfold Builtin.Slice.slicePlaces
  have h1 : ¬ ((-1 : Int) > 0) := by decide
  simp only [h1, if_false]
  split <;> simp <;> omega
theorem sliceBack {sl : Addr} {vl vu vk : Value} {n : Nat} {Q : Int × Int × Nat → Shared → Prop} (hs : s.heap.IsSliceOf sl vl vu vk) (pl : IsPart vl none) (pu : IsPart vu none) (pk : IsPart vk (some (-1)))
    (h : Q ((n : Int) - 1, -1, n) s) : wpAny (model prog w) A (Builtin.Slice.sliceApplied (.ref sl) (pure (n : Int))) Q E s := by
  obtain ⟨os, hos, hcs, hds⟩ := id hs
  unfold Builtin.Slice.sliceApplied Builtin.Slice.sliceFields
  refine wpAny_bind (wpAny_bind (wpAny_field hos hds (x := vl) rfl (wpAny_bind (wpAny_field hos hds (x := vu) rfl (wpAny_bind (wpAny_field hos hds (x := vk) rfl (wpAny_pure ?_)))))))
  refine wpAny_bind (slicePart_ pk ?_)
  show wpAny _ _ (if ((-1 : Int) == 0) = true then _ else _) _ _ s
  rw [if_neg (by decide)]
  refine wpAny_bind (slicePart_ pl (wpAny_bind (slicePart_ pu (wpAny_bind (wpAny_pure ?_)))))
  show wpAny _ _ (match Builtin.Slice.sliceAdjust none none (-1) (n : Int) with | (lo, hi) => pure (lo, (-1 : Int), Builtin.Slice.slicePlaces lo hi (-1))) _ _ s
  rw [adjust_back n]
  show wpAny _ _ (pure ((n : Int) - 1, (-1 : Int), Builtin.Slice.slicePlaces ((n : Int) - 1) (-1) (-1))) _ _ s
  rw [places_back]
  exact wpAny_pure h
theorem pick_back (xs : Array Value) : ((List.range xs.size).filterMap fun (m : Nat) => xs[(((xs.size : Int) - 1) + (m : Int) * -1).toNat]?).toArray = xs.toList.reverse.toArray := by
  have e : ((List.range xs.size).filterMap fun (m : Nat) => xs[(((xs.size : Int) - 1) + (m : Int) * -1).toNat]?) = ((List.range xs.size).map fun k => xs.size - 1 - k).filterMap (xs[·]?) := by
    rw [List.filterMap_map]
    congr 1
    funext m
    have : (((xs.size : Int) - 1) + (m : Int) * -1).toNat = xs.size - 1 - m := by omega
    rw [this]
    rfl
  rw [e, PySem.W.krv_range, List.filterMap_reverse, PySem.W.krv_all]
theorem getItem_tuple_back {t sl : Addr} {items : Array Value} {vl vu vk : Value} {Q : Value → Shared → Prop} (ht : IsTup s.heap t items) (hs : s.heap.IsSliceOf sl vl vu vk) (pl : IsPart vl none) (pu : IsPart vu none) (pk : IsPart vk (some (-1)))
    (h : Q (.ref s.heap.objs.size) { s with heap := s.heap.push { cls := .type "tuple", data := .seq items.toList.reverse.toArray } })
    (hsz : items.size ≤ sizeLine) : wpAny (model prog w) A (getItem (.ref t) (.ref sl)) Q E s := by
  have htake : sizeOk (.seq items.toList.reverse.toArray) := by
    show items.toList.reverse.toArray.size ≤ sizeLine
    rw [List.size_toArray, List.length_reverse, Array.length_toList]
    exact hsz
  obtain ⟨os, hos, hcs, hds⟩ := id hs
  have hTs : s.TypeIs (.ref sl) "slice" := ⟨os, hos, hcs⟩
  unfold getItem
  try with_reducible refine wpAny_holding ?_
  first | refine wpAny_bind (wpAny_pure ?_) | skip
  refine wpAny_bind (wpAny_sequenceKey ht.typeIs (by decide) ?_)
  refine wpAny_bind (wpAny_callSpecial?_slot (name := Str.ofString "__getitem__") ht.typeIs PyProof.Rows.slot_tuple_getitem
    (wpAny_call_entry PyProof.Rows.slot_tuple_getitem ht.typeIs entry_tuple_getitem ?_ (args_tuple_getitem _ _)))
  show wpAny _ _ (Builtin.Tuple.tupleItemsOf (.ref t) >>= _) _ _ s
  refine wpAny_bind (tupleItemsOf_ ht ?_)
  refine wpAny_bind (wpAny_typeOf hTs ?_)
  rw [if_pos (by decide)]
  refine wpAny_bind (sliceBack hs pl pu pk ?_)
  have hno : ¬ ((((items.size : Int) - 1) == 0 && (-1 : Int) == 1 && items.size == items.size) = true) := by
    intro q
    rw [Bool.and_eq_true, Bool.and_eq_true] at q
    exact absurd q.1.2 (by decide)
  show wpAny _ _ (if (((items.size : Int) - 1) == 0 && (-1 : Int) == 1 && items.size == items.size) = true then _ else _) _ _ s
  rw [if_neg hno, pick_back]
  first
    | exact wpAny_bind (m := Builtin.Tuple.tupleExact _) (wpAny_newObj_type (wpAny_pure ⟨_, rfl, wpAny_pure h⟩) htake)
    | exact wpAny_bind (m := Builtin.Tuple.tupleExact _) (wpAny_newObj_type (wpAny_bind (wpAny_pure (wpAny_pure ⟨_, rfl, wpAny_pure h⟩))) htake)
    | exact wpAny_bind (wpAny_bind (m := Builtin.Tuple.tupleExact _) (wpAny_newObj_type (wpAny_pure (wpAny_pure ⟨_, rfl, wpAny_pure h⟩)) htake))
    | exact wpAny_bind (wpAny_bind (m := Builtin.Tuple.tupleExact _) (wpAny_newObj_type (wpAny_pure ⟨_, rfl, wpAny_pure h⟩) htake))
end

section
variable {X : Cx}
def tRevT (K : PySem.W.Frag) (te : TE) : TE := fun σ H Q => te σ H fun x H1 => ∃ a xs, x = .ref a ∧ SqT K H1 a xs ∧ ∀ p, H1 p = none → Q (.ref p) (upd H1 p (.tup xs.reverse))
theorem pe_revT {e : Expr} {te : TE} {k : Nat} {p1 p2 p3 pos : Pos} (he : PE X e te) : PE X (.Subscript e (.Slice none none (some (.UnaryOp .USub (.Constant (.int 1) k p1) p2)) p3) pos) (tRevT X.K te) := by
  refine ⟨fun pins s σ H Q I h => ?_⟩
  refine Subscript_ (thn (he.run pins s σ H _ I h) fun v s1 ⟨x, H1, I1, r1, q1⟩ => ?_)
  obtain ⟨a, xs, ex, hx, q⟩ := q1
  subst ex
  cases r1
  have hst : PO X (some (.UnaryOp .USub (.Constant (.int 1) k p1) p2)) (tPart (tUn (rU fun i => .int (-i)) (tC (.int 1)))) := po_some (pe_un un_neg pe_int)
  refine wpAny_Slice (thn (po_none.run pins s1 σ H1 (fun o H2 => o = none ∧ H2 = H1) I1 ⟨rfl, rfl⟩) fun vl s2 ⟨l, H2, I2, pl, el, e2⟩ => ?_)
  subst el e2
  refine thn (po_none.run pins s2 σ H2 (fun o H3 => o = none ∧ H3 = H2) I2 ⟨rfl, rfl⟩) fun vu s3 ⟨u, H3, I3, pu, eu, e3⟩ => ?_
  subst eu e3
  refine thn (hst.run pins s3 σ H3 (fun o H4 => o = some (-1) ∧ H4 = H3) I3 ⟨1, rfl, -1, rfl, rfl, rfl⟩) fun vs s4 ⟨o, H4, I4, ps, eo, e4⟩ => ?_
  subst eo e4
  have I5 : Inv X pins σ H4 { s4 with heap := s4.heap.push { cls := .type "slice", data := .fields #[vl, vu, vs] } } := I4.kept (t' := s4.toks) fun b ob q => Heap.get?_push_of_some _ q
  obtain ⟨its, r, ht, hz⟩ := I5.tuple hx
  have hlen := r.length
  show wpAny (model X.prog X.w) X.A (subscriptTail e (.Slice none none (some (.UnaryOp .USub (.Constant (.int 1) k p1) p2)) p3) (.ref a) (.ref s4.heap.objs.size)) (EP X pins σ Q) X.xe { s4 with heap := s4.heap.push { cls := .type "slice", data := .fields #[vl, vu, vs] } }
  refine tail_any (ops := [.ref a, .ref s4.heap.objs.size]) ht.typeIs (PyProof.Rows.slot_tuple_getitem.lookup) ?_ (by with_unfolding_all rfl)
  refine getItem_tuple_back ht (Heap.IsSliceOf.new _ vl vu vs) pl pu ps ?_ (by rw [List.size_toArray]; omega)
  refine ⟨.ref _, _, I5.laid (t' := s4.toks) (o := .tup xs.reverse) (fun b ob q => Heap.get?_push_of_some _ q) (Nat.le_refl _) ?_, rfl, q _ (I5.hok.fresh (Nat.le_refl _))⟩
  exact ⟨by rw [List.length_reverse]; exact hz, _, r.reverse, IsTup.new _ _⟩

/-- how a truth is written -/
def shB (b : Bool) : Str := if b then "True" else "False"
/-- repr(b), b a truth -/
theorem call_reprB : CallR X (.builtin "repr") (fun xs H Q => ∃ b, xs = [.bl b] ∧ Q (.str (shB b)) H) := by
  intro pins s σ H xs us Q I r h
  obtain ⟨b, rfl, q⟩ := h
  obtain ⟨u, rfl, r1⟩ := vals1 r
  cases r1
  exact P.repr_of_bool ⟨.str (shB b), H, I.tok _, ⟨_, rfl⟩, q⟩
end
end NB

set_option Elab.async false
set_option linter.all false
set_option maxRecDepth 100000
namespace NB
open PySem PySem.Spec PyProof.Rows L2
/-- data that repr writes: at most w by weight, nested at most n deep -/
structure Small (d : PyData) (w n : Nat) : Prop where
  sh : d.showable = true
  nd : d.hasDict = false
  dp : d.depth ≤ n
  lv : d.leavesShort 100 = true
  wt : d.weight ≤ w
structure SmallAll (ds : List PyData) (w n : Nat) : Prop where
  sh : PyData.showableAll ds = true
  nd : PyData.hasDictAll ds = false
  dp : PyData.depthAll ds ≤ n
  lv : PyData.leavesShortAll 100 ds = true
  wt : PyData.weightAll ds ≤ w
theorem Small.int {i : Int} (h : i.natAbs < 10 ^ 90) : Small (.int i) 310 0 := by
  have lg : i.natAbs.log2 < 300 := by
    have h2 : i.natAbs < 2 ^ 300 := Nat.lt_of_lt_of_le h (by decide)
    by_cases e : i.natAbs = 0
    · rw [e]; decide
    · exact (Nat.log2_lt e).mpr h2
  refine ⟨?_, rfl, Nat.le_refl _, ?_, ?_⟩
  · simp only [PyData.showable, decide_eq_true_eq]
    omega
  · simp only [PyData.leavesShort, decide_eq_true_eq]
    have e := int_text_length_le10 (k := 90) (by decide) h
    show (Str.ofString (toString i)).length ≤ 100
    rw [PySem.ofString_length]
    omega
  · show (if i == 0 then 0 else i.natAbs.log2 + 1) ≤ 310
    split <;> omega
theorem Small.bool (b : Bool) : Small (.bool b) 0 0 := ⟨rfl, rfl, Nat.le_refl _, rfl, Nat.le_refl _⟩
theorem Small.none : Small .none 0 0 := ⟨rfl, rfl, Nat.le_refl _, rfl, Nat.le_refl _⟩
theorem SmallAll.nil : SmallAll [] 0 0 := ⟨rfl, rfl, Nat.le_refl _, rfl, Nat.le_refl _⟩
theorem SmallAll.cons {d : PyData} {ds : List PyData} {w v n m : Nat} (h : Small d w n) (h' : SmallAll ds v m) : SmallAll (d :: ds) (w + 1 + v) (max n m) := by
  obtain ⟨a1, a2, a3, a4, a5⟩ := h
  obtain ⟨b1, b2, b3, b4, b5⟩ := h'
  refine ⟨?_, ?_, ?_, ?_, ?_⟩
  · simp only [PyData.showableAll, a1, b1, Bool.and_self]
  · simp only [PyData.hasDictAll, a2, b2, Bool.or_self]
  · simp only [PyData.depthAll]
    omega
  · simp only [PyData.leavesShortAll, a4, b4, Bool.and_self]
  · simp only [PyData.weightAll]
    omega
theorem Small.list {ds : List PyData} {w n : Nat} (h : SmallAll ds w n) : Small (.list ds) w (n + 1) := by
  obtain ⟨a1, a2, a3, a4, a5⟩ := h
  refine ⟨?_, ?_, ?_, ?_, ?_⟩
  · simpa only [PyData.showable] using a1
  · simpa only [PyData.hasDict] using a2
  · simp only [PyData.depth]
    omega
  · simpa only [PyData.leavesShort] using a4
  · simpa only [PyData.weight] using a5
theorem Small.tuple {ds : List PyData} {w n : Nat} (h : SmallAll ds w n) : Small (.tuple ds) w (n + 1) := by
  obtain ⟨a1, a2, a3, a4, a5⟩ := h
  refine ⟨?_, ?_, ?_, ?_, ?_⟩
  · simpa only [PyData.showable] using a1
  · simpa only [PyData.hasDict] using a2
  · simp only [PyData.depth]
    omega
  · simpa only [PyData.leavesShort] using a4
  · simpa only [PyData.weight] using a5
theorem SmallAll.ints : ∀ {xs : List Int}, (∀ x ∈ xs, x.natAbs < 10 ^ 90) → SmallAll (xs.map PyData.int) (311 * xs.length) 0
  | [], _ => .nil
  | x :: xs, h => by
    have c := SmallAll.cons (Small.int (h x List.mem_cons_self)) (SmallAll.ints fun y hy => h y (List.mem_cons_of_mem _ hy))
    refine ⟨c.sh, c.nd, c.dp, c.lv, Nat.le_trans c.wt ?_⟩
    rw [List.length_cons]
    omega
theorem Small.ok {d : PyData} {w n : Nat} (h : Small d w n) (hw : w ≤ 150000) (hn : n ≤ 60) : Showable d := by
  refine ⟨h.sh, h.nd, Nat.le_trans h.dp hn, ?_⟩
  have e := PyData.shown_le 100 (by decide) d h.lv
  have := h.wt
  rw [sizeLine_eq]
  have : (100 + 2) * d.weight ≤ (100 + 2) * 150000 := Nat.mul_le_mul_left _ (Nat.le_trans h.wt hw)
  omega
/-- what Dp reads of a tuple of ints -/
theorem dp_ints {K : PySem.W.Frag} {H : Hp} : ∀ xs : List Int, DpAll K H (xs.map V.int) (xs.map PyData.int)
  | [] => .nil
  | x :: xs => .cons (.int x) (dp_ints xs)
theorem dp_tup {K : PySem.W.Frag} {H : Hp} {p : Addr} {xs : List Int} (h : SqT K H p (xs.map V.int)) : Dp K H (.ref p) (.tuple (xs.map PyData.int)) := .tup h (dp_ints xs)
end NB

set_option Elab.async false
set_option linter.all false
set_option maxRecDepth 100000
namespace K18
open PySem PySem.Spec PyProof.Rows L2 NB
def topS (i : Nat) : Stmt := PySem.Challenge.pw_notbothout_k18_whole_middles_are_the_nea.main.body.getD i (.Pass ⟨0, 0, 0, 0⟩)

/-- all that was tracked stands, but for what is at a -/
def But (a : Addr) (H H' : Hp) : Prop := ∀ b o, b ≠ a → H b = some o → H' b = some o
theorem But.of {a : Addr} {H H' : Hp} (h : Same H H') : But a H H' := fun b o _ e => h b o e
theorem But.trans {a : Addr} {H H1 H2 : Hp} (h : But a H H1) (h' : But a H1 H2) : But a H H2 := fun b o n e => h' b o n (h b o n e)
theorem But.seq {K : PySem.W.Frag} {a l : Addr} {H H' : Hp} {xs : List V} (h : But a H H') (n : l ≠ a) (q : SqL K H l xs) : SqL K H' l xs := by
  rcases q with (q | ⟨o, q⟩) | q
  · exact .inl (.inl (h _ _ n q))
  · exact .inl (.inr ⟨o, h _ _ n q⟩)
  · exact .inr q
theorem But.tup {K : PySem.W.Frag} {a l : Addr} {H H' : Hp} {xs : List V} (h : But a H H') (n : l ≠ a) (q : SqT K H l xs) : SqT K H' l xs := by
  rcases q with (q | ⟨o, q⟩) | q
  · exact .inl (.inl (h _ _ n q))
  · exact .inl (.inr ⟨o, h _ _ n q⟩)
  · exact .inr q
theorem sameT {K : PySem.W.Frag} {l : Addr} {H H' : Hp} {xs : List V} (h : Same H H') (q : SqT K H l xs) : SqT K H' l xs := by
  rcases q with (q | ⟨o, q⟩) | q
  · exact .inl (.inl (h _ _ q))
  · exact .inl (.inr ⟨o, h _ _ q⟩)
  · exact .inr q
theorem same_new {H : Hp} {p : Addr} {o : HO} (h : H p = none) : Same H (upd H p o) := fun b x e => by
  rw [upd_ne (ne_of_none e h)]
  exact e
/-- a cell that was free and is written stands apart from what was -/
theorem same_over {H H' : Hp} {p : Addr} {o : HO} (h : Same H H') (n : H p = none) : Same H (upd H' p o) := fun b x e => by
  rw [upd_ne (ne_of_none e n)]
  exact h b x e

theorem mapGet {α β : Type} {f : α → β} {xs : List α} {i : Nat} {y : β} (h : (xs.map f)[i]? = some y) : ∃ x, xs[i]? = some x ∧ y = f x := by
  rw [List.getElem?_map] at h
  cases e : xs[i]? with
  | none => rw [e] at h; cases h
  | some x => rw [e] at h; exact ⟨x, rfl, (Option.some.inj h).symm⟩

theorem take_map {α β : Type} (f : α → β) (xs : List α) (i : Nat) (y : α) (h : xs[i]? = some y) : (xs.take (i + 1)).map f = (xs.take i).map f ++ [f y] := by
  rw [List.take_add_one, h, List.map_append]
  rfl
theorem take_small {α : Type} {xs : List α} {i : Nat} (h : xs.length ≤ 1000) {β : Type} (f : α → β) : ((xs.take i).map f).length < sizeLine := by
  rw [List.length_map, List.length_take]
  exact Nat.lt_of_le_of_lt (Nat.min_le_right _ _) (small1000 h)
abbrev sMiddle : Stmt := topS 51
abbrev sBetween : Stmt := topS 52
theorem scMid : FnScope ["one", "two", "three", "places"] ["one", "two", "three"] (defScope sMiddle) := ⟨rfl, rfl, rfl, by decide +kernel, rfl, by decide +kernel, by decide +kernel⟩
theorem scBet : FnScope ["one", "x", "other", "a", "place", "b"] ["one", "x", "other"] (defScope sBetween) := ⟨rfl, rfl, rfl, by decide +kernel, rfl, by decide +kernel, by decide +kernel⟩

/-! ### mathematics -/
def dist : List Int → List Int → Int
  | x :: xs, y :: ys => (if x - y < 0 then -(x - y) else x - y) + dist xs ys
  | _, _ => 0
def dists : List Int → List Int → List Int
  | x :: xs, y :: ys => (if x - y < 0 then -(x - y) else x - y) :: dists xs ys
  | _, _ => []
theorem dists_sum : ∀ xs ys, (dists xs ys).sum = dist xs ys
  | [], _ => rfl
  | _ :: _, [] => rfl
  | x :: xs, y :: ys => by simp only [dists, dist, List.sum_cons, dists_sum xs ys]
theorem dists_len : ∀ xs ys : List Int, ys.length = xs.length → (dists xs ys).length = xs.length
  | [], _, _ => rfl
  | _ :: _, [], h => by simp at h
  | x :: xs, y :: ys, h => by simp only [dists, List.length_cons, dists_len xs ys (by simpa using h)]
theorem dists_get : ∀ (xs ys : List Int) (i : Nat) (x y : Int), xs[i]? = some x → ys[i]? = some y → (dists xs ys)[i]? = some (if x - y < 0 then -(x - y) else x - y)
  | [], _, _, _, _, h, _ => by simp at h
  | _ :: _, [], _, _, _, _, h => by simp at h
  | a :: xs, b :: ys, 0, x, y, h, h' => by
    have e1 : a = x := Option.some.inj h
    have e2 : b = y := Option.some.inj h'
    subst e1 e2
    rfl
  | a :: xs, b :: ys, i + 1, x, y, h, h' => dists_get xs ys i x y h h'

section
variable {P : Program} {w : World} {K : PySem.W.Frag} {mg : Str → Option Value} {base : Heap}

end
/-! ### mathematics -/
def z3 {α : Type} (f : Int → Int → Int → α) : List Int → List Int → List Int → List α
  | x :: xs, y :: ys, z :: zs => f x y z :: z3 f xs ys zs
  | _, _, _ => []
theorem z3_len {α : Type} {f : Int → Int → Int → α} : ∀ xs ys zs : List Int, ys.length = xs.length → zs.length = xs.length → (z3 f xs ys zs).length = xs.length
  | [], _, _, _, _ => rfl
  | _ :: _, [], _, h, _ => by simp at h
  | _ :: _, _ :: _, [], _, h => by simp at h
  | x :: xs, y :: ys, z :: zs, h, h' => by simp only [z3, List.length_cons, z3_len xs ys zs (by simpa using h) (by simpa using h')]
theorem z3_get {α : Type} {f : Int → Int → Int → α} : ∀ (xs ys zs : List Int) (i : Nat) (x y z : Int), xs[i]? = some x → ys[i]? = some y → zs[i]? = some z → (z3 f xs ys zs)[i]? = some (f x y z)
  | [], _, _, _, _, _, _, h, _, _ => by simp at h
  | _ :: _, [], _, _, _, _, _, _, h, _ => by simp at h
  | _ :: _, _ :: _, [], _, _, _, _, _, _, h => by simp at h
  | a :: xs, b :: ys, c :: zs, 0, x, y, z, h, h', h'' => by
    have e1 : a = x := Option.some.inj h
    have e2 : b = y := Option.some.inj h'
    have e3 : c = z := Option.some.inj h''
    subst e1 e2 e3
    rfl
  | a :: xs, b :: ys, c :: zs, i + 1, x, y, z, h, h', h'' => z3_get xs ys zs i x y z h h' h''
def btw (a x b : Int) : Bool := decide (min a b ≤ x) && decide (x ≤ max a b)
section
variable {P : Program} {w : World} {K : PySem.W.Frag} {mg : Str → Option Value} {base : Heap}

def spMiddle (K : PySem.W.Frag) : Sp := fun vs H Q _ => ∃ (a b c : Addr) (xs ys zs : List Int), vs = [.ref a, .ref b, .ref c] ∧ SqT K H a (xs.map V.int) ∧ SqT K H b (ys.map V.int) ∧ SqT K H c (zs.map V.int) ∧ ys.length = xs.length ∧ zs.length = xs.length ∧ xs.length ≤ 1000 ∧
  ∀ H' p, Same H H' → H p = none → H' p = some (.tup ((z3 mid3 xs ys zs).map V.int)) → Q (.ref p) H'
theorem ok_middle {f : Addr} {fd : FuncData} {k : Nat} (F : Fun K "middle" "middle" sMiddle f fd) (mz : mg "zip" = none) (ms : mg "sorted" = none) (mt : mg "tuple" = none) : FnOk P w K mg base CX0 (k + 1) f fd ["one", "two", "three"] (spMiddle K) := by
  refine F.ok scMid (fun vs H Q E h => ?_) (fun cdv A outer s H vs Q E hr h => ?_)
  · obtain ⟨a, b, c, xs, ys, zs, rfl, _⟩ := h
    rfl
  · obtain ⟨a, b, c, xs, ys, zs, rfl, hx, hy, hz, hl, hm, hn, q⟩ := h
    refine ⟨_, pss_one (ps_ret (pe_callTy call_tuple_of (by rfl) mt (by decide +kernel) (pa_cons
      (pe_lc (own := [("places", 3)]) (g := gName 3) (tt := tYes) rfl scMid.nd (pi_zip3 (by rfl) mz (pa_cons (pv 0) (pa_cons (pv 1) (pa_cons (pv 2) pa_nil)))) (blkOk_by (N := ["one", "two", "three", "places"]) (sc := defScope sMiddle) (by decide +kernel))
        (fun _ _ _ _ _ => pg_name (i := 3) scMid.nd rfl (.inl rfl) (hf := .inr rfl)) (fun _ _ _ _ _ => pts_nil)
        (fun _ _ _ _ _ => pe_ix (r := rIxL K) ix_list (pe_callB (id := "sorted") (r := rSortT K) cr_sortT (by rfl) ms (by decide +kernel) (pa_cons (pv 3) pa_nil)) pe_int (fun _ _ => rfl))) pa_nil))), ?_⟩
    refine ⟨.ref a, rfl, .ref b, rfl, .ref c, rfl, a, b, c, _, _, _, rfl, hx, hy, hz, fun D nD => lc_it (walk_zip3 (xs := xs.map V.int) (ys := ys.map V.int) (zs := zs.map V.int) (by simpa using hl) (by simpa using hm)) (fun i H' => Same H H' ∧ H' D = some (.lst (((z3 mid3 xs ys zs).take i).map V.int))) ⟨same_new nD, upd_same⟩ (fun i H' _ p => ⟨sameT p.1 hx, sameT p.1 hy, sameT p.1 hz⟩) (fun i v H1 H2 hi p y => ?_) (fun H' p => ?_)⟩
    · obtain ⟨sm, eD⟩ := p
      obtain ⟨T, x, y, z, rfl, nT, rfl, gx, gy, gz⟩ := y
      obtain ⟨x, ex, rfl⟩ := mapGet gx
      obtain ⟨y, ey, rfl⟩ := mapGet gy
      obtain ⟨z, ez, rfl⟩ := mapGet gz
      have nTD : D ≠ T := ne_of_none eD nT
      refine ⟨rfl, .ref T, rfl, T, [x, y, z], rfl, .inl (.inl upd_same), (show 3 < 64 by decide), fun ns' p pm so np => ?_⟩
      have l3 : ns'.length = 3 := pm.length_eq
      obtain ⟨u1, u2, u3, rfl⟩ : ∃ u1 u2 u3, ns' = [u1, u2, u3] := by
        match ns', l3 with
        | [u1, u2, u3], _ => exact ⟨u1, u2, u3, rfl⟩
      have em : u2 = mid3 x y z := mid_of_sorted pm so
      have nDp : D ≠ p := fun e => by
        rw [← e, upd_ne nTD, eD] at np
        cases np
      refine ⟨p, _, 1, .int u2, rfl, rfl, .inl (.inl upd_same), atI_nat (j := 1) rfl, _, (upd_ne nDp).trans ((upd_ne nTD).trans eD), take_small (by rw [z3_len xs ys zs hl hm]; exact hn) _, ?_, ?_⟩
      · refine same_over (same_over (same_over sm (sm.free nT)) ?_) nD
        have smT : Same H (upd H1 T (.tup [V.int x, V.int y, V.int z])) := same_over sm (sm.free nT)
        exact smT.free np
      · rw [upd_same, take_map _ _ _ _ (z3_get xs ys zs i x y z ex ey ez), em]
    · obtain ⟨sm, eD⟩ := p
      refine ⟨D, _, rfl, .inl ⟨.inl (.inl eD), fun l nl => ?_⟩⟩
      rw [List.length_map, List.take_of_length_le (by rw [z3_len xs ys zs hl hm]; exact Nat.le_refl _)]
      exact q _ l (same_over sm (sm.free nl)) (sm.free nl) upd_same

def spBet (K : PySem.W.Frag) : Sp := fun vs H Q _ => ∃ (a b c : Addr) (xs ys zs : List Int), vs = [.ref a, .ref b, .ref c] ∧ SqT K H a (xs.map V.int) ∧ SqT K H b (ys.map V.int) ∧ SqT K H c (zs.map V.int) ∧ ys.length = xs.length ∧ zs.length = xs.length ∧ xs.length ≤ 1000 ∧
  ∀ H', Same H H' → Q (.bl ((z3 btw xs ys zs).all id)) H'
theorem ok_bet {f : Addr} {fd : FuncData} {k : Nat} (F : Fun K "is_between" "is_between" sBetween f fd) (mz : mg "zip" = none) (mi : mg "min" = none) (ma : mg "max" = none) (mal : mg "all" = none) : FnOk P w K mg base CX0 (k + 1) f fd ["one", "x", "other"] (spBet K) := by
  refine F.ok scBet (fun vs H Q E h => ?_) (fun cdv A outer s H vs Q E hr h => ?_)
  · obtain ⟨a, b, c, xs, ys, zs, rfl, _⟩ := h
    rfl
  · obtain ⟨a, b, c, xs, ys, zs, rfl, hx, hy, hz, hl, hm, hn, q⟩ := h
    refine ⟨_, pss_one (ps_ret (pe_callB (cr_all rfl) (by rfl) mal (by decide +kernel) (pa_cons
      (pe_lc (own := [("a", 3), ("place", 4), ("b", 5)]) (g := gTup K 3 (gCons (gName 3) (gCons (gName 4) (gCons (gName 5) gNil)))) (tt := tYes) rfl scBet.nd (pi_zip3 (by rfl) mz (pa_cons (pv 0) (pa_cons (pv 1) (pa_cons (pv 2) pa_nil)))) (blkOk_by (N := ["one", "x", "other", "a", "place", "b"]) (sc := defScope sBetween) (by decide +kernel))
        (fun _ _ _ _ _ => pg_tup rfl (pgs_cons (pg_name (i := 3) scBet.nd rfl (.inl rfl) (hf := .inr rfl)) (pgs_cons (pg_name (i := 4) scBet.nd rfl (.inl rfl) (hf := .inr rfl)) (pgs_cons (pg_name (i := 5) scBet.nd rfl (.inl rfl) (hf := .inr rfl)) pgs_nil)))) (fun _ _ _ _ _ => pts_nil)
        (fun _ _ _ _ _ => pe_chain op_le op_le (pe_callB (call_min2 rfl) (by rfl) mi (by decide +kernel) (pa_cons (pv 3) (pa_cons (pv 5) pa_nil))) (pv 4) (pe_callB (call_max2 rfl) (by rfl) ma (by decide +kernel) (pa_cons (pv 3) (pa_cons (pv 5) pa_nil))))) pa_nil))), ?_⟩
    refine ⟨.ref a, rfl, .ref b, rfl, .ref c, rfl, a, b, c, _, _, _, rfl, hx, hy, hz, fun D nD => lc_it (walk_zip3 (xs := xs.map V.int) (ys := ys.map V.int) (zs := zs.map V.int) (by simpa using hl) (by simpa using hm)) (fun i H' => Same H H' ∧ H' D = some (.lst (((z3 btw xs ys zs).take i).map V.bl))) ⟨same_new nD, upd_same⟩ (fun i H' _ p => ⟨sameT p.1 hx, sameT p.1 hy, sameT p.1 hz⟩) (fun i v H1 H2 hi p y => ?_) (fun H' p => ?_)⟩
    · obtain ⟨sm, eD⟩ := p
      obtain ⟨T, x, y, z, rfl, nT, rfl, gx, gy, gz⟩ := y
      obtain ⟨x, ex, rfl⟩ := mapGet gx
      obtain ⟨y, ey, rfl⟩ := mapGet gy
      obtain ⟨z, ez, rfl⟩ := mapGet gz
      have nTD : D ≠ T := ne_of_none eD nT
      have fin : ∀ b : Bool, b = btw x y z → ∃ acc, (upd H1 T (.tup [V.int x, V.int y, V.int z])) D = some (.lst acc) ∧ acc.length < sizeLine ∧ Same H (upd (upd H1 T (.tup [V.int x, V.int y, V.int z])) D (.lst (acc ++ [.bl b]))) ∧
          (upd (upd H1 T (.tup [V.int x, V.int y, V.int z])) D (.lst (acc ++ [.bl b]))) D = some (.lst (((z3 btw xs ys zs).take (i + 1)).map V.bl)) := by
        intro b e
        subst e
        refine ⟨_, (upd_ne nTD).trans eD, take_small (by rw [z3_len xs ys zs hl hm]; exact hn) _, same_over (same_over sm (sm.free nT)) nD, ?_⟩
        rw [upd_same, take_map _ _ _ _ (z3_get xs ys zs i x y z ex ey ez)]
      refine ⟨T, _, rfl, .inl (.inl upd_same), rfl, _, _, rfl, _, _, rfl, _, _, rfl, rfl, rfl, .int x, rfl, .int z, rfl, x, z, rfl, .int y, rfl, _, _, rfl, rfl, _, rfl, ite2 (fun c => ?_) (fun c => ?_)⟩
      · have c' := of_decide_eq_true c
        refine ⟨.int x, rfl, .int z, rfl, x, z, rfl, y, _, rfl, rfl, fin _ ?_⟩
        unfold btw
        rw [decide_eq_true (show min x z ≤ y by split at c' <;> omega), Bool.true_and]
        exact decide_eq_decide.mpr (by split <;> omega)
      · have c' : ¬ ((if z < x then z else x) ≤ y) := fun q => c (decide_eq_true q)
        refine fin false ?_
        unfold btw
        rw [decide_eq_false (show ¬ min x z ≤ y by split at c' <;> omega), Bool.false_and]
    · obtain ⟨sm, eD⟩ := p
      refine ⟨D, z3 btw xs ys zs, rfl, .inl (.inl ?_), q H' sm⟩
      rw [eD, List.length_map, List.take_of_length_le (by rw [z3_len xs ys zs hl hm]; exact Nat.le_refl _)]
end

abbrev sPot : Stmt := topS 61
abbrev sTake : Stmt := topS 62
abbrev sOf : Stmt := topS 63
abbrev sStand : Stmt := topS 64
theorem scPot : FnScope ["_law_script", "_law_k", "_law_cell", "_law_great"] ["_law_script", "_law_k"] (defScope sPot) := ⟨rfl, rfl, rfl, by decide +kernel, rfl, by decide +kernel, by decide +kernel⟩
theorem scTake : FnScope ["_law_pot_here", "_law_many", "_law_digit", "_law_prime", "_law_mixed"] ["_law_pot_here", "_law_many"] (defScope sTake) := ⟨rfl, rfl, rfl, by decide +kernel, rfl, by decide +kernel, by decide +kernel⟩
theorem scOf : FnScope ["_law_pot_here", "_law_some"] ["_law_pot_here", "_law_some"] (defScope sOf) := ⟨rfl, rfl, rfl, by decide +kernel, rfl, by decide +kernel, by decide +kernel⟩
theorem scStand : FnScope ["_law_pot_here", "_law_tops", "_law_top"] ["_law_pot_here", "_law_tops"] (defScope sStand) := ⟨rfl, rfl, rfl, by decide +kernel, rfl, by decide +kernel, by decide +kernel⟩

/-- a pot out of which at most c numbers were taken by reckoning -/
def PotAt (H : Hp) (a : Addr) (c : Nat) : Prop := ∃ p q r : Int, H a = some (.lst [.int p, .int q, .int r]) ∧ 0 ≤ p ∧ 0 ≤ r ∧ r ≤ c
theorem PotAt.mono {H : Hp} {a : Addr} {c d : Nat} (h : PotAt H a c) (le : c ≤ d) : PotAt H a d := by
  obtain ⟨p, q, r, e, h1, h2, h3⟩ := h
  exact ⟨p, q, r, e, h1, h2, by omega⟩
theorem PotAt.keep {H H' : Hp} {a : Addr} {c : Nat} (h : PotAt H a c) (s : Same H H') : PotAt H' a c := by
  obtain ⟨p, q, r, e, h1, h2, h3⟩ := h
  exact ⟨p, q, r, s _ _ e, h1, h2, h3⟩
theorem PotAt.ne {H : Hp} {a b : Addr} {c : Nat} (h : PotAt H a c) (n : H b = none) : b ≠ a := by
  obtain ⟨p, q, r, e, _⟩ := h
  exact (ne_of_none e n).symm
theorem But.free {a b : Addr} {H H' : Hp} (h : But a H H') (ne : b ≠ a) (n : H' b = none) : H b = none := by
  cases e : H b with
  | none => rfl
  | some o =>
    rw [h b o ne e] at n
    cases n
theorem but_new {a p : Addr} {H H' : Hp} {o : HO} (h : But a H H') (n : H p = none) : But a H (upd H' p o) := fun b x ne e => by
  rw [upd_ne (ne_of_none e n)]
  exact h b x ne e
theorem but_at {a : Addr} {H H' : Hp} {o : HO} (h : But a H H') : But a H (upd H' a o) := fun b x ne e => by
  rw [upd_ne ne]
  exact h b x ne e

theorem prime_at (j : Int) (h0 : 0 ≤ j) (h4 : j < 4) : ∃ pr : Int, atI [V.int 2305843009213693951, V.int 999999999989, V.int 1000000000039, V.int 67280421310721] j = some (.int pr) ∧ 0 < pr ∧ pr < 2 ^ 62 := by
  have : j = 0 ∨ j = 1 ∨ j = 2 ∨ j = 3 := by omega
  rcases this with rfl | rfl | rfl | rfl
  · exact ⟨_, atI_nat (j := 0) rfl, by decide, by decide⟩
  · exact ⟨_, atI_nat (j := 1) rfl, by decide, by decide⟩
  · exact ⟨_, atI_nat (j := 2) rfl, by decide, by decide⟩
  · exact ⟨_, atI_nat (j := 3) rfl, by decide, by decide⟩

section
variable {P : Program} {w : World} {K : PySem.W.Frag} {mg : Str → Option Value} {base : Heap}

def spPot (K : PySem.W.Frag) : Sp := fun vs H Q _ => ∃ (a : Addr) (ns : List Int) (k : Nat), vs = [.ref a, .int k] ∧ SqL K H a (ns.map V.int) ∧ k ≤ 1000 ∧
  ∀ H' p, Same H H' → H p = none → PotAt H' p 0 → Q (.ref p) H'
theorem ok_pot {f : Addr} {fd : FuncData} {k : Nat} (F : Fun K "_law_pot" "_law_pot" sPot f fd) (ml : mg "len" = none) (ma : mg "abs" = none) (mi : mg "int" = none) : FnOk P w K mg base CX0 (k + 1) f fd ["_law_script", "_law_k"] (spPot K) := by
  refine F.ok scPot (fun vs H Q E h => ?_) (fun cdv A outer s H vs Q E hr h => ?_)
  · obtain ⟨a, ns, k, rfl, _⟩ := h
    rfl
  · obtain ⟨a, ns, k, rfl, hS, hk, q⟩ := h
    refine ⟨_, pss_cons (ps_set (i := 2) scPot.nd rfl (.inl rfl) (pe_ifExp (pt_cmpR op_lt (pv 1) (pe_callB call_len_seq (by rfl) ml PySem.boot_len (pa_cons (pv 0) pa_nil)) (nomark _)) (pe_ix ix_list (pv 0) (pv 1) (fun _ _ => rfl)) (pe_op op_add (pe_op op_mul pe_int (pv 1)) pe_int)))
      (pss_cons (ps_set (i := 3) scPot.nd rfl (.inl rfl) (pe_op op_mul (pe_op op_mod (pe_callB call_abs (by rfl) ma (by decide +kernel) (pa_cons (pv 2) pa_nil)) (pe_op op_powW (pe_op op_pow pe_int pe_int) pe_int))
          (pe_callTy call_int1 (by rfl) mi (by decide +kernel) (pa_cons (pe_cmpR op_ge (pe_callB call_abs (by rfl) ma (by decide +kernel) (pa_cons (pv 2) pa_nil)) (pe_op op_pow pe_int pe_int) (nomark _)) pa_nil))))
      (pss_one (ps_ret (pe_lst (pa_cons (pv 3) (pa_cons (pe_op op_mod (pe_op op_mul (pe_op op_add (pe_op op_add (pe_op op_mod (pv 2) pe_int) (pe_op op_mul (pe_op op_mul pe_int (pv 1)) (pv 1))) pe_int) pe_int) pe_int) (pa_cons pe_int pa_nil))))))), ?_⟩
    have k1 : -(2 ^ 64) < (k : Int) ∧ (k : Int) < 2 ^ 64 := by omega
    have big : (0 : Int) < (10 ^ (60 : Int).toNat) ^ (5 : Int).toNat := by decide +kernel
    have one : ∀ b : Bool, -(2 ^ 64) < (if b = true then (1 : Int) else 0) ∧ (if b = true then (1 : Int) else 0) < 2 ^ 64 := fun b => by cases b <;> decide
    have nn : ∀ (x : Int) (b : Bool), 0 ≤ x % (10 ^ (60 : Int).toNat) ^ (5 : Int).toNat * (if b = true then (1 : Int) else 0) := fun x b => Int.mul_nonneg (Int.emod_nonneg _ (Int.ne_of_gt big)) (by cases b <;> decide)
    refine ⟨.int k, rfl, .ref a, rfl, a, _, rfl, .inl hS, _, _, rfl, rfl, _, rfl, ite2 (fun c => ?_) (fun c => ?_)⟩
    · have c' := of_decide_eq_true c
      rw [List.length_map] at c'
      have lt : k < ns.length := by omega
      refine ⟨.ref a, rfl, .int k, rfl, a, _, k, .int ns[k], rfl, rfl, hS, atI_nat (by rw [List.getElem?_map, List.getElem?_eq_getElem lt]; rfl), ?_⟩
      refine ⟨.int ns[k], rfl, _, rfl, 10, 60, rfl, rfl, ⟨by decide, by decide, by decide⟩, _, 5, rfl, rfl, ⟨by decide, by decide +kernel⟩, _, _, rfl, rfl, big, .int ns[k], rfl, _, rfl, 10, 18, rfl, rfl, ⟨by decide, by decide, by decide⟩, _, _, rfl, rfl, .inr ⟨_, rfl, _, _, rfl, rfl, .inr (one _), ?_⟩⟩
      refine ⟨_, rfl, .int ns[k], rfl, _, 2305843009213693951, rfl, rfl, (show (0 : Int) < 2305843009213693951 by decide), .int k, rfl, 7919, k, rfl, rfl, .inl ⟨by decide, by decide⟩, .int k, rfl, _, k, rfl, rfl, .inr k1, _, _, rfl, rfl, _, 17, rfl, rfl, _, 48271, rfl, rfl, .inr ⟨by decide, by decide⟩, _, 2305843009213693921, rfl, rfl, (show (0 : Int) < 2305843009213693921 by decide), (show 3 ≤ sizeLine by decide), fun p np => ?_⟩
      exact q _ p (same_new np) np ⟨_, _, 0, upd_same, nn _ _, Int.le_refl _, Int.le_refl _⟩
    · refine ⟨.int k, rfl, 7, _, rfl, rfl, .inl ⟨by decide, by decide⟩, _, 3, rfl, rfl, ?_⟩
      refine ⟨_, rfl, _, rfl, 10, 60, rfl, rfl, ⟨by decide, by decide, by decide⟩, _, 5, rfl, rfl, ⟨by decide, by decide +kernel⟩, _, _, rfl, rfl, big, _, rfl, _, rfl, 10, 18, rfl, rfl, ⟨by decide, by decide, by decide⟩, _, _, rfl, rfl, .inr ⟨_, rfl, _, _, rfl, rfl, .inr (one _), ?_⟩⟩
      refine ⟨_, rfl, _, rfl, _, 2305843009213693951, rfl, rfl, (show (0 : Int) < 2305843009213693951 by decide), .int k, rfl, 7919, k, rfl, rfl, .inl ⟨by decide, by decide⟩, .int k, rfl, _, k, rfl, rfl, .inr k1, _, _, rfl, rfl, _, 17, rfl, rfl, _, 48271, rfl, rfl, .inr ⟨by decide, by decide⟩, _, 2305843009213693921, rfl, rfl, (show (0 : Int) < 2305843009213693921 by decide), (show 3 ≤ sizeLine by decide), fun p np => ?_⟩
      exact q _ p (same_new np) np ⟨_, _, 0, upd_same, nn _ _, Int.le_refl _, Int.le_refl _⟩

/-- a drawn number -/
def spTake : Sp := fun vs H Q _ => ∃ (a : Addr) (m : Int) (c : Nat), vs = [.ref a, .int m] ∧ PotAt H a c ∧ 1 ≤ m ∧ m < 2 ^ 200 ∧ c < 1000000 ∧
  ∀ (d : Int) H', But a H H' → PotAt H' a (c + 1) → 0 ≤ d → d < m → Q (.int d) H'
theorem ok_take {f : Addr} {fd : FuncData} {k : Nat} (F : Fun K "_law_take" "_law_take" sTake f fd) : FnOk P w K mg base CX0 (k + 1) f fd ["_law_pot_here", "_law_many"] spTake := by
  refine F.ok scTake (fun vs H Q E h => ?_) (fun cdv A outer s H vs Q E hr h => ?_)
  · obtain ⟨a, m, c, rfl, _⟩ := h
    rfl
  · obtain ⟨a, m, c, rfl, ⟨p0, p1, p2, ea, n0, n2, l2⟩, m1, m2, hc, q⟩ := h
    refine ⟨_, pss_cons (ps_if (pt_cmpR op_gt (pe_ix ix_list (pv 0) pe_int (fun _ _ => rfl)) pe_int (nomark _))
        (pss_cons (ps_set (i := 2) scTake.nd rfl (.inl rfl) (pe_op op_mod (pe_ix ix_list (pv 0) pe_int (fun _ _ => rfl)) (pv 1)))
        (pss_cons (ps_asg (pe_op op_fdivW (pe_ix ix_list (pv 0) pe_int (fun _ _ => rfl)) (pv 1)) (pg_sub (pv 0) pe_int set_list))
        (pss_one (ps_ret (pv 2))))) pss_nil)
      (pss_cons (ps_asg (pe_op op_add (pe_ix ix_list (pv 0) pe_int (fun _ _ => rfl)) pe_int) (pg_sub (pv 0) pe_int set_list))
      (pss_cons (ps_set (i := 3) scTake.nd rfl (.inl rfl) (pe_ix ix_list (pe_lst (pa_cons pe_int (pa_cons pe_int (pa_cons pe_int (pa_cons pe_int pa_nil))))) (pe_op op_mod (pe_ix ix_list (pv 0) pe_int (fun _ _ => rfl)) pe_int) (fun _ _ => rfl)))
      (pss_cons (ps_set (i := 4) scTake.nd rfl (.inl rfl) (pe_op op_mod (pe_op op_add (pe_op op_add (pe_ix ix_list (pv 0) pe_int (fun _ _ => rfl)) (pe_op op_mul (pe_op op_mul pe_int (pe_ix ix_list (pv 0) pe_int (fun _ _ => rfl))) (pe_ix ix_list (pv 0) pe_int (fun _ _ => rfl)))) (pe_op op_mul pe_int (pe_ix ix_list (pv 0) pe_int (fun _ _ => rfl)))) (pv 3)))
      (pss_cons (ps_set (i := 4) scTake.nd rfl (.inl rfl) (pe_op op_mod (pe_op op_pow (pv 4) pe_int) (pv 3)))
      (pss_one (ps_ret (pe_op op_mod (pe_op op_add (pe_op op_fdiv (pv 4) pe_int) (pe_op op_mul (pe_op op_fdiv (pv 4) pe_int) pe_int)) (pv 1)))))))), ?_⟩
    have mpos : (0 : Int) < m := by omega
    refine ⟨.ref a, rfl, a, _, 0, .int p0, rfl, rfl, .inl (.inl ea), atI_nat (j := 0) rfl, _, 0, rfl, rfl, _, rfl, ite2 (fun _ => ?_) (fun _ => ?_)⟩
    · refine ⟨.ref a, rfl, a, _, 0, .int p0, rfl, rfl, .inl (.inl ea), atI_nat (j := 0) rfl, .int m, rfl, p0, m, rfl, rfl, mpos, ?_⟩
      refine ⟨.ref a, rfl, a, _, 0, .int p0, rfl, rfl, .inl (.inl ea), atI_nat (j := 0) rfl, .int m, rfl, p0, m, rfl, rfl, wide_div (b := 200) mpos (by omega) (by decide) (by decide), ?_⟩
      refine ⟨.ref a, rfl, a, _, 0, 0, rfl, rfl, ea, rfl, ?_⟩
      refine ⟨.int (p0 % m), rfl, ?_⟩
      refine q _ _ (but_at (fun _ _ _ e => e)) ⟨p0 / m, p1, p2, upd_same, Int.ediv_nonneg n0 (by omega), n2, by omega⟩ (Int.emod_nonneg _ (by omega)) (Int.emod_lt_of_pos _ mpos)
    · refine ⟨.ref a, rfl, a, _, 2, .int p2, rfl, rfl, .inl (.inl ea), atI_nat (j := 2) rfl, p2, 1, rfl, rfl, ?_⟩
      refine ⟨.ref a, rfl, a, _, 2, 2, rfl, rfl, ea, rfl, ?_⟩
      obtain ⟨pr, epr, pp, pl⟩ := prime_at ((p2 + 1) % 4) (Int.emod_nonneg _ (by decide)) (Int.emod_lt_of_pos _ (by decide))
      have ea2 : (upd H a (.lst [.int p0, .int p1, .int (p2 + 1)])) a = some (.lst [.int p0, .int p1, .int (p2 + 1)]) := upd_same
      refine ⟨(show 4 ≤ sizeLine by decide), fun l nl => ?_⟩
      have nla : a ≠ l := ne_of_none ea2 nl
      have ea3 : (upd (upd H a (.lst [.int p0, .int p1, .int (p2 + 1)])) l (.lst [V.int 2305843009213693951, V.int 999999999989, V.int 1000000000039, V.int 67280421310721])) a = some (.lst [.int p0, .int p1, .int (p2 + 1)]) := (upd_ne nla).trans ea2
      refine ⟨.ref a, rfl, a, _, 2, .int (p2 + 1), rfl, rfl, .inl (.inl ea3), atI_nat (j := 2) rfl, p2 + 1, 4, rfl, rfl, (show (0 : Int) < 4 by decide), l, _, (p2 + 1) % 4, .int pr, rfl, rfl, .inl (.inl upd_same), epr, ?_⟩
      have b2 : -(2 ^ 64) < p2 + 1 ∧ p2 + 1 < 2 ^ 64 := by omega
      refine ⟨.ref a, rfl, a, _, 1, .int p1, rfl, rfl, .inl (.inl ea3), atI_nat (j := 1) rfl, .ref a, rfl, a, _, 2, .int (p2 + 1), rfl, rfl, .inl (.inl ea3), atI_nat (j := 2) rfl, 7919, p2 + 1, rfl, rfl, .inl ⟨by decide, by decide⟩, .ref a, rfl, a, _, 2, .int (p2 + 1), rfl, rfl, .inl (.inl ea3), atI_nat (j := 2) rfl, _, p2 + 1, rfl, rfl, .inr b2, _, _, rfl, rfl,
        .ref a, rfl, a, _, 2, .int (p2 + 1), rfl, rfl, .inl (.inl ea3), atI_nat (j := 2) rfl, 65537, p2 + 1, rfl, rfl, .inl ⟨by decide, by decide⟩, _, _, rfl, rfl, .int pr, rfl, _, pr, rfl, rfl, pp, ?_⟩
      have mx : ∀ e : Int, (e % pr).natAbs < 2 ^ 64 := fun e => by
        have h1 := Int.emod_nonneg e (Int.ne_of_gt pp)
        have h2 := Int.emod_lt_of_pos e pp
        omega
      refine ⟨_, rfl, _, 5, rfl, rfl, ⟨by decide, by decide, mx _⟩, .int pr, rfl, _, pr, rfl, rfl, pp, ?_⟩
      refine ⟨_, rfl, _, 4099, rfl, rfl, ⟨by decide, by decide⟩, _, rfl, _, 1000003, rfl, rfl, ⟨by decide, by decide⟩, _, 7, rfl, rfl, .inr ⟨by decide, by decide⟩, _, _, rfl, rfl, .int m, rfl, _, m, rfl, rfl, mpos, ?_⟩
      refine q _ _ ?_ ⟨p0, p1, p2 + 1, ea3, n0, by omega, by omega⟩ (Int.emod_nonneg _ (by omega)) (Int.emod_lt_of_pos _ mpos)
      exact but_new (but_at (fun _ _ _ e => e)) (by rw [upd_ne nla.symm] at nl; exact nl)
end

/-- a def that is known by its promise -/
structure Kn (P : Program) (w : World) (K : PySem.W.Frag) (mg : Str → Option Value) (base : Heap) (k : Nat) (x : Str) (ps : List Str) (sp : Sp) (f : Addr) (fd : FuncData) : Prop where
  ok : FnOk P w K mg base CX0 k f fd ps sp
  gl : mg x = some (.ref f)
  kp : PySem.W.keepIn K (.ref f) = true
  bi : Binds K fd ps []
theorem pe_kn {X : Cx} {k j : Nat} {x : Str} {ps : List Str} {sp : Sp} {f : Addr} {fd : FuncData} {p pos : Pos} {e : Expr} {es : List Expr} {t : TA} (C : Kn X.prog X.w X.K X.mg X.base k x ps sp f fd) (hr : Room j X.A) (hj : k ≤ j) (ha : PA X (e :: es) t) (hg : Gl X x := by rfl) (hdb : (x == ("__debug__" : Str)) = false := by decide)
    (he : starEach (e :: es) X.env = (false, eval e X.env) :: starEach es X.env := by rfl) (hpl : (backTo pos (starEach es X.env)).any (·.1) = false := by rfl) :
    PE X (.Call (.Name x p) (e :: es) [] pos) (tCall sp [] E0 t) := pe_call C.ok (hr.mono hj) hg C.gl C.kp C.bi .nil pass0 ha hdb he hpl

theorem But.tupP {K : PySem.W.Frag} {a t : Addr} {H H' : Hp} {c : Nat} {xs : List V} (b : But a H H') (p : PotAt H a c) (q : SqT K H t xs) : SqT K H' t xs := by
  obtain ⟨_, _, _, e, _⟩ := p
  rcases q with (q | ⟨o, q⟩) | q
  · exact .inl (.inl (b _ _ (ne_of q e (by intro z; cases z)) q))
  · exact .inl (.inr ⟨o, b _ _ (ne_of q e (by intro z; cases z)) q⟩)
  · exact .inr q
/-- places, or tops -/
def Pl (xs : List Int) : Prop := ∀ x ∈ xs, 0 ≤ x ∧ x < 10 ^ 30
theorem Pl.snoc {xs : List Int} {x : Int} (h : Pl xs) (h0 : 0 ≤ x) (h1 : x < 10 ^ 30) : Pl (xs ++ [x]) := fun y hy => by
  rcases List.mem_append.mp hy with q | q
  · exact h y q
  · rw [List.mem_singleton.mp q]
    exact ⟨h0, h1⟩

section
variable {P : Program} {w : World} {K : PySem.W.Frag} {mg : Str → Option Value} {base : Heap}

/-- one of some -/
def spOf (K : PySem.W.Frag) : Sp := fun vs H Q _ => ∃ (a l : Addr) (xs : List V) (c : Nat), vs = [.ref a, .ref l] ∧ PotAt H a c ∧ l ≠ a ∧ (SqL K H l xs ∨ SqT K H l xs) ∧ 1 ≤ xs.length ∧ xs.length ≤ 1000000 ∧ c < 1000000 ∧
  ∀ x H', x ∈ xs → But a H H' → PotAt H' a (c + 1) → Q x H'
theorem ok_of {f fT : Addr} {fd fdT : FuncData} {k : Nat} (F : Fun K "_law_of" "_law_of" sOf f fd) (T : Kn P w K mg base 1 "_law_take" ["_law_pot_here", "_law_many"] spTake fT fdT) (ml : mg "len" = none) : FnOk P w K mg base CX0 (k + 2) f fd ["_law_pot_here", "_law_some"] (spOf K) := by
  refine F.ok scOf (fun vs H Q E h => ?_) (fun cdv A outer s H vs Q E hr h => ?_)
  · obtain ⟨a, l, xs, c, rfl, _⟩ := h
    rfl
  · obtain ⟨a, l, xs, c, rfl, pa, ne, hl, l1, l2, hc, q⟩ := h
    refine ⟨_, pss_one (ps_ret (pe_ix ix_seq (pv 1) (pe_kn T hr (Nat.le_add_left 1 k) (pa_cons (pv 0) (pa_cons (pe_callB call_len_seq (by rfl) ml PySem.boot_len (pa_cons (pv 1) pa_nil)) pa_nil))) (fun _ _ => rfl))), ?_⟩
    refine ⟨.ref l, rfl, .ref a, rfl, .ref l, rfl, l, xs, rfl, hl, a, _, c, rfl, pa, by omega, ?_, hc, fun d H' b p' d0 dm => ?_⟩
    · have : (xs.length : Int) ≤ 1000000 := by omega
      exact Int.lt_of_le_of_lt this (by decide)
    have lt : d.toNat < xs.length := by omega
    have ei : atI xs d = some xs[d.toNat] := by
      have := atI_nat (xs := xs) (j := d.toNat) (List.getElem?_eq_getElem lt)
      rwa [Int.toNat_of_nonneg d0] at this
    have fin := q xs[d.toNat] H' (List.getElem_mem lt) b p'
    rcases hl with h | h
    · exact .inl ⟨l, xs, d, _, rfl, rfl, b.seq ne h, ei, fin⟩
    · exact .inr (.inl ⟨l, xs, d, _, rfl, rfl, b.tup ne h, ei, fin⟩)

/-- none beyond its top -/
def Le (st tops : List Int) : Prop := ∀ (i : Nat) (x t : Int), st[i]? = some x → tops[i]? = some t → x ≤ t
theorem Le.snoc {st tops : List Int} {x t : Int} (h : Le st tops) (e : tops[st.length]? = some t) (l : x ≤ t) : Le (st ++ [x]) tops := fun i y u h1 h2 => by
  rcases Nat.lt_or_ge i st.length with q | q
  · rw [List.getElem?_append_left q] at h1
    exact h i y u h1 h2
  · rw [List.getElem?_append_right q] at h1
    have e0 : i - st.length = 0 := by
      rcases Nat.eq_zero_or_pos (i - st.length) with z | z
      · exact z
      · rw [List.getElem?_eq_none (by simp only [List.length_cons, List.length_nil]; omega)] at h1
        cases h1
    have ei : i = st.length := by omega
    subst ei
    rw [e0] at h1
    cases h1
    rw [e] at h2
    cases h2
    exact l
/-- a standing -/
def spStand (K : PySem.W.Frag) : Sp := fun vs H Q _ => ∃ (a t : Addr) (tops : List Int) (c : Nat), vs = [.ref a, .ref t] ∧ PotAt H a c ∧ SqT K H t (tops.map V.int) ∧ Pl tops ∧ tops.length ≤ 12 ∧ c < 900000 ∧
  ∀ H' p st, But a H H' → PotAt H' a (c + 12) → H p = none → H' p = some (.tup (st.map V.int)) → st.length = tops.length → Pl st → Le st tops → Q (.ref p) H'
theorem ok_stand {f fT : Addr} {fd fdT : FuncData} {k : Nat} (F : Fun K "_law_standing" "_law_standing" sStand f fd) (T : Kn P w K mg base 1 "_law_take" ["_law_pot_here", "_law_many"] spTake fT fdT) (mt : mg "tuple" = none) : FnOk P w K mg base CX0 (k + 2) f fd ["_law_pot_here", "_law_tops"] (spStand K) := by
  refine F.ok scStand (fun vs H Q E h => ?_) (fun cdv A outer s H vs Q E hr h => ?_)
  · obtain ⟨a, t, tops, c, rfl, _⟩ := h
    rfl
  · obtain ⟨a, t, tops, c, rfl, pa, ht, pl, l12, hc, q⟩ := h
    refine ⟨_, pss_one (ps_ret (pe_callTy call_tuple_of (by rfl) mt (by decide +kernel) (pa_cons
      (pe_lc (own := [("_law_top", 2)]) (g := gName 2) (tt := tYes) rfl scStand.nd (pi_tup (pv 1)) (blkOk_by (N := ["_law_pot_here", "_law_tops", "_law_top"]) (sc := defScope sStand) (by decide +kernel))
        (fun _ _ _ _ _ => pg_name (i := 2) scStand.nd rfl (.inl rfl) (hf := .inr rfl)) (fun _ _ _ _ _ => pts_nil)
        (fun _ _ _ _ _ => pe_kn T hr (Nat.le_add_left 1 k) (pa_cons (pv 0) (pa_cons (pe_op op_add (pv 2) pe_int) pa_nil)))) pa_nil))), ?_⟩
    refine ⟨.ref t, rfl, t, rfl, ⟨_, ht⟩, fun D nD => lc_it (walk_tup (xs := tops.map V.int)) (fun i H' => But a H H' ∧ PotAt H' a (c + i) ∧ ∃ st : List Int, H' D = some (.lst (st.map V.int)) ∧ st.length = i ∧ Pl st ∧ Le st tops)
      ⟨but_new (fun _ _ _ e => e) nD, pa.keep (same_new nD), [], upd_same, rfl, fun _ h => absurd h List.not_mem_nil, fun i x t h => by simp at h⟩ (fun i H' _ p => p.1.tupP pa ht) (fun i v H1 H2 hi p y => ?_) (fun H' p => ?_)⟩
    · obtain ⟨b, p1, st, eD, sl, sp, sle⟩ := p
      obtain ⟨rfl, gv⟩ := y
      obtain ⟨x, ex, rfl⟩ := mapGet gv
      have hx := pl x (List.mem_of_getElem? ex)
      have hi' : i < tops.length := by simpa using hi
      refine ⟨rfl, .ref a, rfl, .int x, rfl, x, 1, rfl, rfl, a, x + 1, c + i, rfl, p1, by omega, ?_, by omega, fun d H3 b3 p3 d0 dm => ?_⟩
      · have : x + 1 ≤ 10 ^ 30 := by omega
        exact Int.lt_of_le_of_lt this (by decide)
      have nDa : D ≠ a := pa.ne nD
      refine ⟨_, b3 _ _ nDa eD, ?_, but_new (b.trans b3) nD, ?_, st ++ [d], ?_, ?_, sp.snoc d0 (by omega), sle.snoc (by rw [sl]; exact ex) (by omega)⟩
      · rw [List.length_map]
        exact small1000 (by omega)
      · obtain ⟨u, v, r, e, z⟩ := p3
        exact ⟨u, v, r, (upd_ne nDa.symm).trans e, z⟩
      · rw [upd_same, List.map_append]
        rfl
      · rw [List.length_append, sl]
        rfl
    · obtain ⟨b, p1, st, eD, sl, sp, sle⟩ := p
      rw [List.length_map] at p1 sl
      refine ⟨D, _, rfl, .inl ⟨.inl (.inl eD), fun l nl => ?_⟩⟩
      have nla : l ≠ a := p1.ne nl
      have nlH : H l = none := b.free nla nl
      refine q _ l st (but_new b nlH) (((p1.mono (by omega)).keep (same_new nl))) nlH upd_same sl sp sle
end

section
variable {P : Program} {w : World} {K : PySem.W.Frag} {mg : Str → Option Value} {base : Heap}

theorem pot_upd {H : Hp} {a p : Addr} {c : Nat} {o : HO} (h : PotAt H a c) (n : p ≠ a) : PotAt (upd H p o) a c := by
  obtain ⟨x, y, z, e, r⟩ := h
  exact ⟨x, y, z, (upd_ne n.symm).trans e, r⟩
theorem e15 : (10 : Int) ^ (15 : Int).toNat = 1000000000000000 := by decide
theorem e30 : (10 : Int) ^ (30 : Int).toNat = 10 ^ 30 := by decide

end
end K18

set_option Elab.async false
set_option linter.all false
set_option maxRecDepth 100000
namespace K18
open PySem PySem.Spec PyProof.Rows L2 NB

/-! ### what stands though lists change -/
/-- all but lists stands -/
def Keep (H H' : Hp) : Prop := ∀ b o, (∀ xs, o ≠ .lst xs) → H b = some o → H' b = some o
theorem Keep.refl (H : Hp) : Keep H H := fun _ _ _ e => e
theorem Keep.trans {H H1 H2 : Hp} (a : Keep H H1) (b : Keep H1 H2) : Keep H H2 := fun c o n e => b c o n (a c o n e)
theorem Keep.same {H H' : Hp} (h : Same H H') : Keep H H' := fun b o _ e => h b o e
theorem Keep.but {a : Addr} {H H' : Hp} {c : Nat} (h : But a H H') (p : PotAt H a c) : Keep H H' := fun b o n e => by
  obtain ⟨x, y, z, ea, _⟩ := p
  exact h b o (fun q => n _ (by rw [q, ea] at e; exact (Option.some.inj e).symm)) e
theorem Keep.upd {H : Hp} {l : Addr} {o : HO} {xs : List V} (e : H l = some (.lst xs)) : Keep H (upd H l o) := fun b x n q => by
  rw [upd_ne (fun z => n xs (by rw [z, e] at q; exact (Option.some.inj q).symm))]
  exact q
theorem Keep.tup {H H' : Hp} {p : Addr} {xs : List V} (k : Keep H H') (e : H p = some (.tup xs)) : H' p = some (.tup xs) := k _ _ (fun _ q => by cases q) e
theorem Keep.sq {K : PySem.W.Frag} {H H' : Hp} {p : Addr} {xs : List V} (k : Keep H H') (e : SqT K H p xs) : SqT K H' p xs := by
  rcases e with (q | ⟨o, q⟩) | q
  · exact .inl (.inl (k _ _ (fun _ q => by cases q) q))
  · exact .inl (.inr ⟨o, k _ _ (fun _ q => by cases q) q⟩)
  · exact .inr q

/-! ### sides, rules, plans as data and as objects -/
abbrev Sd := Nat × Bool × Int
abbrev Rl := Sd × Sd
def word (b : Bool) : Str := if b then "from" else "to"
def SideAt (H : Hp) (p : Addr) (s : Sd) : Prop := H p = some (.tup [.int s.1, .str (word s.2.1), .int s.2.2])
def RuleAt (H : Hp) (r : Addr) (q : Rl) : Prop := ∃ p1 p2, H r = some (.tup [.ref p1, .ref p2]) ∧ SideAt H p1 q.1 ∧ SideAt H p2 q.2
def RulesAt (H : Hp) (R : Addr) (rs : List Rl) : Prop := ∃ as : List Addr, H R = some (.tup (as.map V.ref)) ∧ as.length = rs.length ∧ ∀ (i : Nat) (r : Addr) (q : Rl), as[i]? = some r → rs[i]? = some q → RuleAt H r q
def PlanAt (C : Addr) (H : Hp) (x : Addr) (tops : List Int) (rs : List Rl) : Prop := ∃ dx t R, H x = some (.ins C dx [("tops", .ref t), ("rules", .ref R)]) ∧ H t = some (.tup (tops.map V.int)) ∧ RulesAt H R rs
theorem SideAt.keep {H H' : Hp} {p : Addr} {s : Sd} (h : SideAt H p s) (k : Keep H H') : SideAt H' p s := k.tup h
theorem RuleAt.keep {H H' : Hp} {p : Addr} {q : Rl} (h : RuleAt H p q) (k : Keep H H') : RuleAt H' p q := by
  obtain ⟨p1, p2, e, h1, h2⟩ := h
  exact ⟨p1, p2, k.tup e, h1.keep k, h2.keep k⟩
theorem RulesAt.keep {H H' : Hp} {R : Addr} {rs : List Rl} (h : RulesAt H R rs) (k : Keep H H') : RulesAt H' R rs := by
  obtain ⟨as, e, l, a⟩ := h
  exact ⟨as, k.tup e, l, fun i r q h1 h2 => (a i r q h1 h2).keep k⟩
theorem PlanAt.keep {C : Addr} {H H' : Hp} {x : Addr} {tops : List Int} {rs : List Rl} (h : PlanAt C H x tops rs) (k : Keep H H') : PlanAt C H' x tops rs := by
  obtain ⟨dx, t, R, e, et, er⟩ := h
  exact ⟨dx, t, R, k _ _ (fun _ q => by cases q) e, k.tup et, er.keep k⟩
/-- a side of the plan -/
def SideOk (tops : List Int) (s : Sd) : Prop := ∃ t, tops[s.1]? = some t ∧ 0 ≤ s.2.2 ∧ s.2.2 ≤ t
def RuleOk (tops : List Int) (q : Rl) : Prop := SideOk tops q.1 ∧ SideOk tops q.2
theorem word_in (b : Bool) : inV (.str (word b)) [.str "from", .str "to"] = true := by cases b <;> decide +kernel
theorem word_from : word true = "from" := rfl

abbrev kWhole : Stmt := topS 9
abbrev kPlace : Stmt := topS 10
abbrev kTops : Stmt := topS 11
abbrev kSide : Stmt := topS 12
abbrev kSides : Stmt := topS 13
abbrev kRule : Stmt := topS 14
abbrev kRules : Stmt := topS 15
abbrev kInit : Stmt := inClass (topS 59) 0
theorem scWhole : FnScope ["thing"] ["thing"] (defScope kWhole) := ⟨rfl, rfl, rfl, by decide +kernel, rfl, by decide +kernel, by decide +kernel⟩
theorem scPlace : FnScope ["top", "thing"] ["top", "thing"] (defScope kPlace) := ⟨rfl, rfl, rfl, by decide +kernel, rfl, by decide +kernel, by decide +kernel⟩
theorem scTops : FnScope ["thing", "top"] ["thing"] (defScope kTops) := ⟨rfl, rfl, rfl, by decide +kernel, rfl, by decide +kernel, by decide +kernel⟩
theorem scSide : FnScope ["tops", "thing", "number", "word", "place"] ["tops", "thing"] (defScope kSide) := ⟨rfl, rfl, rfl, by decide +kernel, rfl, by decide +kernel, by decide +kernel⟩
theorem scSides : FnScope ["tops", "thing", "side"] ["tops", "thing"] (defScope kSides) := ⟨rfl, rfl, rfl, by decide +kernel, rfl, by decide +kernel, by decide +kernel⟩
theorem scRule : FnScope ["tops", "thing"] ["tops", "thing"] (defScope kRule) := ⟨rfl, rfl, rfl, by decide +kernel, rfl, by decide +kernel, by decide +kernel⟩
theorem scRules : FnScope ["tops", "thing", "rule"] ["tops", "thing"] (defScope kRules) := ⟨rfl, rfl, rfl, by decide +kernel, rfl, by decide +kernel, by decide +kernel⟩
theorem scInit : FnScope ["self", "tops", "rules"] ["self", "tops", "rules"] (defScope kInit) := ⟨rfl, rfl, rfl, by decide +kernel, rfl, by decide +kernel, by decide +kernel⟩

section
variable {P : Program} {w : World} {K : PySem.W.Frag} {mg : Str → Option Value} {base : Heap}

def spWhole : Sp := fun vs H Q _ => ∃ i : Int, vs = [.int i] ∧ Q (.bl true) H
theorem ok_whole {f : Addr} {fd : FuncData} {k : Nat} (F : Fun K "is_whole" "is_whole" kWhole f fd) (ms : mg "isinstance" = none) (mi : mg "int" = none) (mb : mg "bool" = none) : FnOk P w K mg base CX0 (k + 1) f fd ["thing"] spWhole := by
  refine F.ok scWhole (fun vs H Q E h => ?_) (fun cdv A outer s H vs Q E hr h => ?_)
  · obtain ⟨i, rfl, _⟩ := h
    rfl
  · obtain ⟨i, rfl, q⟩ := h
    refine ⟨_, pss_one (ps_ret (pe_and (pe_callB call_isi (by rfl) ms (by decide +kernel) (pa_cons (pv 0) (pa_cons (pe_bltn (v := .ty "int") (u := .type "int") (by rfl) mi (by decide +kernel) rfl) pa_nil)))
      (pe_one (pe_not (pe_callB call_isi (by rfl) ms (by decide +kernel) (pa_cons (pv 0) (pa_cons (pe_bltn (v := .ty "bool") (u := .type "bool") (by rfl) mb (by decide +kernel) rfl) pa_nil))))))), ?_⟩
    refine ⟨.int i, rfl, _, _, _, _, true, rfl, .ty "int", .base (.int i), kit_ty (by decide +kernel), true, rfl, iteT ?_⟩
    exact ⟨.int i, rfl, _, _, _, _, false, rfl, .ty "bool", .base (.int i), kit_ty (by decide +kernel), false, rfl, q⟩

def spPlace : Sp := fun vs H Q _ => ∃ t i : Int, vs = [.int t, .int i] ∧ Q (.bl (decide (0 ≤ i) && decide (i ≤ t))) H
theorem ok_place {f fW : Addr} {fd fdW : FuncData} {k : Nat} (F : Fun K "is_place" "is_place" kPlace f fd) (W : Kn P w K mg base 1 "is_whole" ["thing"] spWhole fW fdW) : FnOk P w K mg base CX0 (k + 2) f fd ["top", "thing"] spPlace := by
  refine F.ok scPlace (fun vs H Q E h => ?_) (fun cdv A outer s H vs Q E hr h => ?_)
  · obtain ⟨t, i, rfl, _⟩ := h
    rfl
  · obtain ⟨t, i, rfl, q⟩ := h
    refine ⟨_, pss_one (ps_ret (pe_and (pe_kn W hr (by omega) (pa_cons (pv 1) pa_nil)) (pe_one (pe_chain op_le op_le pe_int (pv 1) (pv 0))))), ?_⟩
    refine ⟨.int i, rfl, i, rfl, true, rfl, iteT ?_⟩
    refine ⟨.int i, rfl, 0, i, rfl, rfl, _, rfl, ite2 (fun c => ?_) (fun c => ?_)⟩
    · rw [show decide (0 ≤ i) = true from c, Bool.true_and] at q
      exact ⟨.int t, rfl, i, t, rfl, rfl, q⟩
    · rw [Bool.eq_false_iff.mpr c, Bool.false_and] at q
      exact q

def spTops (K : PySem.W.Frag) : Sp := fun vs H Q _ => ∃ (a : Addr) (tops : List Int), vs = [.ref a] ∧ H a = some (.tup (tops.map V.int)) ∧ 1 ≤ tops.length ∧ tops.length ≤ 12 ∧ Pl tops ∧ ∀ H', Same H H' → Q (.bl true) H'
theorem ok_tops {f fP : Addr} {fd fdP : FuncData} {k : Nat} {t1 t2 : Tok} (F : Fun K "are_tops" "are_tops" kTops f fd) (Pc : Kn P w K mg base 2 "is_place" ["top", "thing"] spPlace fP fdP) (ms : mg "isinstance" = none) (mt : mg "tuple" = none) (ml : mg "len" = none) (ma : mg "all" = none)
    (g1 : mg "MOST_THINGS" = some (.int 12 t1)) (g2 : mg "BEYOND_THIRTY_FIGURES" = some (.int 1000000000000000000000000000000 t2)) : FnOk P w K mg base CX0 (k + 3) f fd ["thing"] (spTops K) := by
  refine F.ok scTops (fun vs H Q E h => ?_) (fun cdv A outer s H vs Q E hr h => ?_)
  · obtain ⟨a, tops, rfl, _⟩ := h
    rfl
  · obtain ⟨a, tops, rfl, ea, l1, l12, pl, q⟩ := h
    refine ⟨_, pss_cons (ps_if (PW.pt (pw_or (pt_not (pt_val (pe_callB call_isi (by rfl) ms (by decide +kernel) (pa_cons (pv 0) (pa_cons (pe_bltn (v := .ty "tuple") (u := .type "tuple") (by rfl) mt (by decide +kernel) rfl) pa_nil)))))
        (pw_or1 (pt_not (pt_chain op_le op_le pe_int (pe_callB call_len_seq (by rfl) ml PySem.boot_len (pa_cons (pv 0) pa_nil)) (pe_glob (v := .int 12) rfl g1 ⟨_, rfl⟩)))))) (pss_one (ps_ret pe_bl)) pss_nil)
      (pss_one (ps_ret (pe_callB (cr_all rfl) (by rfl) ma (by decide +kernel) (pa_cons
        (pe_lc (own := [("top", 1)]) (g := gName 1) (tt := tYes) (te := tCall spPlace [] E0 (tCons (tOp (rI0 fun i j => .int (i - j)) (tC (.int 1000000000000000000000000000000)) (tC (.int 1))) (tCons (tVar 1) tNil))) rfl scTops.nd (pi_tup (pv 0)) (blkOk_by (N := ["thing", "top"]) (sc := defScope kTops) (by decide +kernel))
          (fun _ _ _ _ _ => pg_name (i := 1) scTops.nd rfl (.inl rfl) (hf := .inr rfl)) (fun _ _ _ _ _ => pts_nil)
          (fun _ _ _ _ _ => pe_kn Pc hr (by omega) (pa_cons (pe_op op_sub (pe_glob (v := .int 1000000000000000000000000000000) rfl g2 ⟨_, rfl⟩) pe_int) (pa_cons (pv 1) pa_nil)))) pa_nil)))), ?_⟩
    refine ⟨.ref a, rfl, _, _, _, _, true, rfl, .ty "tuple", .base (.tup ea), kit_ty (by decide +kernel), true, rfl, iteF ?_⟩
    refine ⟨.ref a, rfl, a, _, rfl, .inr (.inl (.inl ea)), 1, _, rfl, rfl, true, ?_, iteT ⟨_, 12, rfl, rfl, true, ?_, iteF ?_⟩⟩
    · rw [List.length_map]
      exact congrArg V.bl (decide_eq_true (by omega))
    · rw [List.length_map]
      exact congrArg V.bl (decide_eq_true (by omega))
    refine ⟨.ref a, rfl, a, rfl, ⟨_, .inl (.inl ea)⟩, fun D nD => lc_it (walk_tup (xs := tops.map V.int)) (fun i H' => Same H H' ∧ H' D = some (.lst ((List.replicate i true).map V.bl))) ⟨same_new nD, upd_same⟩ (fun i H' _ p => .inl (.inl (p.1 _ _ ea))) (fun i v H1 H2 hi p y => ?_) (fun H' p => ?_)⟩
    · obtain ⟨sm, eD⟩ := p
      obtain ⟨rfl, gv⟩ := y
      obtain ⟨x, ex, rfl⟩ := mapGet gv
      have hx := pl x (List.mem_of_getElem? ex)
      have hi' : i < tops.length := by simpa using hi
      refine ⟨rfl, _, _, rfl, rfl, .int x, rfl, _, x, rfl, _, eD, by rw [List.length_map, List.length_replicate]; exact small1000 (by omega), same_over sm nD, ?_⟩
      rw [upd_same, decide_eq_true hx.1, decide_eq_true (show x ≤ 1000000000000000000000000000000 - 1 by have := hx.2; omega), List.replicate_succ', List.map_append]
      rfl
    · obtain ⟨sm, eD⟩ := p
      refine ⟨D, _, rfl, .inl (.inl eD), ?_⟩
      rw [show (List.replicate (tops.map V.int).length true).all id = true by simp]
      exact q H' sm

def spSide (K : PySem.W.Frag) : Sp := fun vs H Q _ => ∃ (t p : Addr) (tops : List Int) (sd : Sd), vs = [.ref t, .ref p] ∧ H t = some (.tup (tops.map V.int)) ∧ SideAt H p sd ∧ SideOk tops sd ∧ Q (.bl true) H
theorem ok_side {f fP wa : Addr} {fd fdP : FuncData} {k : Nat} (F : Fun K "is_side_of" "is_side_of" kSide f fd) (Pc : Kn P w K mg base 2 "is_place" ["top", "thing"] spPlace fP fdP) (ms : mg "isinstance" = none) (mt : mg "tuple" = none) (ml : mg "len" = none) (mr : mg "str" = none)
    (g1 : mg "WORDS" = some (.ref wa)) (hW : ∀ H, SqT K H wa [.str "from", .str "to"]) : FnOk P w K mg base CX0 (k + 3) f fd ["tops", "thing"] (spSide K) := by
  refine F.ok scSide (fun vs H Q E h => ?_) (fun cdv A outer s H vs Q E hr h => ?_)
  · obtain ⟨t, p, tops, sd, rfl, _⟩ := h
    rfl
  · obtain ⟨t, p, tops, ⟨n, b, pl⟩, rfl, et, ep, ⟨tp, eg, p0, p1⟩, q⟩ := h
    have ep' : H p = some (.tup [.int (n : Int), .str (word b), .int pl]) := ep
    have hn : n < tops.length := (List.getElem?_eq_some_iff.mp eg).1
    refine ⟨_, pss_cons (ps_if (PW.pt (pw_or (pt_not (pt_val (pe_callB call_isi (by rfl) ms (by decide +kernel) (pa_cons (pv 1) (pa_cons (pe_bltn (v := .ty "tuple") (u := .type "tuple") (by rfl) mt (by decide +kernel) rfl) pa_nil)))))
        (pw_or1 (pt_cmpR op_ne (pe_callB call_len_seq (by rfl) ml PySem.boot_len (pa_cons (pv 1) pa_nil)) pe_int (nomark _))))) (pss_one (ps_ret pe_bl)) pss_nil)
      (pss_cons (ps_asg (pv 1) (pg_tup (by rfl) (pgs_cons (pg_name (i := 2) scSide.nd rfl (.inl rfl)) (pgs_cons (pg_name (i := 3) scSide.nd rfl (.inl rfl)) (pgs_cons (pg_name (i := 4) scSide.nd rfl (.inl rfl)) pgs_nil)))))
      (pss_cons (ps_if (pt_not (pt_val (pe_kn Pc hr (by omega) (pa_cons (pe_op op_sub (pe_callB call_len_seq (by rfl) ml PySem.boot_len (pa_cons (pv 0) pa_nil)) pe_int) (pa_cons (pv 2) pa_nil))))) (pss_one (ps_ret pe_bl)) pss_nil)
      (pss_one (ps_ret (pe_and (pe_callB call_isi (by rfl) ms (by decide +kernel) (pa_cons (pv 3) (pa_cons (pe_bltn (v := .ty "str") (u := .type "str") (by rfl) mr (by decide +kernel) rfl) pa_nil)))
        (pe_and (pe_cmpR op_in_seq (pv 3) (pe_glob (v := .ref wa) rfl g1 rfl) (by rfl)) (pe_one (pe_kn Pc hr (by omega) (pa_cons (pe_ix ix_tup (pv 0) (pv 2) (fun _ _ => rfl)) (pa_cons (pv 4) pa_nil)))))))))), ?_⟩
    refine ⟨.ref p, rfl, _, _, _, _, true, rfl, .ty "tuple", .base (.tup ep'), kit_ty (by decide +kernel), true, rfl, iteF ?_⟩
    refine ⟨.ref p, rfl, p, _, rfl, .inr (.inl (.inl ep')), rfl, _, rfl, iteNS rfl ?_⟩
    refine ⟨.ref p, rfl, p, _, rfl, .inl (.inl ep'), rfl, _, _, rfl, _, _, rfl, _, _, rfl, rfl, ?_⟩
    refine ⟨.ref t, rfl, t, _, rfl, .inr (.inl (.inl et)), _, 1, rfl, rfl, .int n, rfl, _, n, rfl, true, ?_, iteF ?_⟩
    · rw [List.length_map, decide_eq_true (show (0 : Int) ≤ n by omega), decide_eq_true (show (n : Int) ≤ tops.length - 1 by omega)]
      rfl
    refine ⟨_, rfl, _, _, _, _, true, rfl, .ty "str", .base (.str _), kit_ty (by decide +kernel), true, rfl, iteT ?_⟩
    refine ⟨_, rfl, wa, _, rfl, .inr (hW H), rfl, by decide +kernel, true, ?_, iteT ?_⟩
    · rw [word_in]
      rfl
    refine ⟨.ref t, rfl, .int n, rfl, t, _, n, .int tp, rfl, rfl, .inl (.inl et), atI_nat (by rw [List.getElem?_map, eg]; rfl), .int pl, rfl, tp, pl, rfl, ?_⟩
    rw [decide_eq_true p0, decide_eq_true p1]
    exact q

/-- a run of truths that a comprehension makes -/
theorem all_true (n : Nat) : (List.replicate n true).all id = true := by simp
theorem more_true (n : Nat) : (List.replicate (n + 1) true).map V.bl = (List.replicate n true).map V.bl ++ [V.bl true] := by
  rw [List.replicate_succ', List.map_append]
  rfl

def spSides (K : PySem.W.Frag) : Sp := fun vs H Q _ => ∃ (t r : Addr) (tops : List Int) (as : List Addr), vs = [.ref t, .ref r] ∧ H t = some (.tup (tops.map V.int)) ∧ H r = some (.tup (as.map V.ref)) ∧ as.length ≤ 100 ∧ (∀ p ∈ as, ∃ sd, SideAt H p sd ∧ SideOk tops sd) ∧ ∀ H', Same H H' → Q (.bl true) H'
theorem ok_sides {f fP : Addr} {fd fdP : FuncData} {k : Nat} (F : Fun K "are_sides_of" "are_sides_of" kSides f fd) (Si : Kn P w K mg base 3 "is_side_of" ["tops", "thing"] (spSide K) fP fdP) (ms : mg "isinstance" = none) (mt : mg "tuple" = none) (ma : mg "all" = none) : FnOk P w K mg base CX0 (k + 4) f fd ["tops", "thing"] (spSides K) := by
  refine F.ok scSides (fun vs H Q E h => ?_) (fun cdv A outer s H vs Q E hr h => ?_)
  · obtain ⟨t, r, tops, as, rfl, _⟩ := h
    rfl
  · obtain ⟨t, r, tops, as, rfl, et, er, l, ok, q⟩ := h
    refine ⟨_, pss_one (ps_ret (pe_and (pe_callB call_isi (by rfl) ms (by decide +kernel) (pa_cons (pv 1) (pa_cons (pe_bltn (v := .ty "tuple") (u := .type "tuple") (by rfl) mt (by decide +kernel) rfl) pa_nil)))
      (pe_one (pe_callB (cr_all rfl) (by rfl) ma (by decide +kernel) (pa_cons
        (pe_lc (own := [("side", 2)]) (g := gName 2) (tt := tYes) (te := tCall (spSide K) [] E0 (tCons (tVar 0) (tCons (tVar 2) tNil))) rfl scSides.nd (pi_tup (pv 1)) (blkOk_by (N := ["tops", "thing", "side"]) (sc := defScope kSides) (by decide +kernel))
          (fun _ _ _ _ _ => pg_name (i := 2) scSides.nd rfl (.inl rfl) (hf := .inr rfl)) (fun _ _ _ _ _ => pts_nil)
          (fun _ _ _ _ _ => pe_kn Si hr (by omega) (pa_cons (pv 0) (pa_cons (pv 2) pa_nil)))) pa_nil))))), ?_⟩
    refine ⟨.ref r, rfl, _, _, _, _, true, rfl, .ty "tuple", .base (.tup er), kit_ty (by decide +kernel), true, rfl, iteT ?_⟩
    refine ⟨.ref r, rfl, r, rfl, ⟨_, .inl (.inl er)⟩, fun D nD => lc_it (walk_tup (xs := as.map V.ref)) (fun i H' => Same H H' ∧ H' D = some (.lst ((List.replicate i true).map V.bl))) ⟨same_new nD, upd_same⟩ (fun i H' _ p => .inl (.inl (p.1 _ _ er))) (fun i v H1 H2 hi p y => ?_) (fun H' p => ?_)⟩
    · obtain ⟨sm, eD⟩ := p
      obtain ⟨rfl, gv⟩ := y
      obtain ⟨x, ex, rfl⟩ := mapGet gv
      have hi' : i < as.length := by simpa using hi
      obtain ⟨sd, a1, a2⟩ := ok x (List.mem_of_getElem? ex)
      refine ⟨rfl, .ref t, rfl, .ref x, rfl, t, x, tops, sd, rfl, sm _ _ et, a1.keep (.same sm), a2, _, eD, by rw [List.length_map, List.length_replicate]; exact small1000 (by omega), same_over sm nD, ?_⟩
      rw [upd_same, more_true]
    · obtain ⟨sm, eD⟩ := p
      refine ⟨D, _, rfl, .inl (.inl eD), ?_⟩
      rw [all_true]
      exact q H' sm

def spRule (K : PySem.W.Frag) : Sp := fun vs H Q _ => ∃ (t r : Addr) (tops : List Int) (rl : Rl), vs = [.ref t, .ref r] ∧ H t = some (.tup (tops.map V.int)) ∧ RuleAt H r rl ∧ RuleOk tops rl ∧ ∀ H', Same H H' → Q (.bl true) H'
theorem ok_rule {f fP : Addr} {fd fdP : FuncData} {k : Nat} (F : Fun K "is_rule_of" "is_rule_of" kRule f fd) (Ss : Kn P w K mg base 4 "are_sides_of" ["tops", "thing"] (spSides K) fP fdP) (ml : mg "len" = none) : FnOk P w K mg base CX0 (k + 5) f fd ["tops", "thing"] (spRule K) := by
  refine F.ok scRule (fun vs H Q E h => ?_) (fun cdv A outer s H vs Q E hr h => ?_)
  · obtain ⟨t, r, tops, rl, rfl, _⟩ := h
    rfl
  · obtain ⟨t, r, tops, rl, rfl, et, ⟨p1, p2, er, h1, h2⟩, ok, q⟩ := h
    refine ⟨_, pss_one (ps_ret (pe_and (pe_kn Ss hr (by omega) (pa_cons (pv 0) (pa_cons (pv 1) pa_nil))) (pe_one (pe_cmpR op_eq (pe_callB call_len_seq (by rfl) ml PySem.boot_len (pa_cons (pv 1) pa_nil)) pe_int (nomark _))))), ?_⟩
    refine ⟨.ref t, rfl, .ref r, rfl, t, r, tops, [p1, p2], rfl, et, er, (show 2 ≤ 100 by decide), fun p hp => ?_, fun H' sm => ⟨true, rfl, iteT ?_⟩⟩
    · simp only [List.mem_cons, List.not_mem_nil, or_false] at hp
      rcases hp with e | e <;> rw [e]
      · exact ⟨_, h1, ok.1⟩
      · exact ⟨_, h2, ok.2⟩
    · exact ⟨.ref r, rfl, r, _, rfl, .inr (.inl (.inl (sm _ _ er))), rfl, q H' sm⟩

def spRules (K : PySem.W.Frag) : Sp := fun vs H Q _ => ∃ (t R : Addr) (tops : List Int) (rs : List Rl), vs = [.ref t, .ref R] ∧ H t = some (.tup (tops.map V.int)) ∧ RulesAt H R rs ∧ rs.length ≤ 40 ∧ (∀ q ∈ rs, RuleOk tops q) ∧ ∀ H', Same H H' → Q (.bl true) H'
theorem ok_rules {f fP : Addr} {fd fdP : FuncData} {k : Nat} {t1 : Tok} (F : Fun K "are_rules_of" "are_rules_of" kRules f fd) (Ru : Kn P w K mg base 5 "is_rule_of" ["tops", "thing"] (spRule K) fP fdP) (ms : mg "isinstance" = none) (mt : mg "tuple" = none) (ml : mg "len" = none) (ma : mg "all" = none)
    (g1 : mg "MOST_RULES" = some (.int 40 t1)) : FnOk P w K mg base CX0 (k + 6) f fd ["tops", "thing"] (spRules K) := by
  refine F.ok scRules (fun vs H Q E h => ?_) (fun cdv A outer s H vs Q E hr h => ?_)
  · obtain ⟨t, R, tops, rs, rfl, _⟩ := h
    rfl
  · obtain ⟨t, R, tops, rs, rfl, et, ⟨as, eR, la, ha⟩, l40, ok, q⟩ := h
    refine ⟨_, pss_cons (ps_if (PW.pt (pw_or (pt_not (pt_val (pe_callB call_isi (by rfl) ms (by decide +kernel) (pa_cons (pv 1) (pa_cons (pe_bltn (v := .ty "tuple") (u := .type "tuple") (by rfl) mt (by decide +kernel) rfl) pa_nil)))))
        (pw_or1 (pt_cmpR op_gt (pe_callB call_len_seq (by rfl) ml PySem.boot_len (pa_cons (pv 1) pa_nil)) (pe_glob (v := .int 40) rfl g1 ⟨_, rfl⟩) (nomark _))))) (pss_one (ps_ret pe_bl)) pss_nil)
      (pss_one (ps_ret (pe_callB (cr_all rfl) (by rfl) ma (by decide +kernel) (pa_cons
        (pe_lc (own := [("rule", 2)]) (g := gName 2) (tt := tYes) (te := tCall (spRule K) [] E0 (tCons (tVar 0) (tCons (tVar 2) tNil))) rfl scRules.nd (pi_tup (pv 1)) (blkOk_by (N := ["tops", "thing", "rule"]) (sc := defScope kRules) (by decide +kernel))
          (fun _ _ _ _ _ => pg_name (i := 2) scRules.nd rfl (.inl rfl) (hf := .inr rfl)) (fun _ _ _ _ _ => pts_nil)
          (fun _ _ _ _ _ => pe_kn Ru hr (by omega) (pa_cons (pv 0) (pa_cons (pv 2) pa_nil)))) pa_nil)))), ?_⟩
    refine ⟨.ref R, rfl, _, _, _, _, true, rfl, .ty "tuple", .base (.tup eR), kit_ty (by decide +kernel), true, rfl, iteF ?_⟩
    refine ⟨.ref R, rfl, R, _, rfl, .inr (.inl (.inl eR)), _, 40, rfl, rfl, false, ?_, iteF ?_⟩
    · rw [List.length_map]
      exact congrArg V.bl (decide_eq_false (by omega))
    refine ⟨.ref R, rfl, R, rfl, ⟨_, .inl (.inl eR)⟩, fun D nD => lc_it (walk_tup (xs := as.map V.ref)) (fun i H' => Same H H' ∧ H' D = some (.lst ((List.replicate i true).map V.bl))) ⟨same_new nD, upd_same⟩ (fun i H' _ p => .inl (.inl (p.1 _ _ eR))) (fun i v H1 H2 hi p y => ?_) (fun H' p => ?_)⟩
    · obtain ⟨sm, eD⟩ := p
      obtain ⟨rfl, gv⟩ := y
      obtain ⟨x, ex, rfl⟩ := mapGet gv
      have hi' : i < as.length := by simpa using hi
      have hr' : i < rs.length := by omega
      have eq : rs[i]? = some rs[i] := List.getElem?_eq_getElem hr'
      refine ⟨rfl, .ref t, rfl, .ref x, rfl, t, x, tops, rs[i], rfl, sm _ _ et, (ha i x _ ex eq).keep (.same sm), ok _ (List.getElem_mem hr'), fun H3 s3 => ?_⟩
      have sm3 := sm.trans s3
      refine ⟨_, s3 _ _ eD, by rw [List.length_map, List.length_replicate]; exact small1000 (by omega), same_over sm3 nD, ?_⟩
      rw [upd_same, more_true]
    · obtain ⟨sm, eD⟩ := p
      refine ⟨D, _, rfl, .inl (.inl eD), ?_⟩
      rw [all_true]
      exact q H' sm

/-- what is asked of the class as the top has made it -/
structure PlanTxt (K : PySem.W.Frag) (mg : Str → Option Value) (C : Addr) : Prop where
  cl : Cls K C
  nT : NoAttr K C "tops"
  nR : NoAttr K C "rules"
  mgC : mg "Plan" = some (.ref C)
theorem put_two (t R : Addr) : putF "rules" (V.ref R) (putF "tops" (V.ref t) []) = ([("tops", V.ref t), ("rules", V.ref R)] : List (Str × V)) := by
  have n : ¬ (("tops" : Str) = "rules") := by decide +kernel
  show (if ("tops" : Str) = "rules" then [(("tops" : Str), V.ref R)] else (("tops" : Str), V.ref t) :: putF "rules" (V.ref R) []) = _
  rw [if_neg n]
  rfl
def spInit (C : Addr) : Sp := fun vs H Q _ => ∃ (x dx t R : Addr) (tops : List Int) (rs : List Rl), vs = [.ref x, .ref t, .ref R] ∧ H x = some (.ins C dx []) ∧ H t = some (.tup (tops.map V.int)) ∧ RulesAt H R rs ∧ 1 ≤ tops.length ∧ tops.length ≤ 12 ∧ Pl tops ∧ rs.length ≤ 40 ∧ (∀ q ∈ rs, RuleOk tops q) ∧
  ∀ H', (∀ b o, b ≠ x → H b = some o → H' b = some o) → H' x = some (.ins C dx [("tops", .ref t), ("rules", .ref R)]) → Q .non H'
theorem ok_init {f C fT fR : Addr} {fd fdT fdR : FuncData} {k : Nat} {dvs : List V} {kws : List (Str × V)} (F : FunD K "__init__" "Plan.__init__" (defArgs kInit) (defBody kInit) (defScope kInit) dvs kws f fd) (T : PlanTxt K mg C) (To : Kn P w K mg base 3 "are_tops" ["thing"] (spTops K) fT fdT) (Ru : Kn P w K mg base 6 "are_rules_of" ["tops", "thing"] (spRules K) fR fdR) :
    FnOk P w K mg base CX0 (k + 7) f fd ["self", "tops", "rules"] (spInit C) := by
  refine F.ok scInit (fun vs H Q E h => ?_) (fun cdv A outer s H vs Q E hr h => ?_)
  · obtain ⟨x, dx, t, R, tops, rs, rfl, _⟩ := h
    rfl
  · obtain ⟨x, dx, t, R, tops, rs, rfl, ex, et, eR, l1, l12, pl, l40, ok, q⟩ := h
    refine ⟨_, pss_cons (ps_if (pt_not (pt_val (pe_kn To hr (by omega) (pa_cons (pv 1) pa_nil)))) (pss_one ps_never) pss_nil)
      (pss_cons (ps_if (pt_not (pt_val (pe_kn Ru hr (by omega) (pa_cons (pv 1) (pa_cons (pv 2) pa_nil))))) (pss_one ps_never) pss_nil)
      (pss_cons (ps_fld (pv 0) (pv 1) rfl) (pss_one (ps_fld (pv 0) (pv 2) rfl)))), ?_⟩
    refine ⟨.ref t, rfl, t, tops, rfl, et, l1, l12, pl, fun H1 s1 => ⟨true, rfl, iteF ?_⟩⟩
    refine ⟨.ref t, rfl, .ref R, rfl, t, R, tops, rs, rfl, s1 _ _ et, eR.keep (.same s1), l40, ok, fun H2 s2 => ⟨true, rfl, iteF ?_⟩⟩
    have s02 := s1.trans s2
    refine ⟨.ref t, rfl, .ref x, rfl, x, C, dx, [], rfl, s02 _ _ ex, T.cl, T.nT, (show 0 < 1000 by decide), ?_⟩
    refine ⟨.ref R, rfl, .ref x, rfl, x, C, dx, _, rfl, upd_same, T.cl, T.nR, (show 1 < 1000 by decide), ?_⟩
    refine q _ (fun b o ne e => ?_) ?_
    · rw [upd_ne ne, upd_ne ne]
      exact s02 _ _ e
    · rw [upd_same]
      exact congrArg (fun z => some (HO.ins C dx z)) (put_two t R)
/-- Plan(tops, rules) -/
theorem plan_made {C x dx : Addr} {H : Hp} {t R : Addr} {tops : List Int} {rs : List Rl} {W : VK} {E : XK} (nx : H x = none) (ndx : H dx = none) (ne : dx ≠ x) (et : H t = some (.tup (tops.map V.int))) (eR : RulesAt H R rs) (l1 : 1 ≤ tops.length) (l12 : tops.length ≤ 12) (pl : Pl tops) (l40 : rs.length ≤ 40) (ok : ∀ q ∈ rs, RuleOk tops q)
    (q : ∀ H', Same H H' → PlanAt C H' x tops rs → W .non H') : spInit C [.ref x, .ref t, .ref R] (upd (upd H dx (.own x)) x (.ins C dx [])) W E := by
  have s1 : Same H (upd (upd H dx (.own x)) x (.ins C dx [])) := (same_new ndx).trans (same_new (by rw [upd_ne ne.symm]; exact nx))
  refine ⟨x, dx, t, R, tops, rs, rfl, upd_same, s1 _ _ et, eR.keep (.same s1), l1, l12, pl, l40, ok, fun H' k ex => ?_⟩
  have s2 : Same H H' := fun b o e => k b o (ne_of_none e nx) (s1 b o e)
  exact q H' s2 ⟨dx, t, R, ex, s2 _ _ et, eR.keep (.same s2)⟩
end
end K18

set_option Elab.async false
set_option linter.all false
set_option maxRecDepth 100000
namespace K18
open PySem PySem.Spec PyProof.Rows L2 NB

/-! ### standings -/
def inB (st : List Int) (s : Sd) : Bool := match st[s.1]? with
  | some v => if s.2.1 then decide (s.2.2 ≤ v) else decide (v ≤ s.2.2)
  | none => false
def kept (st : List Int) (q : Rl) : Bool := inB st q.1 || inB st q.2
/-- the numbers of the rules that are broken -/
def brok (st : List Int) (rs : List Rl) : List Int := rs.zipIdx.filterMap fun p => if kept st p.1 then none else some (p.2 : Int)
theorem brok_take (st : List Int) (rs : List Rl) (i : Nat) (q : Rl) (h : rs[i]? = some q) : brok st (rs.take (i + 1)) = brok st (rs.take i) ++ (if kept st q then [] else [(i : Int)]) := by
  have hi : i < rs.length := (List.getElem?_eq_some_iff.mp h).1
  have hl : (rs.take i).length = i := by rw [List.length_take]; omega
  unfold brok
  rw [List.take_add_one, h, List.zipIdx_append, List.filterMap_append, hl]
  congr 1
  show List.filterMap _ [(q, 0 + i)] = _
  simp only [List.filterMap_cons, List.filterMap_nil, Nat.zero_add]
  split <;> split <;> simp_all
theorem brok_len (st : List Int) (rs : List Rl) : (brok st rs).length ≤ rs.length := by
  unfold brok
  refine Nat.le_trans (List.length_filterMap_le _ _) ?_
  rw [List.length_zipIdx]
  exact Nat.le_refl _
theorem brok_nil (st : List Int) (rs : List Rl) : (brok st rs = []) ↔ rs.all (kept st) = true := by
  unfold brok
  rw [List.filterMap_eq_nil_iff, List.all_eq_true]
  constructor
  · intro h q hq
    obtain ⟨i, hi, e⟩ := List.getElem_of_mem hq
    have := h (q, i) (by rw [List.mem_zipIdx_iff_getElem?]; simp [hi, e])
    cases c : kept st q with
    | true => rfl
    | false => rw [c] at this; simp at this
  · rintro h ⟨q, i⟩ hq
    have hm : q ∈ rs := List.mem_of_getElem? (by rw [List.mem_zipIdx_iff_getElem?] at hq; exact hq)
    simp [h q hm]
theorem eqv_ints : ∀ xs ys : List Int, PyData.eqvAll (xs.map PyData.int) (ys.map PyData.int) = decide (xs = ys)
  | [], [] => by simp [PyData.eqvAll]
  | [], _ :: _ => by simp [PyData.eqvAll]
  | _ :: _, [] => by simp [PyData.eqvAll]
  | x :: xs, y :: ys => by
    simp only [List.map_cons, PyData.eqvAll, PyData.eqv, eqv_ints xs ys, List.cons.injEq, Bool.decide_and]
    congr 1
theorem lay_ints : ∀ xs : List Int, PyData.canLayAll0 (xs.map PyData.int) = true
  | [] => rfl
  | x :: xs => by simp only [List.map_cons, PyData.canLayAll0, PyData.canLay0, lay_ints xs, Bool.and_self]
theorem depth_ints : ∀ xs : List Int, PyData.depthAll (xs.map PyData.int) = 0
  | [] => rfl
  | x :: xs => by simp only [List.map_cons, PyData.depthAll, PyData.depth, depth_ints xs, Nat.max_self]
theorem shaped_ints (xs : List Int) : SeqAt.shaped (.tuple (xs.map PyData.int)) = true := by
  unfold SeqAt.shaped
  simp only [PyData.canLay0, lay_ints, PyData.depth, depth_ints, Bool.true_and]
  decide
theorem dps {K : PySem.W.Frag} {H : Hp} : ∀ xs : List Int, DpAll K H (xs.map V.int) (xs.map PyData.int)
  | [] => .nil
  | x :: xs => .cons (.int x) (dps xs)
theorem dpt {K : PySem.W.Frag} {H : Hp} {p : Addr} {xs : List Int} (h : H p = some (.tup (xs.map V.int))) : Dp K H (.ref p) (.tuple (xs.map PyData.int)) := .tup (.inl (.inl h)) (dps xs)

abbrev kIn : Stmt := topS 29
abbrev kKept : Stmt := topS 30
abbrev kBroken : Stmt := topS 31
abbrev kGood : Stmt := topS 32
theorem scIn : FnScope ["side", "standing", "thing", "word", "place"] ["side", "standing"] (defScope kIn) := ⟨rfl, rfl, rfl, by decide +kernel, rfl, by decide +kernel, by decide +kernel⟩
theorem scKept : FnScope ["rule", "standing", "first", "second"] ["rule", "standing"] (defScope kKept) := ⟨rfl, rfl, rfl, by decide +kernel, rfl, by decide +kernel, by decide +kernel⟩
theorem scBroken : FnScope ["plan", "standing", "number", "rule"] ["plan", "standing"] (defScope kBroken) := ⟨rfl, rfl, rfl, by decide +kernel, rfl, by decide +kernel, by decide +kernel⟩
theorem scGood : FnScope ["plan", "standing"] ["plan", "standing"] (defScope kGood) := ⟨rfl, rfl, rfl, by decide +kernel, rfl, by decide +kernel, by decide +kernel⟩
theorem w_from : decide (V.str (word true) = V.str "from") = true := by decide +kernel
theorem w_to : decide (V.str (word false) = V.str "from") = false := by decide +kernel

section
variable {P : Program} {w : World} {K : PySem.W.Frag} {mg : Str → Option Value} {base : Heap}

def spIn : Sp := fun vs H Q _ => ∃ (p t : Addr) (sd : Sd) (xs : List Int), vs = [.ref p, .ref t] ∧ SideAt H p sd ∧ H t = some (.tup (xs.map V.int)) ∧ sd.1 < xs.length ∧ Q (.bl (inB xs sd)) H
theorem ok_in {f : Addr} {fd : FuncData} {k : Nat} (F : Fun K "is_in" "is_in" kIn f fd) : FnOk P w K mg base CX0 (k + 1) f fd ["side", "standing"] spIn := by
  refine F.ok scIn (fun vs H Q E h => ?_) (fun cdv A outer s H vs Q E hr h => ?_)
  · obtain ⟨p, t, sd, xs, rfl, _⟩ := h
    rfl
  · obtain ⟨p, t, ⟨n, b, pl⟩, xs, rfl, ep, et, ln, q⟩ := h
    have ep' : H p = some (.tup [.int (n : Int), .str (word b), .int pl]) := ep
    have ln' : n < xs.length := ln
    have eg : atI (xs.map V.int) (n : Int) = some (.int xs[n]) := atI_nat (by rw [List.getElem?_map, List.getElem?_eq_getElem ln']; rfl)
    have eb : inB xs (n, b, pl) = if b then decide (pl ≤ xs[n]) else decide (xs[n] ≤ pl) := by
      unfold inB
      simp only [List.getElem?_eq_getElem ln']
    rw [eb] at q
    refine ⟨_, pss_cons (ps_asg (pv 0) (pg_tup (by rfl) (pgs_cons (pg_name (i := 2) scIn.nd rfl (.inl rfl)) (pgs_cons (pg_name (i := 3) scIn.nd rfl (.inl rfl)) (pgs_cons (pg_name (i := 4) scIn.nd rfl (.inl rfl)) pgs_nil)))))
      (pss_cons (ps_if (pt_cmpR op_eq (pv 3) pe_str (nomark _)) (pss_one (ps_ret (pe_cmpR op_ge (pe_ix ix_tup (pv 1) (pv 2) (fun _ _ => rfl)) (pv 4) (nomark _)))) pss_nil)
      (pss_one (ps_ret (pe_cmpR op_le (pe_ix ix_tup (pv 1) (pv 2) (fun _ _ => rfl)) (pv 4) (nomark _))))), ?_⟩
    refine ⟨.ref p, rfl, p, _, rfl, .inl (.inl ep'), rfl, _, _, rfl, _, _, rfl, _, _, rfl, rfl, ?_⟩
    cases b with
    | true =>
      refine ⟨_, rfl, rfl, true, congrArg V.bl w_from, iteT ?_⟩
      exact ⟨.ref t, rfl, .int n, rfl, t, _, n, _, rfl, rfl, .inl (.inl et), eg, .int pl, rfl, _, pl, rfl, rfl, q⟩
    | false =>
      refine ⟨_, rfl, rfl, false, congrArg V.bl w_to, iteF ?_⟩
      exact ⟨.ref t, rfl, .int n, rfl, t, _, n, _, rfl, rfl, .inl (.inl et), eg, .int pl, rfl, _, pl, rfl, rfl, q⟩

def Fit (xs : List Int) (q : Rl) : Prop := q.1.1 < xs.length ∧ q.2.1 < xs.length
def spKept : Sp := fun vs H Q _ => ∃ (r t : Addr) (rl : Rl) (xs : List Int), vs = [.ref r, .ref t] ∧ RuleAt H r rl ∧ H t = some (.tup (xs.map V.int)) ∧ Fit xs rl ∧ Q (.bl (kept xs rl)) H
theorem ok_kept {f fI : Addr} {fd fdI : FuncData} {k : Nat} (F : Fun K "is_kept" "is_kept" kKept f fd) (I' : Kn P w K mg base 1 "is_in" ["side", "standing"] spIn fI fdI) : FnOk P w K mg base CX0 (k + 2) f fd ["rule", "standing"] spKept := by
  refine F.ok scKept (fun vs H Q E h => ?_) (fun cdv A outer s H vs Q E hr h => ?_)
  · obtain ⟨r, t, rl, xs, rfl, _⟩ := h
    rfl
  · obtain ⟨r, t, rl, xs, rfl, ⟨p1, p2, er, h1, h2⟩, et, ft, q⟩ := h
    refine ⟨_, pss_cons (ps_asg (pv 0) (pg_tup (by rfl) (pgs_cons (pg_name (i := 2) scKept.nd rfl (.inl rfl)) (pgs_cons (pg_name (i := 3) scKept.nd rfl (.inl rfl)) pgs_nil))))
      (pss_one (ps_ret (pe_or (pe_kn I' hr (by omega) (pa_cons (pv 2) (pa_cons (pv 1) pa_nil))) (pe_one (pe_kn I' hr (by omega) (pa_cons (pv 3) (pa_cons (pv 1) pa_nil))))))), ?_⟩
    refine ⟨.ref r, rfl, r, _, rfl, .inl (.inl er), rfl, _, _, rfl, _, _, rfl, rfl, ?_⟩
    unfold kept at q
    refine ⟨.ref p1, rfl, .ref t, rfl, p1, t, rl.1, xs, rfl, h1, et, ft.1, _, rfl, ite2 (fun c => ?_) (fun c => ?_)⟩
    · rw [c, Bool.true_or] at q
      exact q
    · rw [Bool.eq_false_iff.mpr c, Bool.false_or] at q
      exact ⟨.ref p2, rfl, .ref t, rfl, p2, t, rl.2, xs, rfl, h2, et, ft.2, q⟩

theorem look_rules (t R : Addr) : ([("tops", V.ref t), ("rules", V.ref R)] : List (Str × V)).lookup ("rules" : Str) = some (V.ref R) := by
  have n : (("rules" : Str) == "tops") = false := by decide +kernel
  simp [List.lookup, n]
theorem look_tops (t R : Addr) : ([("tops", V.ref t), ("rules", V.ref R)] : List (Str × V)).lookup ("tops" : Str) = some (V.ref t) := by
  simp [List.lookup]

def spBroken (C : Addr) : Sp := fun vs H Q _ => ∃ (x t : Addr) (tops : List Int) (rs : List Rl) (xs : List Int), vs = [.ref x, .ref t] ∧ PlanAt C H x tops rs ∧ H t = some (.tup (xs.map V.int)) ∧ rs.length ≤ 40 ∧ (∀ q ∈ rs, Fit xs q) ∧
  ∀ H' p, Same H H' → H p = none → H' p = some (.tup ((brok xs rs).map V.int)) → Q (.ref p) H'
theorem ok_broken {f fI C : Addr} {fd fdI : FuncData} {k : Nat} (F : Fun K "broken" "broken" kBroken f fd) (T : PlanTxt K mg C) (Ke : Kn P w K mg base 2 "is_kept" ["rule", "standing"] spKept fI fdI) (mt : mg "tuple" = none) (me : mg "enumerate" = none) : FnOk P w K mg base CX0 (k + 3) f fd ["plan", "standing"] (spBroken C) := by
  refine F.ok scBroken (fun vs H Q E h => ?_) (fun cdv A outer s H vs Q E hr h => ?_)
  · obtain ⟨x, t, tops, rs, xs, rfl, _⟩ := h
    rfl
  · obtain ⟨x, t, tops, rs, xs, rfl, ⟨dx, tt', R, ex, ett, as, eR, la, ha⟩, et, l40, ft, q⟩ := h
    refine ⟨_, pss_one (ps_ret (pe_callTy call_tuple_of (by rfl) mt (by decide +kernel) (pa_cons
      (pe_lc (own := [("number", 2), ("rule", 3)]) (g := gTup K 2 (gCons (gName 2) (gCons (gName 3) gNil))) (tt := tNot (tB (tCall spKept [] E0 (tCons (tVar 3) (tCons (tVar 1) tNil))))) (te := tVar 2) rfl scBroken.nd (pi_enumT (by rfl) me (pa_cons (pe_fld (pv 0) rfl) pa_nil)) (blkOk_by (N := ["plan", "standing", "number", "rule"]) (sc := defScope kBroken) (by decide +kernel))
        (fun _ _ _ _ _ => pg_tup rfl (pgs_cons (pg_name (i := 2) scBroken.nd rfl (.inl rfl) (hf := .inr rfl)) (pgs_cons (pg_name (i := 3) scBroken.nd rfl (.inl rfl) (hf := .inr rfl)) pgs_nil)))
        (fun _ _ _ _ _ => pts_one (pt_not (pt_val (pe_kn Ke hr (by omega) (pa_cons (pv 3) (pa_cons (pv 1) pa_nil))))))
        (fun _ _ _ _ _ => pv 2)) pa_nil))), ?_⟩
    refine ⟨.ref x, rfl, x, C, dx, _, _, rfl, ex, T.cl, T.nR, look_rules _ _, R, _, rfl, .inl (.inl eR), fun D nD => lc_it (walk_enumT (xs := as.map V.ref)) (fun i H' => Same H H' ∧ H' D = some (.lst ((brok xs (rs.take i)).map V.int))) ⟨same_new nD, upd_same⟩ (fun i H' _ p => .inl (.inl (p.1 _ _ eR))) (fun i v H1 H2 hi p y => ?_) (fun H' p => ?_)⟩
    · obtain ⟨sm, eD⟩ := p
      obtain ⟨T', x1, x2, rfl, nT, rfl, g1, g2⟩ := y
      have e1 : x1 = .int (i : Nat) := (Option.some.inj g1).symm
      subst e1
      obtain ⟨r, er, rfl⟩ := mapGet g2
      have hi' : i < as.length := by simpa using hi
      have hr' : i < rs.length := by omega
      have eq : rs[i]? = some rs[i] := List.getElem?_eq_getElem hr'
      have nTD : D ≠ T' := ne_of_none eD nT
      have smT : Same H (upd H1 T' (.tup [V.int (i : Nat), V.ref r])) := same_over sm (sm.free nT)
      have eDT : (upd H1 T' (.tup [V.int (i : Nat), V.ref r])) D = some (.lst ((brok xs (rs.take i)).map V.int)) := (upd_ne nTD).trans eD
      refine ⟨T', _, rfl, .inl (.inl upd_same), rfl, _, _, rfl, _, _, rfl, rfl, rfl, .ref r, rfl, .ref t, rfl, r, t, rs[i], xs, rfl, (ha i r _ er eq).keep (.same smT), smT _ _ et, ft _ (List.getElem_mem hr'), _, rfl, ?_⟩
      cases c : kept xs rs[i] with
      | true =>
        refine iteF ⟨smT, ?_⟩
        rw [brok_take xs rs i _ eq, c, eDT]
        simp
      | false =>
        refine iteT ⟨_, rfl, _, eDT, ?_, same_over smT nD, ?_⟩
        · rw [List.length_map]
          refine Nat.lt_of_le_of_lt (brok_len _ _) ?_
          rw [List.length_take]
          exact small1000 (by omega)
        · rw [upd_same, brok_take xs rs i _ eq, c, List.map_append]
          rfl
    · obtain ⟨sm, eD⟩ := p
      rw [List.length_map, List.take_of_length_le (by omega)] at eD
      refine ⟨D, _, rfl, .inl ⟨.inl (.inl eD), fun l nl => ?_⟩⟩
      exact q _ l (same_over sm (sm.free nl)) (sm.free nl) upd_same

def spGood (C : Addr) : Sp := fun vs H Q _ => ∃ (x t : Addr) (tops : List Int) (rs : List Rl) (xs : List Int), vs = [.ref x, .ref t] ∧ PlanAt C H x tops rs ∧ H t = some (.tup (xs.map V.int)) ∧ rs.length ≤ 40 ∧ (∀ q ∈ rs, Fit xs q) ∧
  ∀ H', Same H H' → Q (.bl (rs.all (kept xs))) H'
theorem ok_good {f fI C : Addr} {fd fdI : FuncData} {k : Nat} (F : Fun K "is_good" "is_good" kGood f fd) (Br : Kn P w K mg base 3 "broken" ["plan", "standing"] (spBroken C) fI fdI) : FnOk P w K mg base CX0 (k + 4) f fd ["plan", "standing"] (spGood C) := by
  refine F.ok scGood (fun vs H Q E h => ?_) (fun cdv A outer s H vs Q E hr h => ?_)
  · obtain ⟨x, t, tops, rs, xs, rfl, _⟩ := h
    rfl
  · obtain ⟨x, t, tops, rs, xs, rfl, hp, et, l40, ft, q⟩ := h
    refine ⟨_, pss_one (ps_ret (pe_cmpR (op_eqD hr.units) (pe_kn Br hr (by omega) (pa_cons (pv 0) (pa_cons (pv 1) pa_nil))) (pe_tup pa_nil) (nomark _))), ?_⟩
    refine ⟨.ref x, rfl, .ref t, rfl, x, t, tops, rs, xs, rfl, hp, et, l40, ft, fun H1 p s1 np ep => ?_⟩
    refine ⟨Nat.zero_le _, fun z nz => ?_⟩
    have s2 := s1.trans (same_new (o := .tup []) nz)
    refine ⟨_, _, dpt (same_new nz _ _ ep), dpt (xs := []) upd_same, shaped_ints _, shaped_ints _, ?_⟩
    have e : PyData.eqv (.tuple ((brok xs rs).map PyData.int)) (.tuple (([] : List Int).map PyData.int)) = rs.all (kept xs) := by
      show PyData.eqv _ _ = _
      simp only [PyData.eqv]
      rw [eqv_ints, Bool.eq_iff_iff, decide_eq_true_eq]
      exact brok_nil xs rs
    rw [e]
    exact q _ s2
end
end K18

set_option Elab.async false
set_option linter.all false
set_option maxRecDepth 100000
namespace K18
open PySem PySem.Spec PyProof.Rows L2 NB

/-! ### the law's own draws -/

/-- a standing of the plan's tops -/
structure Std (tops : List Int) (H : Hp) (p : Addr) (st : List Int) : Prop where
  at' : H p = some (.tup (st.map V.int))
  len : st.length = tops.length
  pl : Pl st
  le : Le st tops
theorem Std.keep {tops : List Int} {H H' : Hp} {p : Addr} {st : List Int} (h : Std tops H p st) (k : Keep H H') : Std tops H' p st := ⟨k.tup h.at', h.len, h.pl, h.le⟩
abbrev refs (ps : List (Addr × List Int)) : List V := ps.map fun q => V.ref q.1
theorem words_mem {x : V} (h : x ∈ [V.str "from", V.str "to"]) : ∃ b, x = .str (word b) := by
  simp only [List.mem_cons, List.not_mem_nil, or_false] at h
  rcases h with e | e
  · exact ⟨true, e⟩
  · exact ⟨false, e⟩
theorem len_bd {tops : List Int} (l12 : tops.length ≤ 12) : (tops.length : Int) < 2 ^ 200 := Int.lt_of_le_of_lt (show (tops.length : Int) ≤ 12 by omega) (by decide)
theorem top_bd {t : Int} (h : t < 10 ^ 30) : t + 1 < 2 ^ 200 := Int.lt_of_le_of_lt (show t + 1 ≤ 10 ^ 30 by omega) (by decide)
theorem inB_from {st : List Int} {n : Nat} {pl : Int} (h : n < st.length) (l : pl ≤ st[n]) : inB st (n, true, pl) = true := by
  unfold inB
  simp [List.getElem?_eq_getElem h, l]
theorem inB_to {st : List Int} {n : Nat} {pl : Int} (h : n < st.length) (l : st[n] ≤ pl) : inB st (n, false, pl) = true := by
  unfold inB
  simp [List.getElem?_eq_getElem h, l]
theorem fit_of {tops : List Int} {q : Rl} (h : RuleOk tops q) {xs : List Int} (l : xs.length = tops.length) : Fit xs q := by
  obtain ⟨⟨t1, e1, _⟩, ⟨t2, e2, _⟩⟩ := h
  exact ⟨by rw [l]; exact (List.getElem?_eq_some_iff.mp e1).1, by rw [l]; exact (List.getElem?_eq_some_iff.mp e2).1⟩
/-- rules one by one -/
theorem rules_snoc {H H' : Hp} {as : List Addr} {rs : List Rl} {r : Addr} {q : Rl} (la : as.length = rs.length) (h : ∀ (i : Nat) (r : Addr) (q : Rl), as[i]? = some r → rs[i]? = some q → RuleAt H r q) (k : Keep H H') (e : RuleAt H' r q) :
    ∀ (i : Nat) (r' : Addr) (q' : Rl), (as ++ [r])[i]? = some r' → (rs ++ [q])[i]? = some q' → RuleAt H' r' q' := fun i r' q' h1 h2 => by
  rcases Nat.lt_or_ge i as.length with c | c
  · rw [List.getElem?_append_left c] at h1
    rw [List.getElem?_append_left (by omega)] at h2
    exact (h i r' q' h1 h2).keep k
  · rw [List.getElem?_append_right c] at h1
    rw [List.getElem?_append_right (by omega)] at h2
    have e0 : i - as.length = 0 := by
      rcases Nat.eq_zero_or_pos (i - as.length) with z | z
      · exact z
      · rw [List.getElem?_eq_none (by simp only [List.length_cons, List.length_nil]; omega)] at h1
        cases h1
    have e1 : i - rs.length = 0 := by omega
    rw [e0] at h1
    rw [e1] at h2
    cases h1
    cases h2
    exact e
theorem at_int {xs : List Int} {n : Nat} (h : n < xs.length) : atI (xs.map V.int) (n : Int) = some (.int xs[n]) := atI_nat (by rw [List.getElem?_map, List.getElem?_eq_getElem h]; rfl)
theorem ixN_nat {m n : Nat} (h : n < m) : ixN m (n : Int) = some n := by
  unfold ixN
  rw [if_pos (by omega), if_pos (by omega)]
  rfl
theorem set_ok {tops st : List Int} {n : Nat} {v : Int} (l : st.length = tops.length) (p : Pl st) (le : Le st tops) (hn : n < tops.length) (v0 : 0 ≤ v) (v1 : v ≤ tops[n]) (v2 : tops[n] < 10 ^ 30) : (st.set n v).length = tops.length ∧ Pl (st.set n v) ∧ Le (st.set n v) tops := by
  refine ⟨by rw [List.length_set, l], fun x hx => ?_, fun i x t h1 h2 => ?_⟩
  · rcases List.mem_or_eq_of_mem_set hx with h | h
    · exact p x h
    · rw [h]
      exact ⟨v0, by omega⟩
  · by_cases c : n = i
    · subst c
      rw [List.getElem?_set_self (by omega)] at h1
      cases h1
      rw [List.getElem?_eq_getElem hn] at h2
      cases h2
      exact v1
    · rw [List.getElem?_set_ne c] at h1
      exact le i x t h1 h2

end K18

set_option Elab.async false
set_option linter.all false
set_option maxRecDepth 100000
/-! xs.insert(k, y), k a place of the list or its end. -/
namespace NB
open PySem PySem.Spec PyProof.Rows L2
section
variable {X : Cx}
def rInsert : V → List V → Hp → VK → Prop := fun x vs H Q => ∃ (l : Addr) (xs : List V) (k : Int) (y : V), x = .ref l ∧ vs = [.int k, y] ∧ H l = some (.lst xs) ∧ 0 ≤ k ∧ k ≤ (xs.length : Int) ∧ k < 1000000 ∧ xs.length < sizeLine ∧ Q .non (upd H l (.lst (xs.take k.toNat ++ y :: xs.drop k.toNat)))
theorem fits {k : Int} (h0 : 0 ≤ k) (h1 : k < 1000000) : Builtin.List.listFitsIndex k = true := by
  unfold Builtin.List.listFitsIndex
  simp
  omega
theorem ins_list (its : List Value) (k : Int) (u : Value) (h0 : 0 ≤ k) (h1 : k ≤ (its.length : Int)) :
    (have j := if k < 0 then (k + (its.toArray.size : Int)).toNat else min k.toNat its.toArray.size; (its.toArray.extract 0 j).push u ++ its.toArray.extract j) = (its.take k.toNat ++ u :: its.drop k.toNat).toArray := by
  show (its.toArray.extract 0 (if k < 0 then (k + (its.toArray.size : Int)).toNat else min k.toNat its.toArray.size)).push u ++ its.toArray.extract (if k < 0 then (k + (its.toArray.size : Int)).toNat else min k.toNat its.toArray.size) = _
  rw [if_neg (by omega), List.size_toArray, Nat.min_eq_left (by omega)]
  simp [List.extract_toArray, List.extract_eq_drop_take]
  exact List.take_of_length_le (by rw [List.length_drop]; exact Nat.le_refl _)
theorem mt_insert : MtM X "list.insert" rInsert := by
  intro pins s σ H x vs v us Q I rx rv h
  obtain ⟨l, xs, k, y, rfl, rfl, hH, h0, hk, hb, hz, q⟩ := h
  cases rx
  obtain ⟨u1, u2, rfl, r1, r2⟩ : ∃ u1 u2, us = [u1, u2] ∧ RelV (.int k) u1 ∧ RelV y u2 := by
    cases rv with
    | cons p q =>
      cases q with
      | cons p' q' =>
        cases q'
        exact ⟨_, _, rfl, p, p'⟩
  obtain ⟨t, rfl⟩ := r1
  obtain ⟨z, its, n, r, hl, e⟩ := I.lstM hH
  have hlen := r.length
  have hf := fits h0 hb
  have h1 : its.toArray.size ≤ sizeLine := by
    rw [List.size_toArray]
    omega
  refine call_meets PySem.F.slot_list_insert ⟨_, e, rfl⟩ PySem.F.entry_list_insert (PySem.F.args_list_insert_3 _ _ _) (PySem.AutoSeq1.list_insert_list_int_val_1 l _ n k t u2 (by simp [hf]) h1) ⟨e, ?_⟩
  refine ⟨.non, _, I.lset (its' := its.take k.toNat ++ u2 :: its.drop k.toNat) hH e (ins_list its k u2 h0 (by omega)) ((r.take k.toNat).append (.cons r2 (r.drop k.toNat))) ?_, rfl, q⟩
  rw [List.length_append, List.length_cons, List.length_take, List.length_drop]
  omega
end
end NB

set_option Elab.async false
set_option linter.all false
set_option maxRecDepth 100000
namespace K18
open PySem PySem.Spec PyProof.Rows L2 NB

theorem eqv_nilL (xs : List Int) : PyData.eqv (.list (xs.map PyData.int)) (.list []) = decide (xs = []) := by
  have := eqv_ints xs []
  simp only [PyData.eqv]
  exact this
theorem shaped_ints_l (xs : List Int) : SeqAt.shaped (.list (xs.map PyData.int)) = true := by
  unfold SeqAt.shaped
  simp only [PyData.canLay0, lay_ints, PyData.depth, depth_ints, Bool.true_and]
  decide

section
variable {P : Program} {w : World} {K : PySem.W.Frag} {mg : Str → Option Value} {base : Heap}

def Few (xs : List Int) : Prop := ∀ x ∈ xs, 0 ≤ x ∧ x ≤ 3
theorem Few.pl {xs : List Int} (h : Few xs) : Pl xs := fun x hx => ⟨(h x hx).1, Int.lt_of_le_of_lt (h x hx).2 (by decide)⟩
end

/-! ### great plans -/
abbrev aGTops : Stmt := topS 65
theorem scGTops : FnScope ["_law_pot_here", "_law_some", "_law_found", "_law_thing"] ["_law_pot_here"] (defScope aGTops) := ⟨rfl, rfl, rfl, by decide +kernel, rfl, by decide +kernel, by decide +kernel⟩
section
variable {P : Program} {w : World} {K : PySem.W.Frag} {mg : Str → Option Value} {base : Heap}
def spGTops : Sp := fun vs H Q _ => ∃ (a : Addr) (c : Nat), vs = [.ref a] ∧ PotAt H a c ∧ c < 900000 ∧
  ∀ H' p tops, But a H H' → PotAt H' a (c + 60) → H' p = some (.tup (tops.map V.int)) → 2 ≤ tops.length → tops.length ≤ 12 → Pl tops → Q (.ref p) H'
theorem ok_gtops {f fT fO : Addr} {fd fdT fdO : FuncData} {k : Nat} (F : Fun K "_law_great_tops" "_law_great_tops" aGTops f fd) (T : Kn P w K mg base 1 "_law_take" ["_law_pot_here", "_law_many"] spTake fT fdT)
    (O : Kn P w K mg base 2 "_law_of" ["_law_pot_here", "_law_some"] (spOf K) fO fdO) (mr : mg "range" = none) (mt : mg "tuple" = none) : FnOk P w K mg base CX0 (k + 3) f fd ["_law_pot_here"] spGTops := by
  refine F.ok scGTops (fun vs H Q E h => ?_) (fun cdv A outer s H vs Q E hr h => ?_)
  · obtain ⟨a, c, rfl, _⟩ := h
    rfl
  · obtain ⟨a, c, rfl, pa, hc, q⟩ := h
    refine ⟨_, pss_cons (ps_par (i := 1) (j := 2) (by rfl) scGTops.nd rfl rfl (by decide) rfl rfl (pa_cons (pe_lst (pa_cons pe_int (pa_cons pe_int (pa_cons pe_int (pa_cons pe_int (pa_cons (pe_op op_sub (pe_op op_pow pe_int pe_int) pe_int) pa_nil)))))) (pa_cons (pe_lst pa_nil) pa_nil)) (by rfl))
      (pss_cons (ps_for PassesOwn.never rfl (pi_range1 (by rfl) mr (pa_cons (pe_op op_add pe_int (pe_kn T hr (by omega) (pa_cons (pv 0) (pa_cons pe_int pa_nil)))) pa_nil)) (pg_name (i := 3) scGTops.nd rfl (.inl rfl))
        (pss_one (ps_expr (pe_bm PySem.F.plainAttrs_list PySem.F.slot_list_append PySem.F.type_list_append mt_append (pv 2) (pa_cons (pe_kn O hr (by omega) (pa_cons (pv 0) (pa_cons (pe_op op_cat (pv 1) (pe_lst (pa_cons (pe_op op_mul (pe_kn T hr (by omega) (pa_cons (pv 0) (pa_cons (pe_op op_pow pe_int pe_int) pa_nil))) (pe_op op_pow pe_int pe_int)) pa_nil))) pa_nil))) pa_nil)))))
      (pss_one (ps_ret (pe_callTy call_tuple_of (by rfl) mt (by decide +kernel) (pa_cons (pv 2) pa_nil))))), ?_⟩
    refine ⟨10, 30, rfl, rfl, ⟨by decide, by decide, by decide⟩, _, 1, rfl, rfl, (show 5 ≤ sizeLine by decide), fun S nS => ⟨Nat.zero_le _, fun l nl => ⟨_, _, rfl, ?_⟩⟩⟩
    have nSa : S ≠ a := pa.ne nS
    have sS : Same H (upd H S (.lst [.int 0, .int 1, .int 2, .int 9, .int (10 ^ (30 : Int).toNat - 1)])) := same_new nS
    have nla : l ≠ a := (pa.keep sS).ne nl
    have nlH : H l = none := sS.free nl
    have sl := sS.trans (same_new (o := .lst []) nl)
    have eS0 : (upd (upd H S (.lst [.int 0, .int 1, .int 2, .int 9, .int (10 ^ (30 : Int).toNat - 1)])) l (.lst [])) S = some (.lst [.int 0, .int 1, .int 2, .int 9, .int (10 ^ (30 : Int).toNat - 1)]) := same_new nl _ _ upd_same
    have nSl : S ≠ l := ne_of_none (show (upd H S (.lst [.int 0, .int 1, .int 2, .int 9, .int (10 ^ (30 : Int).toNat - 1)])) S = some (.lst [.int 0, .int 1, .int 2, .int 9, .int (10 ^ (30 : Int).toNat - 1)]) from upd_same) nl
    refine ⟨.ref a, rfl, a, 11, c, rfl, pa.keep sl, by decide, by decide, by omega, fun d H1 b1 p1 d0 d1 => ?_⟩
    have el1 : H1 l = some (.lst []) := b1 _ _ nla upd_same
    have eS1 := b1 _ _ nSa eS0
    have bl1 : But a H H1 := (But.of sl).trans b1
    refine ⟨2, d, rfl, rfl, 2 + d, rfl, by omega, by omega, for_it walk_range (fun i σ H' => (∃ u, σ = [some (.ref a), some (.ref S), some (.ref l), u]) ∧ But a H H' ∧ PotAt H' a (c + 1 + 2 * i) ∧ H' S = some (.lst [.int 0, .int 1, .int 2, .int 9, .int (10 ^ (30 : Int).toNat - 1)]) ∧ ∃ ts : List Int, H' l = some (.lst (ts.map V.int)) ∧ ts.length = i ∧ Pl ts)
      ⟨⟨none, rfl⟩, bl1, p1, eS1, [], el1, rfl, fun _ h => absurd h List.not_mem_nil⟩ (fun _ _ _ _ _ => trivial) (fun i v σ H2 H3 hi p y => ?_) (fun σ H2 p => ?_)⟩
    · obtain ⟨⟨u, rfl⟩, b2, p2, eS, ts, el2, tl, tp⟩ := p
      obtain ⟨rfl, rfl⟩ := y
      have hi' : i < 12 := by omega
      refine ⟨.ref l, rfl, .inl ⟨rfl, _, .inl (.inl el2)⟩, .ref a, rfl, .ref S, rfl, .ref a, rfl, 10, 15, rfl, rfl, ⟨by decide, by decide, by decide⟩, a, _, _, rfl, p2, by rw [e15]; decide, by rw [e15]; decide, by omega, fun g1 H4 b4 p4 g0 gm => ?_⟩
      rw [e15] at gm
      refine ⟨10, 15, rfl, rfl, ⟨by decide, by decide, by decide⟩, g1, _, rfl, rfl, .inr (by rw [e15]; exact ⟨by decide, by decide⟩), (show 1 ≤ sizeLine by decide), fun o no => ?_⟩
      have noa : o ≠ a := p4.ne no
      have eS4 := b4 _ _ nSa eS
      have s5 : Same H4 (upd H4 o (.lst [.int (g1 * 10 ^ (15 : Int).toNat)])) := same_new no
      refine ⟨S, o, _, _, rfl, rfl, s5 _ _ eS4, upd_same, (show 5 + 1 ≤ sizeLine by decide), fun m nm => ?_⟩
      have s6 := s5.trans (same_new (o := .lst ([.int 0, .int 1, .int 2, .int 9, .int (10 ^ (30 : Int).toNat - 1)] ++ [.int (g1 * 10 ^ (15 : Int).toNat)])) nm)
      have nma : m ≠ a := (p4.keep s5).ne nm
      refine ⟨a, m, _, _, rfl, p4.keep s6, nma, .inl (.inl (.inl upd_same)), (show 1 ≤ 6 by decide), (show 6 ≤ 1000000 by decide), by omega, fun x H7 hx b7 p7 => ?_⟩
      have hx' : ∃ v : Int, x = .int v ∧ 0 ≤ v ∧ v < 10 ^ 30 := by
        simp only [List.cons_append, List.nil_append, List.mem_cons, List.not_mem_nil, or_false] at hx
        rcases hx with e | e | e | e | e | e
        · exact ⟨_, e, by decide, by decide⟩
        · exact ⟨_, e, by decide, by decide⟩
        · exact ⟨_, e, by decide, by decide⟩
        · exact ⟨_, e, by decide, by decide⟩
        · exact ⟨_, e, by decide, by decide⟩
        · refine ⟨_, e, ?_, ?_⟩
          · rw [e15]
            omega
          · rw [e15]
            omega
      obtain ⟨v, rfl, v0, v1⟩ := hx'
      have b37 : But a H3 H7 := b4.trans ((But.of s6).trans b7)
      have el7 : H7 l = some (.lst (ts.map V.int)) := b37 _ _ nla el2
      refine ⟨l, _, _, rfl, rfl, el7, by rw [List.length_map]; exact small1000 (by omega), ⟨_, rfl⟩, but_new (b2.trans b37) nlH, pot_upd (p7.mono (by omega)) nla, (upd_ne nSl).trans (b37 _ _ nSa eS), ts ++ [v], ?_, by rw [List.length_append, tl]; rfl, tp.snoc v0 v1⟩
      rw [upd_same, List.map_append]
      rfl
    · obtain ⟨⟨u, rfl⟩, b2, p2, eS, ts, el2, tl, tp⟩ := p
      refine ⟨.ref l, rfl, l, _, rfl, .inl ⟨.inl (.inl el2), fun m nm => ?_⟩⟩
      have nma : m ≠ a := p2.ne nm
      exact q _ m ts (but_new b2 (b2.free nma nm)) (pot_upd (p2.mono (by omega)) nma) upd_same (by omega) (by omega) tp

end
end K18

set_option Elab.async false
set_option linter.all false
set_option maxRecDepth 100000
set_option maxHeartbeats 1000000
/-! What a plain search wants: sorted of any number of tuples, dicts whose keys are tuples. -/
namespace SrtO
open PySem PyProof.Rows Srt
section
variable {prog : Program} {w : World} {A : Around} {E : Value → Shared → Prop} {s : Shared}
def rkT (h : Heap) (B : Int) (v : Value) : Int := TS.code B (TS.intsOf h v)
theorem swo_rk (r : Value → Int) : Swo fun v u => decide (r v < r u) := by
  refine ⟨fun x y h => ?_, fun x y z h1 h2 => ?_⟩
  · have a := of_decide_eq_true h
    exact decide_eq_false (by omega)
  · have a := of_decide_eq_false h1
    have b := of_decide_eq_false h2
    exact decide_eq_false (by omega)
theorem tups_cmp {d : Nat} {B : Int} {vs : List Value} {r : Value → Int} (x : TS.TupsOk s.heap d B vs) (hr : ∀ v, v ∈ vs → ∀ ns, TS.TupInts s.heap v ns → r v = TS.code B ns) : Cmp prog w A s (tuples' true) (fun p => p.1 ∈ vs) (lt2 fun v u => decide (r v < r u)) := by
  intro p q hp hq
  obtain ⟨ns, tp, lp, bp⟩ := x _ hp
  obtain ⟨ms, tq, lq, bq⟩ := x _ hq
  have ep := hr _ hp _ tp
  have eq2 := hr _ hq _ tq
  show wpAny (model prog w) A (keyLt' (tuples' true) p.1 q.1) (fun b s' => s' = s ∧ b = decide (r p.1 < r q.1)) (fun _ _ => False) s
  rw [ep, eq2]
  obtain ⟨a, xs, e1, ⟨o, ho, hc, n, hdt⟩, i⟩ := tp
  obtain ⟨a', ys, e2, ⟨o', ho', hc', n', hdt'⟩, i'⟩ := tq
  rw [e1, e2]
  refine PySem.W.kat_lt ho hdt ho' hdt' ?_
  have sz : decide (xs.size < ys.size) = false := by
    have l1 := i.length
    have l2 := i'.length
    rw [Array.length_toList] at l1 l2
    exact decide_eq_false (by omega)
  rw [sz]
  exact TS.lex_ints 0 i i' (by omega) bp bq ⟨rfl, rfl⟩
theorem tups_sortableO {a : Addr} {vs : List Value} {d : Nat} {B : Int} {r : Value → Int} (hd1 : 1 ≤ d) (h2 : 2 ≤ vs.length) (x : TS.TupsOk s.heap d B vs) (hr : ∀ v, v ∈ vs → ∀ ns, TS.TupInts s.heap v ns → r v = TS.code B ns) (ha : ∀ o, s.heap.get? a = some o → o.cls ≠ .type "tuple") :
    SortableO prog w A s a vs fun v u => decide (r v < r u) := by
  intro h' keep
  have kp : ∀ b o, s.heap.get? b = some o → o.cls = .type "tuple" → h'.get? b = some o := fun b o e c => keep b o (fun z => by subst z; exact ha o e c) e
  have x' : TS.TupsOk h' d B vs := x.keeps kp
  obtain ⟨fs, h1, hl, h3⟩ := TS.firsts_of hd1 vs x'
  refine ⟨tuples' true, fun Q E hq => ?_, tups_cmp (s := { s with heap := h' }) x' fun v hv ns t => ?_⟩
  · refine PySem.W.kat_kind (T := .type "int") h1 (by omega) (fun f hm => ?_) (by rfl) ?_
    · obtain ⟨n, t, rfl⟩ := h3 f hm
      exact PySem.W.Looks.of_pure rfl
    · have e : (Value.type "int" != Value.type "tuple") = true := by first | decide +kernel | rfl | decide
      rw [e]
      exact hq
  · obtain ⟨ns0, t0, _⟩ := x v hv
    have e : ns = ns0 := t.ints.symm.trans (t0.keeps kp).ints
    rw [e]
    exact hr v hv ns0 t0
end
end SrtO

namespace NB
open PySem PySem.Spec PyProof.Rows L2
/-- sorted(xs), xs a list of tuples of d whole numbers each: a new list of the same ones -/
def rSortTT (K : PySem.W.Frag) (d : Nat) (B : Int) : List V → Hp → VK → Prop := fun vs H Q => ∃ (a : Addr) (L : List (Addr × List Int)), vs = [V.ref a] ∧ SqL K H a (L.map fun z => V.ref z.1) ∧ (∀ z ∈ L, H z.1 = some (.tup (z.2.map V.int)) ∧ z.2.length = d ∧ TS.Bd B z.2) ∧
  ∀ (ys : List V) (p : Addr), ys.Perm (L.map fun z => V.ref z.1) → H p = none → Q (.ref p) (upd H p (.lst ys))
section
variable {X : Cx}
theorem cr_sortTT {d : Nat} {B : Int} (hd1 : 1 ≤ d) : CallR X (.builtin "sorted") (rSortTT X.K d B) := by
  intro pins s σ H vs us Q I r h
  obtain ⟨a, L, rfl, hs, hx, q⟩ := h
  obtain ⟨its, rv, hl, hz⟩ := I.list hs
  obtain ⟨u, rfl, ru⟩ := vals1 r
  obtain rfl : u = Value.ref a := ru
  obtain ⟨e1, e2⟩ := refs_back rv fun x m => by
    obtain ⟨z, _, e⟩ := List.mem_map.mp m
    exact ⟨z.1, e.symm⟩
  have ok : TS.TupsOk s.heap d B its := fun v hv => by
    obtain ⟨t, rfl⟩ := e2 v hv
    have hm : V.ref t ∈ L.map fun z => V.ref z.1 := by rw [e1]; exact List.mem_map.mpr ⟨_, hv, rfl⟩
    obtain ⟨z, hz, e⟩ := List.mem_map.mp hm
    obtain ⟨ht, hn, hb⟩ := hx z hz
    have e' : z.1 = t := V.ref.inj e
    subst e'
    obtain ⟨its2, r2, p2, _⟩ := I.tuple (.inl (.inl ht))
    exact ⟨z.2, ⟨z.1, _, rfl, p2, by simpa using r2.ints⟩, hn, hb⟩
  refine SrtO.sorted_ord (SrtO.swo_rk fun v => TS.code B (TS.intsOf s.heap v)) hl.isList (by rw [← rv.length]; exact hz) (fun h2 h₁ a' ha' kk => ?_) fun out h1 h2 => ?_
  · have kp : ∀ b o, s.heap.get? b = some o → o.cls = .type "tuple" → h₁.get? b = some o := fun b o e _ => (kk b o e).2
    refine SrtO.tups_sortableO (s := { s with heap := h₁ }) hd1 h2 (ok.keeps kp) (fun v hv ns t => ?_) fun o e => ?_
    · obtain ⟨ns0, t0, _⟩ := ok v hv
      have e : ns = ns0 := t.ints.symm.trans (t0.keeps kp).ints
      rw [e, t0.ints]
    · have e' : some o = some (seqObj "list" its.toArray 0) := e.symm.trans ha'
      cases e'
      intro c
      exact absurd (Value.type.inj c) (by decide)
  · have h3 : ∀ u ∈ out, ∃ a, u = Value.ref a := fun u hu => e2 u (h2.perm.mem_iff.mp hu)
    obtain ⟨ep, he'⟩ := PyProof.Rows.sortedAll_at s.heap its out.toArray
    have hp : (out.map backV).Perm (L.map fun z => V.ref z.1) := by
      rw [e1]
      exact h2.perm.map backV
    refine ⟨.ref _, upd H (s.heap.objs.size + 1) (.lst (out.map backV)), I.laid (t' := s.toks) (fun _ _ => PyProof.Rows.sortedAll_old) (Nat.le_succ _) ⟨?_, out, ep, vals_back h3, he'⟩, rfl, q _ _ hp (I.hok.fresh (Nat.le_succ _))⟩
    rw [hp.length_eq]
    exact hz
/-- a dict made of pairs, each key a tuple -/
def putAll (ms : List (List Key × V)) : List (List Key × V) := ms.foldl (fun acc kv => putK acc kv.1 kv.2) []
theorem KT.putAll {H : Hp} {ms : List (List Key × V)} {ps : List (List Key × Addr × Value)} (r : Paired (fun m p => m.1 = p.1 ∧ H p.2.1 = some (.tup (p.1.map kV)) ∧ L2.RelV m.2 p.2.2) ms ps) : ∀ {acc : List (List Key × V)} {xs : List (List Key × Addr × Value)}, KT H acc xs →
    KT H (ms.foldl (fun acc kv => putK acc kv.1 kv.2) acc) (storedAllH xs ps) := by
  induction r with
  | nil => exact fun h => h
  | @cons m p ms ps h t ih =>
    intro acc xs hk
    have e : KT H (putK acc m.1 m.2) (storedH xs p.1 p.2.1 p.2.2) := by
      rw [h.1]
      exact hk.put p.1 h.2.1 h.2.2
    exact ih e
theorem putAll_len : ∀ (ms acc : List (List Key × V)), (ms.foldl (fun acc kv => putK acc kv.1 kv.2) acc).length ≤ acc.length + ms.length
  | [], acc => by simp
  | m :: ms, acc => by
    have h1 := putAll_len ms (putK acc m.1 m.2)
    have h2 := length_putK acc m.1 m.2
    rw [List.foldl_cons, List.length_cons]
    omega
/-- dict(xs), xs a list of pairs (tuple, value) -/
theorem call_dictT (hcalm : X.calm = true) (hu : X.A.units + 8 < cLine) : CallR X (.type "dict") (fun xs H Q => ∃ (a : Addr) (L : List (Addr × Addr × List Key × V)), xs = [.ref a] ∧ H a = some (.lst (L.map fun z => V.ref z.1)) ∧ (∀ z ∈ L, H z.1 = some (.tup [.ref z.2.1, z.2.2.2]) ∧ H z.2.1 = some (.tup (z.2.2.1.map kV))) ∧
    ∀ p, H p = none → Q (.ref p) (upd H p (.dT (putAll (L.map fun z => (z.2.2.1, z.2.2.2)))))) := by
  intro pins s σ H xs us Q I r q
  obtain ⟨a, L, ex, hq, hp, q⟩ := q
  subst ex
  obtain ⟨u, eu, rx⟩ := vals1 r
  subst eu
  cases rx
  obtain ⟨its, rv, pl, hz⟩ := I.list (.inl (.inl hq))
  have ei : its = L.map fun z => Value.ref z.1 := by
    have e : (L.map fun z => V.ref z.1) = (L.map (·.1)).map V.ref := by rw [List.map_map]; rfl
    rw [e] at rv
    rw [refs_at rv, List.map_map]
    rfl
  subst ei
  rw [List.length_map] at hz
  -- the pairs as they stand in the machine
  have mk : ∀ (M : List (Addr × Addr × List Key × V)), (∀ z ∈ M, z ∈ L) → ∃ ps : List (List Key × Addr × Value), Paired (fun m p => m.1 = p.1 ∧ H p.2.1 = some (.tup (p.1.map kV)) ∧ RelV m.2 p.2.2) (M.map fun z => (z.2.2.1, z.2.2.2)) ps ∧ ps.length = M.length ∧
      ∀ (j : Nat) (p : List Key × Addr × Value), ps[j]? = some p → ∃ z, M[j]? = some z ∧ p.1 = z.2.2.1 ∧ p.2.1 = z.2.1 ∧ IsTup s.heap z.1 #[.ref p.2.1, p.2.2] := by
    intro M
    induction M with
    | nil => exact fun _ => ⟨[], .nil, rfl, fun j p e => by simp at e⟩
    | cons z M ih =>
      intro hM
      obtain ⟨ps, h1, h2, h3⟩ := ih fun y hy => hM y (List.mem_cons_of_mem _ hy)
      obtain ⟨hz1, hz2⟩ := hp z (hM z List.mem_cons_self)
      obtain ⟨its2, r2, p2, _⟩ := I.tuple (.inl (.inl hz1))
      obtain ⟨u1, u2, rfl, ra, rb⟩ := vals2 r2
      obtain rfl : u1 = Value.ref z.2.1 := ra
      refine ⟨(z.2.2.1, z.2.1, u2) :: ps, .cons ⟨rfl, hz2, rb⟩ h1, by rw [List.length_cons, List.length_cons, h2], fun j p e => ?_⟩
      cases j with
      | zero =>
        have e' : (z.2.2.1, z.2.1, u2) = p := Option.some.inj e
        subst e'
        exact ⟨z, rfl, rfl, rfl, p2⟩
      | succ j => exact h3 j p (by simpa using e)
  obtain ⟨ps, rel, hl, hps⟩ := mk L fun z hz => hz
  obtain ⟨o, n, ho, hc, hd, hdat⟩ := pl
  have items : PairItems s.heap (L.map fun z => Value.ref z.1).toArray (fun j => (L.getD j (0, 0, [], .non)).1) (ps.map fun p => (Value.ref p.2.1, p.2.2)) := by
    refine ⟨by simp [hl], fun j k v e => ?_⟩
    rw [List.getElem?_map] at e
    cases ej : ps[j]? with
    | none => rw [ej] at e; cases e
    | some p =>
      rw [ej] at e
      have e' : (Value.ref p.2.1, p.2.2) = (k, v) := Option.some.inj e
      cases e'
      obtain ⟨z, hz1, _, _, hz4⟩ := hps j p ej
      have eg : L.getD j (0, 0, [], .non) = z := by rw [List.getD_eq_getElem?_getD, hz1]; rfl
      refine ⟨by simp [hz1, eg], .inl ?_⟩
      show s.heap.IsTuple (L.getD j (0, 0, [], .non)).1 _
      rw [eg]
      exact hz4
  have hst : KeysStay (tupleKind (mixKind X.prog X.w)) s.heap s.heap.objs.size [] ps := fun h' hk x hx => by
    obtain ⟨j, hj, e⟩ := List.getElem_of_mem hx
    obtain ⟨z, hz1, e1, e2, _⟩ := hps j x (by rw [List.getElem?_eq_getElem hj, e])
    have hz2 := (hp z (List.mem_of_getElem? hz1)).2
    rw [e1, e2]
    obtain ⟨_, its3, r3, o3, q1, q2, n3, q3⟩ := (show ObjOk X.prog X.w H s.heap z.2.1 (.tup (z.2.2.1.map kV)) from I.hok _ _ hz2)
    exact ⟨o3, its3.toArray, n3, hk _ _ (Nat.ne_of_lt (Heap.lt_size q1)) (by simp) q1, q2, q3, by simpa using items_are r3⟩
  refine PySem.call_dict_pairsH (knd := tupleKind (mixKind X.prog X.w)) (ps := ps) (PairArg.list a _ _ (ps.map fun p => (Value.ref p.2.1, p.2.2))) (I.ok.hd hcalm) (tupleKind_room_in1 (A := X.A.in1) (by show X.A.units + 1 + 1 < cLine; omega)) ⟨⟨o, n, ho, hc, hd, hdat⟩, items⟩ ⟨by rw [List.length_map], fun i key v e => ?_⟩ hst (by rw [List.length_map, hl]; exact hz) fun h' tk hd' k => ?_
  · have e' : (ps.map fun p => (Value.ref p.2.1, p.2.2))[i]? = some (key, v) := e
    rw [List.getElem?_map] at e'
    cases ej : ps[i]? with
    | none => rw [ej] at e'; cases e'
    | some p =>
      rw [ej] at e'
      have e2 : (Value.ref p.2.1, p.2.2) = (key, v) := Option.some.inj e'
      cases e2
      exact ⟨p.1, p.2.1, rfl, rfl⟩
  · have hm : (s.heap.objs.size == sysModules) = false := beq_eq_false_iff_ne.mpr (Nat.ne_of_gt I.big)
    have hlen : (putAll (L.map fun z => (z.2.2.1, z.2.2.2))).length ≤ sizeLine := by
      have := putAll_len (L.map fun z => (z.2.2.1, z.2.2.2)) []
      rw [List.length_nil, List.length_map] at this
      unfold putAll
      omega
    have nw := I.hok.fresh (Nat.le_refl s.heap.objs.size)
    have kt : KT (upd H s.heap.objs.size (.dT (putAll (L.map fun z => (z.2.2.1, z.2.2.2))))) (putAll (L.map fun z => (z.2.2.1, z.2.2.2))) (storedAllH [] ps) := (KT.putAll (acc := []) (xs := []) rel .nil).keeps fun b ys e => by
      rw [upd_ne (ne_of_none e nw)]
      exact e
    obtain ⟨q', es, ep, g1, g2, g3, g4, _, g5⟩ := hd'
    exact ⟨.ref s.heap.objs.size, upd H s.heap.objs.size (.dT (putAll (L.map fun z => (z.2.2.1, z.2.2.2)))), I.laid (t' := tk) (fun b o e => k b o (by simp) e) (Nat.le_refl _) (show ObjOk X.prog X.w _ _ _ (.dT (putAll (L.map fun z => (z.2.2.1, z.2.2.2)))) from ⟨hlen, hm, _, kt, q', es, ep, g1, g2, g3, g4, g5⟩), rfl, q _ nw⟩
/-- {t: v}, t a tuple -/
def tDispT (tk tv : TE) : TE := fun σ H Q => ∀ p, H p = none → tk σ (upd H p (.dT [])) fun x H1 => tv σ H1 fun y H2 => ∃ (b : Addr) (k : List Key), x = .ref b ∧ H2 b = some (.tup (k.map kV)) ∧ H2 p = some (.dT []) ∧ Q (.ref p) (upd H2 p (.dT [(k, y)]))
theorem pe_dispT {pos : Pos} {ke ve : Expr} {tk tv : TE} (hk : PE X ke tk) (hv : PE X ve tv) (hu : X.A.units + 8 < cLine) : PE X (.Dict [some ke] [ve] pos) (tDispT tk tv) := by
  refine ⟨fun pins s σ H Q I q => ?_⟩
  have hn := I.hok.fresh (Nat.le_refl s.heap.objs.size)
  have hsys : (s.heap.objs.size == sysModules) = false := beq_eq_false_iff_ne.mpr (Nat.ne_of_gt I.big)
  have I1 := I.laid (a := s.heap.objs.size) (o := .dT []) (h' := s.heap.push { cls := .type "dict", data := .dict #[] }) (t' := s.toks) (fun _ _ q => Heap.get?_push_of_some _ q) (Nat.le_refl _)
    (show ObjOk X.prog X.w _ _ _ (.dT []) from ⟨Nat.zero_le _, hsys, [], .nil, by
      obtain ⟨o, es, ep, g1, g2, g3, g4, _, g5⟩ := (Heap.DictOfH.new (knd := tupleKind (mixKind X.prog X.w)) s.heap)
      exact ⟨o, es, ep, g1, g2, g3, g4, g5⟩⟩)
  refine wpAny_Dict_any (by rfl) (by rfl) (by intro z; cases z) (show 1 ≤ 15 by decide) ?_
  refine pairTrees_cons_walk (thn (hk.run pins _ σ _ _ I1 (q _ hn)) fun u s1 ⟨x, H1, J1, rx, q1⟩ => thn (hv.run pins s1 σ H1 _ J1 q1) fun w2 s2 ⟨y, H2, J2, ry, q2⟩ => pairTrees_nil_walk ?_)
  obtain ⟨b, k, rfl, eb, ep, q3⟩ := q2
  cases rx
  obtain ⟨z, hd, xs, rel, dd⟩ := dt_of J2.hok ep
  cases rel
  refine wpAny_bind (wpAny_bind (wpAny_dictSet_heap (knd := tupleKind (mixKind X.prog X.w)) (hsz := Nat.zero_le _) (show X.A.units < cLine by omega) (key_of J2.hok eb) dd fun h' dd' hs => wpAny_pure ?_))
  refine wpAny_pure ?_
  obtain ⟨q', es, ep', g1, g2, g3, g4, _, g5⟩ := dd'
  refine ⟨.ref s.heap.objs.size, _, d_write (t' := _) J2 (by rw [ep]; exact True.intro) hs ⟨q', g1⟩ (ob := .dT [(k, y)]) ⟨(show 1 ≤ sizeLine by decide), hd, _, .cons ⟨rfl, ?_, ry⟩ .nil, q', es, ep', g1, g2, g3, g4, g5⟩, rfl, q3⟩
  rw [upd_ne (ne_of eb ep (fun z => nomatch z))]
  exact eb
end
end NB

set_option Elab.async false
set_option linter.all false
set_option maxRecDepth 100000
namespace K18
open PySem PySem.Spec PyProof.Rows L2 NB

/-! ### places, good standings: mathematics alone -/
abbrev plc (st : List Int) (i : Nat) : Int := st.getD i 0
theorem plc_set_self {st : List Int} {i : Nat} {x : Int} (h : i < st.length) : plc (st.set i x) i = x := by
  unfold plc
  rw [List.getD_eq_getElem?_getD, List.getElem?_set_self h]
  rfl
theorem plc_set_ne {st : List Int} {i j : Nat} {x : Int} (h : i ≠ j) : plc (st.set i x) j = plc st j := by
  unfold plc
  rw [List.getD_eq_getElem?_getD, List.getD_eq_getElem?_getD, List.getElem?_set_ne h]
theorem plc_get {st : List Int} {i : Nat} (h : i < st.length) : plc st i = st[i] := by
  unfold plc
  rw [List.getD_eq_getElem?_getD, List.getElem?_eq_getElem h]
  rfl
theorem wipe_one {σ : L2.St} {k : Nat} {v : Option V} {n : Str} : wipe ((wipe σ ([(n, k)].map (·.2))).set k v) ([(n, k)].map (·.2)) = wipe σ ([(n, k)].map (·.2)) := by
  show ((σ.set k none).set k v).set k none = σ.set k none
  rw [List.set_set, List.set_set]
theorem tst_in {xs : List Int} {s : Sd} (h : s.1 < xs.length) : inB xs s = if s.2.1 then decide (s.2.2 ≤ plc xs s.1) else decide (plc xs s.1 ≤ s.2.2) := by
  unfold inB
  rw [List.getElem?_eq_getElem h, plc_get h]
def Btw (a x b : Int) : Prop := min a b ≤ x ∧ x ≤ max a b
def Good (rs : List Rl) (st : List Int) : Prop := ∀ q ∈ rs, kept st q = true
theorem plc_app (a : List Int) (x : Int) (j : Nat) : plc (a ++ [x]) j = if j < a.length then plc a j else if j = a.length then x else 0 := by
  unfold plc
  rw [List.getD_eq_getElem?_getD, List.getD_eq_getElem?_getD]
  by_cases c : j < a.length
  · rw [if_pos c, List.getElem?_append_left c]
  · rw [if_neg c, List.getElem?_append_right (by omega)]
    by_cases d : j = a.length
    · rw [if_pos d, d, Nat.sub_self]
      rfl
    · rw [if_neg d, List.getElem?_eq_none (by simp only [List.length_cons, List.length_nil]; omega)]
      rfl
theorem plc_ext {a b : List Int} (l : a.length = b.length) (h : ∀ i, i < a.length → plc a i = plc b i) : a = b := by
  refine List.ext_getElem l fun i x y => ?_
  have := h i x
  rwa [plc_get x, plc_get y] at this
def ext1 (t : Int) (s : List Int) : List (List Int) := (List.range (t + 1).toNat).map fun p : Nat => s ++ [((p : Nat) : Int)]
def bx (tops : List Int) : Nat → List (List Int)
  | 0 => [[]]
  | i + 1 => (bx tops i).flatMap (ext1 (plc tops i))
theorem bx_mem (tops : List Int) : ∀ (i : Nat) (s : List Int), s ∈ bx tops i ↔ s.length = i ∧ ∀ j, j < i → 0 ≤ plc s j ∧ plc s j ≤ plc tops j
  | 0, s => by
    show s ∈ [[]] ↔ _
    rw [List.mem_singleton]
    constructor
    · rintro rfl
      exact ⟨rfl, fun j h => absurd h (Nat.not_lt_zero _)⟩
    · rintro ⟨h, _⟩
      exact List.length_eq_zero_iff.mp h
  | i + 1, s => by
    show s ∈ (bx tops i).flatMap (ext1 (plc tops i)) ↔ _
    rw [List.mem_flatMap]
    constructor
    · rintro ⟨a, ha, hs⟩
      obtain ⟨l, h⟩ := (bx_mem tops i a).mp ha
      obtain ⟨p, hp, rfl⟩ := List.mem_map.mp hs
      have hp' := List.mem_range.mp hp
      refine ⟨by rw [List.length_append, l]; rfl, fun j hj => ?_⟩
      rw [plc_app]
      by_cases c : j < a.length
      · rw [if_pos c]
        exact h j (by omega)
      · rw [if_neg c, if_pos (by omega), show j = i by omega]
        omega
    · rintro ⟨l, h⟩
      have e : s = s.take i ++ [plc s i] := by
        refine plc_ext (by rw [List.length_append, List.length_take]; simp only [List.length_cons, List.length_nil]; omega) fun j hj => ?_
        rw [plc_app]
        by_cases c : j < (s.take i).length
        · rw [if_pos c]
          rw [List.length_take] at c
          rw [plc_get hj, plc_get (by rw [List.length_take]; omega), List.getElem_take]
        · rw [if_neg c]
          rw [List.length_take] at c
          rw [if_pos (by rw [List.length_take]; omega), show j = i by omega]
      have hi := h i (Nat.lt_succ_self i)
      refine ⟨s.take i, (bx_mem tops i _).mpr ⟨by rw [List.length_take]; omega, fun j hj => ?_⟩, ?_⟩
      · have hj' : j < (s.take i).length := by rw [List.length_take]; omega
        rw [plc_get hj', List.getElem_take, ← plc_get (show j < s.length by omega)]
        exact h j (by omega)
      · refine List.mem_map.mpr ⟨(plc s i).toNat, List.mem_range.mpr (by omega), ?_⟩
        rw [Int.toNat_of_nonneg hi.1]
        exact e.symm
def goodB (rs : List Rl) (st : List Int) : Bool := rs.all (kept st)
theorem goodB_iff {rs : List Rl} {st : List Int} : goodB rs st = true ↔ Good rs st := List.all_eq_true
def goods (tops : List Int) (rs : List Rl) : List (List Int) := (bx tops tops.length).filter (goodB rs)
theorem goods_mem {tops : List Int} {rs : List Rl} {s : List Int} : s ∈ goods tops rs ↔ (s.length = tops.length ∧ ∀ j, j < tops.length → 0 ≤ plc s j ∧ plc s j ≤ plc tops j) ∧ Good rs s := by
  unfold goods
  rw [List.mem_filter, bx_mem, goodB_iff]
theorem set_back {b : List Int} {i : Nat} {y : Int} (hi : i < b.length) : (b.set i y).set i (plc b i) = b := by
  refine plc_ext (by rw [List.length_set, List.length_set]) fun j hj => ?_
  by_cases c : i = j
  · subst c
    rw [plc_set_self (by rw [List.length_set]; exact hi)]
  · rw [plc_set_ne c, plc_set_ne c]
theorem set_same {b : List Int} {i : Nat} (hi : i < b.length) : b.set i (plc b i) = b := by
  refine plc_ext (by rw [List.length_set]) fun j hj => ?_
  by_cases c : i = j
  · subst c
    rw [plc_set_self hi]
  · rw [plc_set_ne c]
section
variable {tops : List Int} {rs : List Rl}
theorem goods_len {s : List Int} (h : s ∈ goods tops rs) : s.length = tops.length := (goods_mem.mp h).1.1
theorem goods_good {s : List Int} (h : s ∈ goods tops rs) : Good rs s := (goods_mem.mp h).2
theorem goods_bd (fw : Few tops) {s : List Int} (h : s ∈ goods tops rs) : TS.Bd 4 s := fun m hm => by
  obtain ⟨i, hi, e⟩ := List.getElem_of_mem hm
  have l := goods_len h
  have b := (goods_mem.mp h).1.2 i (by omega)
  rw [plc_get hi, e] at b
  have t := fw _ (List.getElem_mem (show i < tops.length by omega))
  rw [← plc_get] at t
  omega
end
theorem nodup_len {α : Type} [DecidableEq α] : ∀ (l m : List α), l.Nodup → (∀ x ∈ l, x ∈ m) → l.length ≤ m.length
  | [], _, _, _ => Nat.zero_le _
  | x :: l, m, nd, h => by
    obtain ⟨n1, n2⟩ := List.nodup_cons.mp nd
    have ih := nodup_len l (m.erase x) n2 fun y hy => (List.mem_erase_of_ne (fun e : y = x => n1 (by rw [← e]; exact hy))).mpr (h y (List.mem_cons_of_mem _ hy))
    have hx := h x List.mem_cons_self
    rw [List.length_erase_of_mem hx] at ih
    have : 0 < m.length := List.length_pos_of_mem hx
    rw [List.length_cons]
    omega

end K18

set_option Elab.async false
set_option linter.all false
set_option maxRecDepth 100000
namespace K18
open PySem PySem.Spec PyProof.Rows L2 NB

/-! ### sides and chains: the mathematics -/
section
variable (tops : List Int) (rs : List Rl)
def loS (s : Sd) : Int := if s.2.1 then s.2.2 else 0
def hiS (s : Sd) : Int := if s.2.1 then plc tops s.1 else s.2.2
def barsB (a b : Sd) : Bool := decide (a.1 = b.1) && (decide (hiS tops a < loS b) || decide (hiS tops b < loS a))
def withinB (a b : Sd) : Bool := decide (a.1 = b.1) && (decide (loS b ≤ loS a) && decide (hiS tops a ≤ hiS tops b))
def led1 (a : Sd) (q : Rl) : List Sd := (if barsB tops a q.1 then [q.2] else []) ++ (if barsB tops a q.2 then [q.1] else [])
def ledL (a : Sd) : List Sd := rs.flatMap (led1 tops a)
def othS (s : Sd) : Option Sd := if 0 < loS s then some (s.1, false, loS s - 1) else if hiS tops s < plc tops s.1 then some (s.1, true, hiS tops s + 1) else none
inductive Rea (S : Sd → Prop) : Sd → Prop where
  | base {s : Sd} : S s → Rea S s
  | step {a b : Sd} : Rea S a → b ∈ ledL tops rs a → Rea S b
end
section
variable {tops : List Int} {rs : List Rl}
theorem SideOk.lt {s : Sd} (h : SideOk tops s) : s.1 < tops.length := (List.getElem?_eq_some_iff.mp h.choose_spec.1).1
theorem SideOk.bd {s : Sd} (h : SideOk tops s) : 0 ≤ s.2.2 ∧ s.2.2 ≤ plc tops s.1 := by
  obtain ⟨t, e, h0, h1⟩ := h
  have : plc tops s.1 = t := by
    show tops.getD s.1 0 = t
    rw [List.getD_eq_getElem?_getD, e]
    rfl
  rw [this]
  exact ⟨h0, h1⟩
theorem SideOk.mk' {i : Nat} {b : Bool} {p : Int} (li : i < tops.length) (h0 : 0 ≤ p) (h1 : p ≤ plc tops i) : SideOk tops (i, b, p) := by
  refine ⟨tops[i], List.getElem?_eq_getElem li, h0, ?_⟩
  have : plc tops i = tops[i] := by
    show tops.getD i 0 = _
    rw [List.getD_eq_getElem?_getD, List.getElem?_eq_getElem li]
    rfl
  rw [← this]
  exact h1
theorem inB_iff {st : List Int} {s : Sd} (h : s.1 < st.length) : inB st s = true ↔ (if s.2.1 then s.2.2 ≤ plc st s.1 else plc st s.1 ≤ s.2.2) := by
  have e : plc st s.1 = st[s.1] := by
    show st.getD s.1 0 = _
    rw [List.getD_eq_getElem?_getD, List.getElem?_eq_getElem h]
    rfl
  unfold inB
  rw [List.getElem?_eq_getElem h, e]
  show (if s.2.1 = true then _ else _) = true ↔ _
  split <;> exact decide_eq_true_iff
theorem inFr {st : List Int} {i : Nat} {p : Int} (h : i < st.length) : inB st (i, true, p) = true ↔ p ≤ plc st i := inB_iff (s := (i, true, p)) h
theorem inTo {st : List Int} {i : Nat} {p : Int} (h : i < st.length) : inB st (i, false, p) = true ↔ plc st i ≤ p := inB_iff (s := (i, false, p)) h
theorem in_span {st : List Int} (hg : st ∈ goods tops rs) {s : Sd} (ok : SideOk tops s) : inB st s = true ↔ loS s ≤ plc st s.1 ∧ plc st s.1 ≤ hiS tops s := by
  obtain ⟨⟨l, bd⟩, _⟩ := goods_mem.mp hg
  have lt := ok.lt
  have b := bd s.1 lt
  rw [inB_iff (by omega)]
  unfold loS hiS
  split <;> omega
theorem bars_iff {a b : Sd} : barsB tops a b = true ↔ a.1 = b.1 ∧ (hiS tops a < loS b ∨ hiS tops b < loS a) := by
  unfold barsB
  simp only [Bool.and_eq_true, Bool.or_eq_true, decide_eq_true_eq]
theorem within_iff {a b : Sd} : withinB tops a b = true ↔ a.1 = b.1 ∧ loS b ≤ loS a ∧ hiS tops a ≤ hiS tops b := by
  unfold withinB
  simp only [Bool.and_eq_true, decide_eq_true_eq]
theorem bars_symm {a b : Sd} (h : barsB tops a b = true) : barsB tops b a = true := by
  rw [bars_iff] at h ⊢
  exact ⟨h.1.symm, h.2.symm⟩
theorem bars_out {st : List Int} (hg : st ∈ goods tops rs) {a b : Sd} (oa : SideOk tops a) (ob : SideOk tops b) (h : barsB tops a b = true) (ha : inB st a = true) : inB st b = false := by
  cases e : inB st b with
  | false => rfl
  | true =>
    rw [in_span hg oa] at ha
    rw [in_span hg ob] at e
    rw [bars_iff] at h
    obtain ⟨h1, h2⟩ := h
    rw [h1] at ha
    omega
theorem led_iff {a b : Sd} : b ∈ ledL tops rs a ↔ ∃ q ∈ rs, (barsB tops a q.1 = true ∧ b = q.2) ∨ (barsB tops a q.2 = true ∧ b = q.1) := by
  unfold ledL
  rw [List.mem_flatMap]
  constructor
  · rintro ⟨q, hq, h⟩
    refine ⟨q, hq, ?_⟩
    unfold led1 at h
    rcases List.mem_append.mp h with h | h
    · split at h
      · rename_i c
        exact .inl ⟨c, List.mem_singleton.mp h⟩
      · exact absurd h List.not_mem_nil
    · split at h
      · rename_i c
        exact .inr ⟨c, List.mem_singleton.mp h⟩
      · exact absurd h List.not_mem_nil
  · rintro ⟨q, hq, h⟩
    refine ⟨q, hq, ?_⟩
    unfold led1
    rcases h with ⟨c, rfl⟩ | ⟨c, rfl⟩
    · rw [if_pos c]
      exact List.mem_append_left _ (List.mem_singleton.mpr rfl)
    · rw [if_pos c]
      exact List.mem_append_right _ (List.mem_singleton.mpr rfl)
theorem led_ok (rok : ∀ q ∈ rs, RuleOk tops q) {a b : Sd} (h : b ∈ ledL tops rs a) : SideOk tops b := by
  obtain ⟨q, hq, ⟨_, rfl⟩ | ⟨_, rfl⟩⟩ := led_iff.mp h
  · exact (rok q hq).2
  · exact (rok q hq).1
theorem Rea.ok (rok : ∀ q ∈ rs, RuleOk tops q) {S : Sd → Prop} (hS : ∀ s, S s → SideOk tops s) {b : Sd} (h : Rea tops rs S b) : SideOk tops b := by
  cases h with
  | base h => exact hS _ h
  | step _ h => exact led_ok rok h
theorem Rea.refl (a : Sd) : Rea tops rs (· = a) a := .base rfl
theorem Rea.trans {S : Sd → Prop} {a b : Sd} (h : Rea tops rs S a) (h' : Rea tops rs (· = a) b) : Rea tops rs S b := by
  induction h' with
  | base e => exact e ▸ h
  | step _ l ih => exact .step ih l
theorem Rea.mono {S T : Sd → Prop} (hST : ∀ s, S s → T s) {b : Sd} (h : Rea tops rs S b) : Rea tops rs T b := by
  induction h with
  | base e => exact .base (hST _ e)
  | step _ l ih => exact .step ih l
theorem Rea.one {S : Sd → Prop} {b : Sd} (h : Rea tops rs S b) : ∃ s, S s ∧ Rea tops rs (· = s) b := by
  induction h with
  | base e => exact ⟨_, e, .base rfl⟩
  | step _ l ih => exact ih.elim fun s h => ⟨s, h.1, .step h.2 l⟩
/-- what is reached is in wherever the starts are -/
theorem Rea.in' (rok : ∀ q ∈ rs, RuleOk tops q) {S : Sd → Prop} (hS : ∀ s, S s → SideOk tops s) {st : List Int} (hg : st ∈ goods tops rs) (hi : ∀ s, S s → inB st s = true) {b : Sd} (h : Rea tops rs S b) : inB st b = true := by
  induction h with
  | base e => exact hi _ e
  | step r l ih =>
    have oa := r.ok rok hS
    obtain ⟨q, hq, h⟩ := led_iff.mp l
    have k := (goods_mem.mp hg).2 q hq
    unfold kept at k
    rw [Bool.or_eq_true] at k
    rcases h with ⟨c, rfl⟩ | ⟨c, rfl⟩
    · have := bars_out hg oa (rok q hq).1 c ih
      rw [this] at k
      exact k.resolve_left (by decide)
    · have := bars_out hg oa (rok q hq).2 c ih
      rw [this] at k
      exact k.resolve_right (by decide)
/-- the way back: who bars what is reached leads to what bars the start -/
theorem Rea.turn {w b : Sd} (h : Rea tops rs (· = w) b) : ∀ {a : Sd}, barsB tops a b = true → ∃ z, Rea tops rs (· = a) z ∧ barsB tops z w = true := by
  induction h with
  | base e => exact fun {a} h => ⟨a, .base rfl, e ▸ h⟩
  | step r l ih =>
    intro a h
    obtain ⟨q, hq, ⟨c, rfl⟩ | ⟨c, rfl⟩⟩ := led_iff.mp l
    · obtain ⟨z, hz, bz⟩ := ih (bars_symm c)
      exact ⟨z, (Rea.step (Rea.refl a) (led_iff.mpr ⟨q, hq, .inr ⟨h, rfl⟩⟩)).trans hz, bz⟩
    · obtain ⟨z, hz, bz⟩ := ih (bars_symm c)
      exact ⟨z, (Rea.step (Rea.refl a) (led_iff.mpr ⟨q, hq, .inl ⟨h, rfl⟩⟩)).trans hz, bz⟩
theorem Rea.first {w z : Sd} (h : Rea tops rs (· = w) z) : z = w ∨ ∃ q ∈ rs, ∃ f x, ((q.1 = f ∧ q.2 = x) ∨ (q.2 = f ∧ q.1 = x)) ∧ barsB tops w f = true ∧ Rea tops rs (· = x) z := by
  induction h with
  | base e => exact .inl e
  | step r l ih =>
    rcases ih with rfl | ⟨q, hq, f, x, e, c, r'⟩
    · obtain ⟨q, hq, ⟨c, rfl⟩ | ⟨c, rfl⟩⟩ := led_iff.mp l
      · exact .inr ⟨q, hq, _, _, .inl ⟨rfl, rfl⟩, c, .base rfl⟩
      · exact .inr ⟨q, hq, _, _, .inr ⟨rfl, rfl⟩, c, .base rfl⟩
    · exact .inr ⟨q, hq, f, x, e, c, .step r' l⟩
/-- what follows: for each thing the greatest "from", the least "to" -/
structure Fol (tops : List Int) (rs : List Rl) (S : Sd → Prop) (lows highs : List Int) : Prop where
  ll : lows.length = tops.length
  lh : highs.length = tops.length
  l0 : ∀ i, i < tops.length → plc lows i = 0 ∨ Rea tops rs S (i, true, plc lows i)
  h0 : ∀ i, i < tops.length → plc highs i = plc tops i ∨ Rea tops rs S (i, false, plc highs i)
  l1 : ∀ i p, Rea tops rs S (i, true, p) → p ≤ plc lows i
  h1 : ∀ i p, Rea tops rs S (i, false, p) → plc highs i ≤ p
  lz : ∀ i, i < tops.length → 0 ≤ plc lows i
  hz : ∀ i, i < tops.length → plc highs i ≤ plc tops i
def pullF (lows highs st : List Int) : List Int := (List.range st.length).map fun i => max (plc lows i) (min (plc st i) (plc highs i))
theorem pull_len (lows highs st : List Int) : (pullF lows highs st).length = st.length := by
  unfold pullF
  rw [List.length_map, List.length_range]
theorem plc_pull {lows highs st : List Int} {i : Nat} (h : i < st.length) : plc (pullF lows highs st) i = max (plc lows i) (min (plc st i) (plc highs i)) := by
  show (pullF lows highs st).getD i 0 = _
  unfold pullF
  rw [List.getD_eq_getElem?_getD, List.getElem?_map, List.getElem?_range h]
  rfl
theorem Fol.has {S : Sd → Prop} {lows highs : List Int} (F : Fol tops rs S lows highs) {st : List Int} {s : Sd} (lt : s.1 < st.length) (hs : Rea tops rs S s) (hb : plc lows s.1 ≤ plc st s.1 ∧ plc st s.1 ≤ plc highs s.1) : inB st s = true := by
  obtain ⟨i, b, p⟩ := s
  have hb1 : plc lows i ≤ plc st i := hb.1
  have hb2 : plc st i ≤ plc highs i := hb.2
  cases b with
  | true =>
    have := F.l1 i p hs
    rw [inFr (show i < st.length from lt)]
    exact Int.le_trans this hb1
  | false =>
    have := F.h1 i p hs
    rw [inTo (show i < st.length from lt)]
    exact Int.le_trans hb2 this
/-- where bounds don't cross, a good standing pulled within them is good -/
theorem Fol.good (rok : ∀ q ∈ rs, RuleOk tops q) {S : Sd → Prop} (hS : ∀ s, S s → SideOk tops s) {lows highs : List Int} (F : Fol tops rs S lows highs) (lh : ∀ i, i < tops.length → plc lows i ≤ plc highs i) {st : List Int} (hg : st ∈ goods tops rs) :
    pullF lows highs st ∈ goods tops rs ∧ ∀ s, Rea tops rs S s → inB (pullF lows highs st) s = true := by
  obtain ⟨⟨l, bd⟩, gd⟩ := goods_mem.mp hg
  have lp := pull_len lows highs st
  have hv : ∀ i, i < tops.length → plc lows i ≤ plc (pullF lows highs st) i ∧ plc (pullF lows highs st) i ≤ plc highs i := fun i hi => by
    have := lh i hi
    rw [plc_pull (by omega)]
    omega
  have has : ∀ s, Rea tops rs S s → inB (pullF lows highs st) s = true := fun s hs => by
    have lt := (hs.ok rok hS).lt
    exact F.has (by omega) hs (hv _ lt)
  -- a side that goes out is barred by what follows
  have out : ∀ s, SideOk tops s → inB st s = true → inB (pullF lows highs st) s = true ∨ ∃ z, Rea tops rs S z ∧ barsB tops z s = true := fun s ok hi => by
    obtain ⟨i, c, p⟩ := s
    have lt : i < tops.length := ok.lt
    have b : 0 ≤ p ∧ p ≤ plc tops i := ok.bd
    have l0 := F.l0 i lt
    have h0 := F.h0 i lt
    have lz := F.lz i lt
    have hz := F.hz i lt
    have bs := bd i lt
    have lhi := lh i lt
    cases c with
    | true =>
      have hi' := (inFr (by omega)).mp hi
      rw [inFr (by omega), plc_pull (by omega)]
      by_cases c : p ≤ max (plc lows i) (min (plc st i) (plc highs i))
      · exact .inl c
      · refine .inr ⟨(i, false, plc highs i), h0.resolve_left (by omega), ?_⟩
        rw [bars_iff]
        refine ⟨rfl, .inl ?_⟩
        show plc highs i < p
        omega
    | false =>
      have hi' := (inTo (by omega)).mp hi
      rw [inTo (by omega), plc_pull (by omega)]
      by_cases c : max (plc lows i) (min (plc st i) (plc highs i)) ≤ p
      · exact .inl c
      · refine .inr ⟨(i, true, plc lows i), l0.resolve_left (by omega), ?_⟩
        rw [bars_iff]
        refine ⟨rfl, .inr ?_⟩
        show p < plc lows i
        omega
  refine ⟨goods_mem.mpr ⟨⟨by omega, fun i hi => ?_⟩, fun q hq => ?_⟩, has⟩
  · have := hv i hi
    have := F.lz i hi
    have := F.hz i hi
    omega
  · have k := gd q hq
    unfold kept at k ⊢
    rw [Bool.or_eq_true] at k ⊢
    rcases k with k | k
    · rcases out q.1 (rok q hq).1 k with h | ⟨z, hz, c⟩
      · exact .inl h
      · exact .inr (has _ (.step hz (led_iff.mpr ⟨q, hq, .inl ⟨c, rfl⟩⟩)))
    · rcases out q.2 (rok q hq).2 k with h | ⟨z, hz, c⟩
      · exact .inr h
      · exact .inl (has _ (.step hz (led_iff.mpr ⟨q, hq, .inr ⟨c, rfl⟩⟩)))
theorem Fol.sound (rok : ∀ q ∈ rs, RuleOk tops q) {S : Sd → Prop} (hS : ∀ s, S s → SideOk tops s) {lows highs : List Int} (F : Fol tops rs S lows highs) {st : List Int} (hg : st ∈ goods tops rs) (hi : ∀ s, S s → inB st s = true) {i : Nat} (li : i < tops.length) : plc lows i ≤ plc st i ∧ plc st i ≤ plc highs i := by
  obtain ⟨⟨l, bd⟩, _⟩ := goods_mem.mp hg
  have b := bd i li
  constructor
  · rcases F.l0 i li with h | h
    · omega
    · exact (inFr (by omega)).mp (h.in' rok hS hg hi)
  · rcases F.h0 i li with h | h
    · omega
    · exact (inTo (by omega)).mp (h.in' rok hS hg hi)
theorem Fol.cross (rok : ∀ q ∈ rs, RuleOk tops q) {S : Sd → Prop} (hS : ∀ s, S s → SideOk tops s) {lows highs : List Int} (F : Fol tops rs S lows highs) {st : List Int} (hg : st ∈ goods tops rs) (hi : ∀ s, S s → inB st s = true) (i : Nat) (li : i < tops.length) : plc lows i ≤ plc highs i := by
  have := F.sound rok hS hg hi li
  omega
/-- some bounds follow of any sides -/
theorem fol_ex (rok : ∀ q ∈ rs, RuleOk tops q) (pl : ∀ i, i < tops.length → 0 ≤ plc tops i) {S : Sd → Prop} (hS : ∀ s, S s → SideOk tops s) : ∃ lows highs, Fol tops rs S lows highs := by
  have up : ∀ i, i < tops.length → ∃ m : Int, (m = 0 ∨ Rea tops rs S (i, true, m)) ∧ 0 ≤ m ∧ ∀ p, Rea tops rs S (i, true, p) → p ≤ m := fun i hi => by
    have main : ∀ n : Nat, (∀ p : Int, Rea tops rs S (i, true, p) → p ≤ (n : Int)) → ∃ m : Int, (m = 0 ∨ Rea tops rs S (i, true, m)) ∧ 0 ≤ m ∧ ∀ p, Rea tops rs S (i, true, p) → p ≤ m := by
      intro n
      induction n with
      | zero => exact fun h => ⟨0, .inl rfl, Int.le_refl _, fun p hp => by have := h p hp; omega⟩
      | succ n ih =>
        intro h
        by_cases c : Rea tops rs S (i, true, ((n + 1 : Nat) : Int))
        · exact ⟨_, .inr c, by omega, h⟩
        · refine ih fun p hp => ?_
          have := h p hp
          rcases Int.lt_or_eq_of_le this with l | e
          · omega
          · rw [e] at hp
            exact absurd hp c
    refine main (plc tops i).toNat fun p hp => ?_
    have := (hp.ok rok hS).bd
    have h2 : p ≤ plc tops i := this.2
    omega
  have dn : ∀ i, i < tops.length → ∃ m : Int, (m = plc tops i ∨ Rea tops rs S (i, false, m)) ∧ m ≤ plc tops i ∧ ∀ p, Rea tops rs S (i, false, p) → m ≤ p := fun i hi => by
    have main : ∀ n : Nat, (∀ p : Int, Rea tops rs S (i, false, p) → plc tops i - n ≤ p) → ∃ m : Int, (m = plc tops i ∨ Rea tops rs S (i, false, m)) ∧ m ≤ plc tops i ∧ ∀ p, Rea tops rs S (i, false, p) → m ≤ p := by
      intro n
      induction n with
      | zero => exact fun h => ⟨_, .inl rfl, Int.le_refl _, fun p hp => by have := h p hp; omega⟩
      | succ n ih =>
        intro h
        by_cases c : Rea tops rs S (i, false, plc tops i - ((n + 1 : Nat) : Int))
        · exact ⟨_, .inr c, by omega, h⟩
        · refine ih fun p hp => ?_
          have := h p hp
          rcases Int.lt_or_eq_of_le this with l | e
          · omega
          · rw [← e] at hp
            exact absurd hp c
    refine main (plc tops i).toNat fun p hp => ?_
    have := (hp.ok rok hS).bd
    have h2 : 0 ≤ p := this.1
    have := pl i hi
    omega
  let lo : Nat → Int := fun i => if h : i < tops.length then (up i h).choose else 0
  let hi : Nat → Int := fun i => if h : i < tops.length then (dn i h).choose else 0
  have rg : ∀ (f : Nat → Int) (i : Nat), i < tops.length → plc ((List.range tops.length).map f) i = f i := fun f i h => by
    show ((List.range tops.length).map f).getD i 0 = _
    rw [List.getD_eq_getElem?_getD, List.getElem?_map, List.getElem?_range h]
    rfl
  have elo : ∀ i (h : i < tops.length), lo i = (up i h).choose := fun i h => dif_pos h
  have ehi : ∀ i (h : i < tops.length), hi i = (dn i h).choose := fun i h => dif_pos h
  refine ⟨(List.range tops.length).map lo, (List.range tops.length).map hi, by simp, by simp, fun i h => ?_, fun i h => ?_, fun i p h => ?_, fun i p h => ?_, fun i h => ?_, fun i h => ?_⟩
  · rw [rg lo i h, elo i h]
    exact (up i h).choose_spec.1
  · rw [rg hi i h, ehi i h]
    exact (dn i h).choose_spec.1
  · have li : i < tops.length := (h.ok rok hS).lt
    rw [rg lo i li, elo i li]
    exact (up i li).choose_spec.2.2 p h
  · have li : i < tops.length := (h.ok rok hS).lt
    rw [rg hi i li, ehi i li]
    exact (dn i li).choose_spec.2.2 p h
  · rw [rg lo i h, elo i h]
    exact (up i h).choose_spec.2.1
  · rw [rg hi i h, ehi i h]
    exact (dn i h).choose_spec.2.1
/-- two sides to a rule: a side that leads to nothing that bars it is in at some good standing, where some is good -/
theorem some_good (rok : ∀ q ∈ rs, RuleOk tops q) (pl : ∀ i, i < tops.length → 0 ≤ plc tops i) {st : List Int} (hg : st ∈ goods tops rs) {w : Sd} (ok : SideOk tops w) : (∃ g ∈ goods tops rs, inB g w = true) ∨ ∃ z, Rea tops rs (· = w) z ∧ barsB tops z w = true := by
  have hS : ∀ s, s = w → SideOk tops s := fun s e => e ▸ ok
  obtain ⟨lows, highs, F⟩ := fol_ex rok pl hS
  by_cases c : ∀ i, i < tops.length → plc lows i ≤ plc highs i
  · obtain ⟨g, h⟩ := F.good rok hS c hg
    exact .inl ⟨_, g, h w (.base rfl)⟩
  · obtain ⟨i, h⟩ := Classical.not_forall.mp c
    obtain ⟨hi, h⟩ := Classical.not_imp.mp h
    have p0 := pl i hi
    have a : Rea tops rs (· = w) (i, true, plc lows i) := (F.l0 i hi).resolve_left fun e => by
      rcases F.h0 i hi with h' | h'
      · omega
      · have := (h'.ok rok hS).bd
        have h2 : 0 ≤ plc highs i := this.1
        omega
    have b : Rea tops rs (· = w) (i, false, plc highs i) := (F.h0 i hi).resolve_left fun e => by
      have := (a.ok rok hS).bd
      have h2 : plc lows i ≤ plc tops i := this.2
      omega
    obtain ⟨z, hz, bz⟩ := b.turn (a := (i, true, plc lows i)) (by
      rw [bars_iff]
      refine ⟨rfl, .inr ?_⟩
      show plc highs i < plc lows i
      omega)
    exact .inr ⟨z, a.trans hz, bz⟩
/-- the sides of rules that their other ones lead to -/
def RuleSd (rs : List Rl) (s : Sd) : Prop := ∃ q ∈ rs, s = q.1 ∨ s = q.2
def Tn (tops : List Int) (rs : List Rl) (s : Sd) : Prop := ∃ o, othS tops s = some o ∧ ∃ z, Rea tops rs (· = o) z ∧ withinB tops z s = true
def Frc (tops : List Int) (rs : List Rl) (s : Sd) : Prop := RuleSd rs s ∧ Tn tops rs s
theorem oth_cases {s o : Sd} (h : othS tops s = some o) : (s.2.1 = true ∧ 0 < s.2.2 ∧ o = (s.1, false, s.2.2 - 1)) ∨ (s.2.1 = false ∧ s.2.2 < plc tops s.1 ∧ o = (s.1, true, s.2.2 + 1)) := by
  obtain ⟨i, c, p⟩ := s
  cases c with
  | false =>
    change (if (0 : Int) < 0 then _ else if p < plc tops i then some (i, true, p + 1) else none) = some o at h
    rw [if_neg (by decide)] at h
    split at h
    · rename_i c
      cases h
      exact .inr ⟨rfl, c, rfl⟩
    · cases h
  | true =>
    change (if 0 < p then some (i, false, p - 1) else if plc tops i < plc tops i then _ else none) = some o at h
    split at h
    · rename_i c
      cases h
      exact .inl ⟨rfl, c, rfl⟩
    · rw [if_neg (Int.lt_irrefl _)] at h
      cases h
theorem oth_from {i : Nat} {p : Int} (h : 0 < p) : othS tops (i, true, p) = some (i, false, p - 1) := by
  show (if 0 < p then some (i, false, p - 1) else _) = _
  rw [if_pos h]
theorem oth_to {i : Nat} {p : Int} (h : p < plc tops i) : othS tops (i, false, p) = some (i, true, p + 1) := by
  show (if (0 : Int) < 0 then _ else if p < plc tops i then some (i, true, p + 1) else none) = _
  rw [if_neg (by decide), if_pos h]
theorem oth_ok {s o : Sd} (ok : SideOk tops s) (h : othS tops s = some o) : SideOk tops o := by
  have lt := ok.lt
  have b := ok.bd
  rcases oth_cases h with ⟨_, c, rfl⟩ | ⟨_, c, rfl⟩
  · exact SideOk.mk' lt (by omega) (by omega)
  · exact SideOk.mk' lt (by omega) (by omega)
theorem oth_in {st : List Int} (hg : st ∈ goods tops rs) {s o : Sd} (ok : SideOk tops s) (h : othS tops s = some o) : inB st o = !inB st s := by
  have lt := ok.lt
  have l := (goods_mem.mp hg).1.1
  rw [Bool.eq_iff_iff, Bool.not_eq_true', ← Bool.not_eq_true]
  obtain ⟨i, c, p⟩ := s
  have li : i < st.length := by
    have : i < tops.length := lt
    omega
  rcases oth_cases h with ⟨e, _, rfl⟩ | ⟨e, _, rfl⟩
  · cases (show c = true from e)
    rw [inFr li]
    exact (inTo (p := p - 1) li).trans ⟨fun h => by omega, fun h => by omega⟩
  · cases (show c = false from e)
    rw [inTo li]
    exact (inFr (p := p + 1) li).trans ⟨fun h => by omega, fun h => by omega⟩
theorem Tn.in' (rok : ∀ q ∈ rs, RuleOk tops q) {st : List Int} (hg : st ∈ goods tops rs) {s : Sd} (ok : SideOk tops s) (h : Tn tops rs s) : inB st s = true := by
  obtain ⟨o, eo, z, hz, wi⟩ := h
  have oo := oth_ok ok eo
  cases e : inB st s with
  | true => rfl
  | false =>
    have io : inB st o = true := by rw [oth_in hg ok eo, e]; rfl
    have iz := hz.in' rok (fun s (h : s = o) => h ▸ oo) hg (fun s (h : s = o) => h ▸ io)
    have oz := hz.ok rok (fun s (h : s = o) => h ▸ oo)
    rw [in_span hg oz] at iz
    rw [within_iff] at wi
    have : inB st s = true := (in_span hg ok).mpr (by
      obtain ⟨w1, w2, w3⟩ := wi
      rw [w1] at iz
      omega)
    rw [e] at this
    cases this
theorem frc_ok (rok : ∀ q ∈ rs, RuleOk tops q) {s : Sd} (h : Frc tops rs s) : SideOk tops s := by
  obtain ⟨⟨q, hq, rfl | rfl⟩, _⟩ := h
  · exact (rok q hq).1
  · exact (rok q hq).2
theorem reach_rule {w z : Sd} (h : Rea tops rs (· = w) z) (ne : z ≠ w) : RuleSd rs z := by
  cases h with
  | base e => exact absurd e ne
  | step _ l =>
    obtain ⟨q, hq, ⟨_, rfl⟩ | ⟨_, rfl⟩⟩ := led_iff.mp l
    · exact ⟨q, hq, .inr rfl⟩
    · exact ⟨q, hq, .inl rfl⟩
/-- the bounds that follow of what is forced are taken by good standings -/
theorem least_ex (rok : ∀ q ∈ rs, RuleOk tops q) (pl : ∀ i, i < tops.length → 0 ≤ plc tops i) {st : List Int} (hg : st ∈ goods tops rs) {lows highs : List Int} (F : Fol tops rs (Frc tops rs) lows highs) {i : Nat} (li : i < tops.length) : ∃ g ∈ goods tops rs, plc g i = plc lows i := by
  have hS : ∀ s, Frc tops rs s → SideOk tops s := fun s h => frc_ok rok h
  have hin : ∀ g ∈ goods tops rs, ∀ s, Frc tops rs s → inB g s = true := fun g hg s h => h.2.in' rok hg (hS s h)
  have l0 := F.lz i li
  have lt : plc lows i ≤ plc tops i := by
    have := F.cross rok hS hg (hin st hg) i li
    have := F.hz i li
    omega
  have okw : SideOk tops (i, false, plc lows i) := SideOk.mk' li l0 lt
  rcases some_good rok pl hg okw with ⟨g, hg', ig⟩ | ⟨z, hz, bz⟩
  · refine ⟨g, hg', ?_⟩
    have := (in_span hg' okw).mp ig
    have h2 : plc g i ≤ plc lows i := this.2
    have := (F.sound rok hS hg' (hin g hg') li).1
    omega
  · exfalso
    have oz := hz.ok rok (fun s (h : s = _) => h ▸ okw)
    have bd := oz.bd
    rw [bars_iff] at bz
    obtain ⟨e1, e2⟩ := bz
    obtain ⟨k, c, q⟩ := z
    simp only at e1 bd
    subst e1
    cases c with
    | false =>
      have e2' : q < 0 ∨ plc lows k < 0 := e2
      omega
    | true =>
      have e2' : plc tops k < 0 ∨ plc lows k < q := e2
      have hq : plc lows k < q := by omega
      have ne : ((k, true, q) : Sd) ≠ (k, false, plc lows k) := fun e => by cases e
      rcases hz.first with e | ⟨r, hr, f, x, ef, bf, rx⟩
      · exact ne e
      · have of' : SideOk tops f := by
          rcases ef with ⟨rfl, _⟩ | ⟨rfl, _⟩
          · exact (rok r hr).1
          · exact (rok r hr).2
        have rf : RuleSd rs f := by
          rcases ef with ⟨rfl, _⟩ | ⟨rfl, _⟩
          · exact ⟨r, hr, .inl rfl⟩
          · exact ⟨r, hr, .inr rfl⟩
        have bf' := of'.bd
        rw [bars_iff] at bf
        obtain ⟨e1, e2⟩ := bf
        obtain ⟨k', c, p⟩ := f
        simp only at e1 bf'
        subst e1
        cases c with
        | false =>
          have e2' : plc lows k < 0 ∨ p < 0 := e2
          omega
        | true =>
          have e2' : plc lows k < p ∨ plc tops k < 0 := e2
          have hp : plc lows k < p := by omega
          have led : ∀ m : Int, m < p → x ∈ ledL tops rs (k, false, m) := fun m hm => by
            have bb : barsB tops (k, false, m) (k, true, p) = true := by
              rw [bars_iff]
              exact ⟨rfl, .inl hm⟩
            rcases ef with ⟨e, rfl⟩ | ⟨e, rfl⟩
            · exact led_iff.mpr ⟨r, hr, .inl ⟨by rw [e]; exact bb, rfl⟩⟩
            · exact led_iff.mpr ⟨r, hr, .inr ⟨by rw [e]; exact bb, rfl⟩⟩
          by_cases c : p ≤ q
          · have : Frc tops rs (k, true, p) := by
              refine ⟨rf, (k, false, p - 1), oth_from (by omega), (k, true, q), (Rea.step (Rea.refl _) (led (p - 1) (by omega))).trans rx, ?_⟩
              rw [within_iff]
              exact ⟨rfl, c, Int.le_refl _⟩
            have := F.l1 k p (.base this)
            omega
          · have : Frc tops rs (k, true, q) := by
              refine ⟨reach_rule hz ne, (k, false, q - 1), oth_from (by omega), (k, true, q), (Rea.step (Rea.refl _) (led (q - 1) (by omega))).trans rx, ?_⟩
              rw [within_iff]
              exact ⟨rfl, Int.le_refl _, Int.le_refl _⟩
            have := F.l1 k q (.base this)
            omega
theorem most_ex (rok : ∀ q ∈ rs, RuleOk tops q) (pl : ∀ i, i < tops.length → 0 ≤ plc tops i) {st : List Int} (hg : st ∈ goods tops rs) {lows highs : List Int} (F : Fol tops rs (Frc tops rs) lows highs) {i : Nat} (li : i < tops.length) : ∃ g ∈ goods tops rs, plc g i = plc highs i := by
  have hS : ∀ s, Frc tops rs s → SideOk tops s := fun s h => frc_ok rok h
  have hin : ∀ g ∈ goods tops rs, ∀ s, Frc tops rs s → inB g s = true := fun g hg s h => h.2.in' rok hg (hS s h)
  have l0 := F.hz i li
  have lt : 0 ≤ plc highs i := by
    have := F.cross rok hS hg (hin st hg) i li
    have := F.lz i li
    omega
  have okw : SideOk tops (i, true, plc highs i) := SideOk.mk' li lt l0
  rcases some_good rok pl hg okw with ⟨g, hg', ig⟩ | ⟨z, hz, bz⟩
  · refine ⟨g, hg', ?_⟩
    have := (in_span hg' okw).mp ig
    have h2 : plc highs i ≤ plc g i := this.1
    have := (F.sound rok hS hg' (hin g hg') li).2
    omega
  · exfalso
    have oz := hz.ok rok (fun s (h : s = _) => h ▸ okw)
    have bd := oz.bd
    rw [bars_iff] at bz
    obtain ⟨e1, e2⟩ := bz
    obtain ⟨k, c, q⟩ := z
    simp only at e1 bd
    subst e1
    cases c with
    | true =>
      have e2' : plc tops k < plc highs k ∨ plc tops k < q := e2
      omega
    | false =>
      have e2' : q < plc highs k ∨ plc tops k < 0 := e2
      have hq : q < plc highs k := by omega
      have ne : ((k, false, q) : Sd) ≠ (k, true, plc highs k) := fun e => by cases e
      rcases hz.first with e | ⟨r, hr, f, x, ef, bf, rx⟩
      · exact ne e
      · have of' : SideOk tops f := by
          rcases ef with ⟨rfl, _⟩ | ⟨rfl, _⟩
          · exact (rok r hr).1
          · exact (rok r hr).2
        have rf : RuleSd rs f := by
          rcases ef with ⟨rfl, _⟩ | ⟨rfl, _⟩
          · exact ⟨r, hr, .inl rfl⟩
          · exact ⟨r, hr, .inr rfl⟩
        have bf' := of'.bd
        rw [bars_iff] at bf
        obtain ⟨e1, e2⟩ := bf
        obtain ⟨k', c, p⟩ := f
        simp only at e1 bf'
        subst e1
        cases c with
        | true =>
          have e2' : plc tops k < p ∨ plc tops k < plc highs k := e2
          omega
        | false =>
          have e2' : plc tops k < 0 ∨ p < plc highs k := e2
          have hp : p < plc highs k := by omega
          have led : ∀ m : Int, p < m → x ∈ ledL tops rs (k, true, m) := fun m hm => by
            have bb : barsB tops (k, true, m) (k, false, p) = true := by
              rw [bars_iff]
              exact ⟨rfl, .inr hm⟩
            rcases ef with ⟨e, rfl⟩ | ⟨e, rfl⟩
            · exact led_iff.mpr ⟨r, hr, .inl ⟨by rw [e]; exact bb, rfl⟩⟩
            · exact led_iff.mpr ⟨r, hr, .inr ⟨by rw [e]; exact bb, rfl⟩⟩
          have oth : ∀ m : Int, m < plc highs k → othS tops (k, false, m) = some (k, true, m + 1) := fun m hm => oth_to (by omega)
          by_cases c : q ≤ p
          · have : Frc tops rs (k, false, p) := by
              refine ⟨rf, (k, true, p + 1), oth p hp, (k, false, q), (Rea.step (Rea.refl _) (led (p + 1) (by omega))).trans rx, ?_⟩
              rw [within_iff]
              exact ⟨rfl, Int.le_refl _, c⟩
            have := F.h1 k p (.base this)
            omega
          · have : Frc tops rs (k, false, q) := by
              refine ⟨reach_rule hz ne, (k, true, q + 1), oth q hq, (k, false, q), (Rea.step (Rea.refl _) (led (q + 1) (by omega))).trans rx, ?_⟩
              rw [within_iff]
              exact ⟨rfl, Int.le_refl _, Int.le_refl _⟩
            have := F.h1 k q (.base this)
            omega
end
end K18

set_option Elab.async false
set_option linter.all false
set_option maxRecDepth 100000
namespace K18
open PySem PySem.Spec PyProof.Rows L2 NB
theorem tand_join {c x : Bool} {tb : TE} {σ : L2.St} {H : Hp} {K : VK} (hb : ∀ Q : VK, Q (.bl x) H → tb σ H Q) (q : K (.bl (c && x)) H) : if c = true then tb σ H K else K (.bl false) H := by
  cases c with
  | true => exact hb K q
  | false => exact q
theorem tif_join {c : Bool} {v : V} {ta tb : TE} {σ : L2.St} {H : Hp} {K : VK} (ha : c = true → ∀ Q : VK, Q v H → ta σ H Q) (hb : ¬ c = true → ∀ Q : VK, Q v H → tb σ H Q) (q : K v H) : if c = true then ta σ H K else tb σ H K := by
  cases c with
  | true => exact ha rfl K q
  | false => exact hb (by simp) K q
theorem tand_joinT {c x : Bool} {u : TT} {σ : L2.St} {H : Hp} {Q : Bool → Hp → Prop} (hu : ∀ Q : Bool → Hp → Prop, Q x H → u σ H Q) (q : Q (c && x) H) : if c = true then u σ H Q else Q false H := by
  cases c with
  | true => exact hu Q q
  | false => exact q
theorem tor_join {c x : Bool} {u : TT} {σ : L2.St} {H : Hp} {Q : Bool → Hp → Prop} (hu : ∀ Q : Bool → Hp → Prop, Q x H → u σ H Q) (q : Q (c || x) H) : if c = true then Q true H else u σ H Q := by
  cases c with
  | true => exact q
  | false => exact hu Q q

/-! ### sides: spans, the other one, what bars and what is within -/
theorem iteTr {c : Bool} {A B : Prop} (e : c = true) (h : A) : if c = true then A else B := by rw [e]; exact h
theorem iteFa {c : Bool} {A B : Prop} (e : c = false) (h : B) : if c = true then A else B := by rw [e]; exact h
theorem Room.u1 {k : Nat} {A : Around} (r : Room k A) : A.units + 1 < cLine := by
  have := r.un
  omega
theorem plc_at {xs : List Int} {i : Nat} (h : i < xs.length) : atI (xs.map V.int) (i : Int) = some (.int (plc xs i)) := by
  rw [plc_get h]
  exact at_int h
/-- None, or a side -/
def OthAt (H : Hp) (v : V) : Option Sd → Prop
  | none => v = .non
  | some s => ∃ g, v = .ref g ∧ SideAt H g s
theorem OthAt.keep {H H' : Hp} {v : V} {o : Option Sd} (h : OthAt H v o) (k : Keep H H') : OthAt H' v o := by
  cases o with
  | none => exact h
  | some s =>
    obtain ⟨g, e, hs⟩ := h
    exact ⟨g, e, hs.keep k⟩
abbrev sdR (L : List (Addr × Sd)) : List V := L.map fun z => V.ref z.1
def SdsAt (H : Hp) (L : List (Addr × Sd)) : Prop := ∀ z ∈ L, SideAt H z.1 z.2
theorem SdsAt.keep {H H' : Hp} {L : List (Addr × Sd)} (h : SdsAt H L) (k : Keep H H') : SdsAt H' L := fun z hz => (h z hz).keep k
theorem SdsAt.snoc {H : Hp} {L : List (Addr × Sd)} {z : Addr × Sd} (h : SdsAt H L) (hz : SideAt H z.1 z.2) : SdsAt H (L ++ [z]) := fun y hy => by
  rcases List.mem_append.mp hy with h' | h'
  · exact h y h'
  · rw [List.mem_singleton.mp h']
    exact hz
section
variable {P : Program} {w : World} {K : PySem.W.Frag} {mg : Str → Option Value} {base : Heap}
def spSpan (C : Addr) : Sp := fun vs H Q _ => ∃ (x p : Addr) (tops : List Int) (rs : List Rl) (sd : Sd), vs = [.ref x, .ref p] ∧ PlanAt C H x tops rs ∧ SideAt H p sd ∧ SideOk tops sd ∧
  ∀ H' g, Same H H' → H' g = some (.tup [.int (loS sd), .int (hiS tops sd)]) → Q (.ref g) H'
abbrev a_span : Stmt := topS 17
abbrev n_span : List Str := ["plan", "side", "thing", "word", "place"]
theorem sc_span : FnScope n_span ["plan", "side"] (defScope a_span) := ⟨rfl, rfl, rfl, by decide +kernel, rfl, by decide +kernel, by decide +kernel⟩
set_option maxHeartbeats 8000000 in
theorem ok_span {f  : Addr} {fd  : FuncData} {k : Nat} {C : Addr} (F : Fun K "span" "span" a_span f fd)  (T : PlanTxt K mg C)  : FnOk P w K mg base CX0 (k + 1) f fd ["plan", "side"] (spSpan C) := by
  refine F.ok sc_span (fun vs H Q E h => ?_) (fun cdv A outer s H vs Q E hr h => ?_)
  · obtain ⟨x, p, tops, rs, sd, rfl, _⟩ := h
    rfl
  · obtain ⟨x, p, tops, rs, sd, rfl, ⟨dx, t, R, ex, et, hR⟩, hs, ok, q⟩ := h
    refine ⟨_, (pss_cons (ps_asg (pv 1) (pg_tup rfl (pgs_cons (pg_name (i := 2) sc_span.nd rfl (.inl rfl)) (pgs_cons (pg_name (i := 3) sc_span.nd rfl (.inl rfl)) (pgs_cons (pg_name (i := 4) sc_span.nd rfl (.inl rfl)) pgs_nil)))))
      (pss_cons (ps_if (pt_cmpR op_eq (pv 3) pe_str (nomark _)) (pss_one (ps_ret (pe_tup (pa_cons (pv 4) (pa_cons (pe_ix ix_tup (pe_fld (pv 0) rfl) (pv 2) (fun _ _ => rfl)) pa_nil))))) pss_nil)
      (pss_one (ps_ret (pe_tup (pa_cons pe_int (pa_cons (pv 4) pa_nil))))))), ?_⟩
    have z2 : (2 : Nat) ≤ sizeLine := by decide
    have at1 := plc_at ok.lt
    refine ⟨.ref p, rfl, p, _, rfl, .inl (.inl hs), rfl, _, _, rfl, _, _, rfl, _, _, rfl, rfl, _, rfl, rfl, _, rfl, ?_⟩
    obtain ⟨i, b, m⟩ := sd
    cases b with
    | true =>
      refine iteTr w_from ⟨_, rfl, .ref x, rfl, x, C, dx, _, _, rfl, ex, T.cl, T.nT, look_tops _ _, _, rfl, t, _, i, _, rfl, rfl, .inl (.inl et), at1, z2, fun g ng => q _ g (same_new ng) ?_⟩
      rw [upd_same]
      rfl
    | false =>
      refine iteFa w_to ⟨_, rfl, z2, fun g ng => q _ g (same_new ng) ?_⟩
      rw [upd_same]
      rfl
def spOth (C : Addr) : Sp := fun vs H Q _ => ∃ (x p : Addr) (tops : List Int) (rs : List Rl) (sd : Sd), vs = [.ref x, .ref p] ∧ PlanAt C H x tops rs ∧ SideAt H p sd ∧ SideOk tops sd ∧
  ∀ H' v, Same H H' → OthAt H' v (othS tops sd) → Q v H'
abbrev a_other_side : Stmt := topS 18
abbrev n_other_side : List Str := ["plan", "side", "thing", "low", "high"]
theorem sc_other_side : FnScope n_other_side ["plan", "side"] (defScope a_other_side) := ⟨rfl, rfl, rfl, by decide +kernel, rfl, by decide +kernel, by decide +kernel⟩
set_option maxHeartbeats 8000000 in
theorem ok_other_side {f fSn : Addr} {fd fdSn : FuncData} {k : Nat} {C : Addr} (F : Fun K "other_side" "other_side" a_other_side f fd) (Sn : Kn P w K mg base 1 "span" ["plan", "side"] (spSpan C) fSn fdSn) (T : PlanTxt K mg C)  : FnOk P w K mg base CX0 (k + 2) f fd ["plan", "side"] (spOth C) := by
  refine F.ok sc_other_side (fun vs H Q E h => ?_) (fun cdv A outer s H vs Q E hr h => ?_)
  · obtain ⟨x, p, tops, rs, sd, rfl, _⟩ := h
    rfl
  · obtain ⟨x, p, tops, rs, sd, rfl, hp, hs, ok, q⟩ := h
    refine ⟨_, (pss_cons (ps_set (i := 2) sc_other_side.nd rfl (.inl rfl) (pe_ix ix_tup (pv 1) pe_int (fun _ _ => rfl)))
      (pss_cons (ps_asg (pe_kn Sn hr (by omega) (pa_cons (pv 0) (pa_cons (pv 1) pa_nil))) (pg_tup rfl (pgs_cons (pg_name (i := 3) sc_other_side.nd rfl (.inl rfl)) (pgs_cons (pg_name (i := 4) sc_other_side.nd rfl (.inl rfl)) pgs_nil))))
      (pss_cons (ps_if (pt_cmpR op_gt (pv 3) pe_int (nomark _)) (pss_one (ps_ret (pe_tup (pa_cons (pv 2) (pa_cons pe_str (pa_cons (pe_op op_sub (pv 3) pe_int) pa_nil)))))) pss_nil)
      (pss_cons (ps_if (pt_cmpR op_lt (pv 4) (pe_ix ix_tup (pe_fld (pv 0) rfl) (pv 2) (fun _ _ => rfl)) (nomark _)) (pss_one (ps_ret (pe_tup (pa_cons (pv 2) (pa_cons pe_str (pa_cons (pe_op op_add (pv 4) pe_int) pa_nil)))))) pss_nil)
      (pss_one (ps_ret pe_non)))))), ?_⟩
    have z3 : (3 : Nat) ≤ sizeLine := by decide
    have at1 := plc_at ok.lt
    refine ⟨.ref p, rfl, p, _, 0, _, rfl, rfl, .inl (.inl hs), rfl, .ref x, rfl, .ref p, rfl, x, p, tops, rs, sd, rfl, hp, hs, ok, fun H1 g s1 eg => ?_⟩
    obtain ⟨dx, t, R, ex, et, hR⟩ := hp.keep (.same s1)
    refine ⟨g, _, rfl, .inl (.inl eg), rfl, _, _, rfl, _, _, rfl, rfl, _, rfl, _, _, rfl, rfl, _, rfl, ite2 (fun c => ?_) (fun c => ?_)⟩
    · have c' := of_decide_eq_true c
      refine ⟨_, rfl, _, rfl, _, 1, rfl, rfl, z3, fun g' ng => q _ _ (s1.trans (same_new ng)) ?_⟩
      have e : othS tops sd = some (sd.1, false, loS sd - 1) := by
        unfold othS
        rw [if_pos c']
      rw [e]
      exact ⟨g', rfl, upd_same⟩
    · have c' : ¬ 0 < loS sd := fun z => c (decide_eq_true z)
      refine ⟨_, rfl, .ref x, rfl, x, C, dx, _, _, rfl, ex, T.cl, T.nT, look_tops _ _, _, rfl, t, _, sd.1, _, rfl, rfl, .inl (.inl et), at1, _, _, rfl, rfl, _, rfl, ite2 (fun d => ?_) (fun d => ?_)⟩
      · have d' := of_decide_eq_true d
        refine ⟨_, rfl, _, rfl, _, 1, rfl, rfl, z3, fun g' ng => q _ _ (s1.trans (same_new ng)) ?_⟩
        have e : othS tops sd = some (sd.1, true, hiS tops sd + 1) := by
          unfold othS
          rw [if_neg c', if_pos d']
        rw [e]
        exact ⟨g', rfl, upd_same⟩
      · have d' : ¬ hiS tops sd < plc tops sd.1 := fun z => d (decide_eq_true z)
        refine q _ _ s1 ?_
        have e : othS tops sd = none := by
          unfold othS
          rw [if_neg c', if_neg d']
        rw [e]
        rfl
def spTwo (C : Addr) (B : List Int → Sd → Sd → Bool) : Sp := fun vs H Q _ => ∃ (x p r : Addr) (tops : List Int) (rs : List Rl) (a b : Sd), vs = [.ref x, .ref p, .ref r] ∧ PlanAt C H x tops rs ∧ SideAt H p a ∧ SideAt H r b ∧ SideOk tops a ∧ SideOk tops b ∧
  ∀ H', Same H H' → Q (.bl (B tops a b)) H'
abbrev a_bars : Stmt := topS 19
abbrev n_bars : List Str := ["plan", "one", "other", "low", "high", "least", "most"]
theorem sc_bars : FnScope n_bars ["plan", "one", "other"] (defScope a_bars) := ⟨rfl, rfl, rfl, by decide +kernel, rfl, by decide +kernel, by decide +kernel⟩
set_option maxHeartbeats 8000000 in
theorem ok_bars {f fSn : Addr} {fd fdSn : FuncData} {k : Nat} {C : Addr} (F : Fun K "bars" "bars" a_bars f fd) (Sn : Kn P w K mg base 1 "span" ["plan", "side"] (spSpan C) fSn fdSn)   : FnOk P w K mg base CX0 (k + 2) f fd ["plan", "one", "other"] (spTwo C barsB) := by
  refine F.ok sc_bars (fun vs H Q E h => ?_) (fun cdv A outer s H vs Q E hr h => ?_)
  · obtain ⟨x, p, r, tops, rs, a, b, rfl, _⟩ := h
    rfl
  · obtain ⟨x, p, r, tops, rs, a, b, rfl, hp, hs, ht, oa, ob, q⟩ := h
    refine ⟨_, (pss_cons (ps_if (pt_cmpR op_ne (pe_ix ix_tup (pv 1) pe_int (fun _ _ => rfl)) (pe_ix ix_tup (pv 2) pe_int (fun _ _ => rfl)) (nomark _)) (pss_one (ps_ret pe_bl)) pss_nil)
      (pss_cons (ps_asg (pe_kn Sn hr (by omega) (pa_cons (pv 0) (pa_cons (pv 1) pa_nil))) (pg_tup rfl (pgs_cons (pg_name (i := 3) sc_bars.nd rfl (.inl rfl)) (pgs_cons (pg_name (i := 4) sc_bars.nd rfl (.inl rfl)) pgs_nil))))
      (pss_cons (ps_asg (pe_kn Sn hr (by omega) (pa_cons (pv 0) (pa_cons (pv 2) pa_nil))) (pg_tup rfl (pgs_cons (pg_name (i := 5) sc_bars.nd rfl (.inl rfl)) (pgs_cons (pg_name (i := 6) sc_bars.nd rfl (.inl rfl)) pgs_nil))))
      (pss_one (ps_ret (pe_or (pe_cmpR op_lt (pv 4) (pv 5) (nomark _)) (pe_one (pe_cmpR op_lt (pv 6) (pv 3) (nomark _))))))))), ?_⟩
    refine ⟨.ref p, rfl, p, _, 0, _, rfl, rfl, .inl (.inl hs), rfl, .ref r, rfl, r, _, 0, _, rfl, rfl, .inl (.inl ht), rfl, rfl, _, rfl, ite2 (fun c => ?_) (fun c => ?_)⟩
    · have ne : ¬ a.1 = b.1 := fun z => by
        rw [z] at c
        simp at c
      have e : barsB tops a b = false := by
        unfold barsB
        rw [decide_eq_false ne, Bool.false_and]
      rw [e] at q
      exact q H (Same.refl H)
    · have eq : a.1 = b.1 := by
        rw [Bool.not_eq_true, Bool.not_eq_false'] at c
        have := of_decide_eq_true c
        injection this with h
        omega
      refine ⟨.ref x, rfl, .ref p, rfl, x, p, tops, rs, a, rfl, hp, hs, oa, fun H1 g1 s1 e1 => ⟨g1, _, rfl, .inl (.inl e1), rfl, _, _, rfl, _, _, rfl, rfl, ?_⟩⟩
      refine ⟨.ref x, rfl, .ref r, rfl, x, r, tops, rs, b, rfl, hp.keep (.same s1), ht.keep (.same s1), ob, fun H2 g2 s2 e2 => ⟨g2, _, rfl, .inl (.inl e2), rfl, _, _, rfl, _, _, rfl, rfl, ?_⟩⟩
      have e : barsB tops a b = (decide (hiS tops a < loS b) || decide (hiS tops b < loS a)) := by
        unfold barsB
        rw [decide_eq_true eq, Bool.true_and]
      rw [e] at q
      refine ⟨_, rfl, _, rfl, _, _, rfl, rfl, _, rfl, ite2 (fun c => ?_) (fun c => ?_)⟩
      · rw [c, Bool.true_or] at q
        exact q H2 (s1.trans s2)
      · rw [Bool.not_eq_true] at c
        rw [c, Bool.false_or] at q
        exact ⟨_, rfl, _, rfl, _, _, rfl, rfl, q H2 (s1.trans s2)⟩
abbrev a_is_within : Stmt := topS 20
abbrev n_is_within : List Str := ["plan", "one", "other", "low", "high", "least", "most"]
theorem sc_is_within : FnScope n_is_within ["plan", "one", "other"] (defScope a_is_within) := ⟨rfl, rfl, rfl, by decide +kernel, rfl, by decide +kernel, by decide +kernel⟩
set_option maxHeartbeats 8000000 in
theorem ok_is_within {f fSn : Addr} {fd fdSn : FuncData} {k : Nat} {C : Addr} (F : Fun K "is_within" "is_within" a_is_within f fd) (Sn : Kn P w K mg base 1 "span" ["plan", "side"] (spSpan C) fSn fdSn)   : FnOk P w K mg base CX0 (k + 2) f fd ["plan", "one", "other"] (spTwo C withinB) := by
  refine F.ok sc_is_within (fun vs H Q E h => ?_) (fun cdv A outer s H vs Q E hr h => ?_)
  · obtain ⟨x, p, r, tops, rs, a, b, rfl, _⟩ := h
    rfl
  · obtain ⟨x, p, r, tops, rs, a, b, rfl, hp, hs, ht, oa, ob, q⟩ := h
    refine ⟨_, (pss_cons (ps_if (pt_cmpR op_ne (pe_ix ix_tup (pv 1) pe_int (fun _ _ => rfl)) (pe_ix ix_tup (pv 2) pe_int (fun _ _ => rfl)) (nomark _)) (pss_one (ps_ret pe_bl)) pss_nil)
      (pss_cons (ps_asg (pe_kn Sn hr (by omega) (pa_cons (pv 0) (pa_cons (pv 1) pa_nil))) (pg_tup rfl (pgs_cons (pg_name (i := 3) sc_is_within.nd rfl (.inl rfl)) (pgs_cons (pg_name (i := 4) sc_is_within.nd rfl (.inl rfl)) pgs_nil))))
      (pss_cons (ps_asg (pe_kn Sn hr (by omega) (pa_cons (pv 0) (pa_cons (pv 2) pa_nil))) (pg_tup rfl (pgs_cons (pg_name (i := 5) sc_is_within.nd rfl (.inl rfl)) (pgs_cons (pg_name (i := 6) sc_is_within.nd rfl (.inl rfl)) pgs_nil))))
      (pss_one (ps_ret (pe_and (pe_cmpR op_le (pv 5) (pv 3) (nomark _)) (pe_one (pe_cmpR op_le (pv 4) (pv 6) (nomark _))))))))), ?_⟩
    refine ⟨.ref p, rfl, p, _, 0, _, rfl, rfl, .inl (.inl hs), rfl, .ref r, rfl, r, _, 0, _, rfl, rfl, .inl (.inl ht), rfl, rfl, _, rfl, ite2 (fun c => ?_) (fun c => ?_)⟩
    · have ne : ¬ a.1 = b.1 := fun z => by
        rw [z] at c
        simp at c
      have e : withinB tops a b = false := by
        unfold withinB
        rw [decide_eq_false ne, Bool.false_and]
      rw [e] at q
      exact q H (Same.refl H)
    · have eq : a.1 = b.1 := by
        rw [Bool.not_eq_true, Bool.not_eq_false'] at c
        have := of_decide_eq_true c
        injection this with h
        omega
      refine ⟨.ref x, rfl, .ref p, rfl, x, p, tops, rs, a, rfl, hp, hs, oa, fun H1 g1 s1 e1 => ⟨g1, _, rfl, .inl (.inl e1), rfl, _, _, rfl, _, _, rfl, rfl, ?_⟩⟩
      refine ⟨.ref x, rfl, .ref r, rfl, x, r, tops, rs, b, rfl, hp.keep (.same s1), ht.keep (.same s1), ob, fun H2 g2 s2 e2 => ⟨g2, _, rfl, .inl (.inl e2), rfl, _, _, rfl, _, _, rfl, rfl, ?_⟩⟩
      have e : withinB tops a b = (decide (loS b ≤ loS a) && decide (hiS tops a ≤ hiS tops b)) := by
        unfold withinB
        rw [decide_eq_true eq, Bool.true_and]
      rw [e] at q
      refine ⟨_, rfl, _, rfl, _, _, rfl, rfl, _, rfl, ite2 (fun c => ?_) (fun c => ?_)⟩
      · rw [c, Bool.true_and] at q
        exact ⟨_, rfl, _, rfl, _, _, rfl, rfl, q H2 (s1.trans s2)⟩
      · rw [Bool.not_eq_true] at c
        rw [c, Bool.false_and] at q
        exact q H2 (s1.trans s2)
theorem led_take (tops : List Int) (sd : Sd) (rs : List Rl) (i : Nat) (q : Rl) (h : rs[i]? = some q) : ledL tops (rs.take (i + 1)) sd = ledL tops (rs.take i) sd ++ led1 tops sd q := by
  unfold ledL
  rw [List.take_add_one, h, List.flatMap_append]
  simp
theorem led_len (tops : List Int) (sd : Sd) (rs : List Rl) : (ledL tops rs sd).length ≤ 2 * rs.length := by
  unfold ledL
  induction rs with
  | nil => exact Nat.le_refl _
  | cons q rs ih =>
    rw [List.flatMap_cons, List.length_append, List.length_cons]
    have : (led1 tops sd q).length ≤ 2 := by
      unfold led1
      rw [List.length_append]
      split <;> split <;> simp
    omega
def spLed (C : Addr) : Sp := fun vs H Q _ => ∃ (x p : Addr) (tops : List Int) (rs : List Rl) (sd : Sd), vs = [.ref x, .ref p] ∧ PlanAt C H x tops rs ∧ SideAt H p sd ∧ SideOk tops sd ∧ (∀ q ∈ rs, RuleOk tops q) ∧ rs.length ≤ 40 ∧
  ∀ H' l L, Same H H' → H l = none → H' l = some (.lst (sdR L)) → SdsAt H' L → L.map (·.2) = ledL tops rs sd → Q (.ref l) H'
abbrev a_led_by_rules : Stmt := topS 21
abbrev n_led_by_rules : List Str := ["plan", "side", "found", "first", "second"]
theorem sc_led_by_rules : FnScope n_led_by_rules ["plan", "side"] (defScope a_led_by_rules) := ⟨rfl, rfl, rfl, by decide +kernel, rfl, by decide +kernel, by decide +kernel⟩
set_option maxHeartbeats 8000000 in
theorem ok_led_by_rules {f fBr : Addr} {fd fdBr : FuncData} {k : Nat} {C : Addr} (F : Fun K "led_by_rules" "led_by_rules" a_led_by_rules f fd) (Br : Kn P w K mg base 2 "bars" ["plan", "one", "other"] (spTwo C barsB) fBr fdBr) (T : PlanTxt K mg C)  : FnOk P w K mg base CX0 (k + 3) f fd ["plan", "side"] (spLed C) := by
  refine F.ok sc_led_by_rules (fun vs H Q E h => ?_) (fun cdv A outer s H vs Q E hr h => ?_)
  · obtain ⟨x, p, tops, rs, sd, rfl, _⟩ := h
    rfl
  · obtain ⟨x, p, tops, rs, sd, rfl, hp, hs, ok, rok, l40, q⟩ := h
    refine ⟨_, (pss_cons (ps_set (i := 2) sc_led_by_rules.nd rfl (.inl rfl) (pe_lst pa_nil))
      (pss_cons (ps_for PassesOwn.never rfl (pi_tup (pe_fld (pv 0) rfl)) (pg_tup rfl (pgs_cons (pg_name (i := 3) sc_led_by_rules.nd rfl (.inl rfl)) (pgs_cons (pg_name (i := 4) sc_led_by_rules.nd rfl (.inl rfl)) pgs_nil)))
        (C8.pss_cut (ps_if (pt_val (pe_kn Br hr (by omega) (pa_cons (pv 0) (pa_cons (pv 1) (pa_cons (pv 3) pa_nil))))) (pss_one (ps_expr (pe_bm PySem.F.plainAttrs_list PySem.F.slot_list_append PySem.F.type_list_append mt_append (pv 2) (pa_cons (pv 4) pa_nil)))) pss_nil)
      (pss_one (ps_if (pt_val (pe_kn Br hr (by omega) (pa_cons (pv 0) (pa_cons (pv 1) (pa_cons (pv 4) pa_nil))))) (pss_one (ps_expr (pe_bm PySem.F.plainAttrs_list PySem.F.slot_list_append PySem.F.type_list_append mt_append (pv 2) (pa_cons (pv 3) pa_nil)))) pss_nil))))
      (pss_one (ps_ret (pv 2))))), ?_⟩
    have hp' := hp
    obtain ⟨dx, t, R, ex, et, as, eR, la, ha⟩ := hp'
    refine ⟨Nat.zero_le _, fun l nl => ?_⟩
    have s0 : Same H (upd H l (.lst [])) := same_new nl
    refine ⟨.ref x, rfl, x, C, dx, _, _, rfl, s0 _ _ ex, T.cl, T.nR, look_rules _ _, R, rfl, ⟨_, .inl (.inl (s0 _ _ eR))⟩, for_it (walk_tup (xs := as.map V.ref)) (fun i σ H' => (∃ u3 u4, σ = [some (.ref x), some (.ref p), some (.ref l), u3, u4]) ∧ Same H H' ∧ ∃ L, H' l = some (.lst (sdR L)) ∧ SdsAt H' L ∧ L.map (·.2) = ledL tops (rs.take i) sd)
      ⟨⟨none, none, rfl⟩, s0, [], upd_same, (fun _ h => absurd h List.not_mem_nil), rfl⟩ (fun i σ H' _ y => .inl (.inl (y.2.1 _ _ eR))) (fun i v σ H1 H2 hi y z => ?_) (fun σ H1 y => ?_)⟩
    · obtain ⟨⟨u3, u4, rfl⟩, s1, L, el, hL, eL⟩ := y
      obtain ⟨rfl, gv⟩ := z
      obtain ⟨r, er, rfl⟩ := mapGet gv
      have hi' : i < as.length := by simpa using hi
      have eq : rs[i]? = some rs[i] := List.getElem?_eq_getElem (by omega)
      have okq := rok _ (List.getElem_mem (show i < rs.length by omega))
      obtain ⟨p1, p2, eR1, h1, h2⟩ := (ha i r _ er eq).keep (.same s1)
      have lL : L.length ≤ 80 := by
        have := congrArg List.length eL
        rw [List.length_map] at this
        have h := led_len tops sd (rs.take i)
        rw [List.length_take] at h
        omega
      refine ⟨r, _, rfl, .inl (.inl eR1), rfl, _, _, rfl, _, _, rfl, rfl, ?_⟩
      refine ⟨fun σ H' => σ = [some (.ref x), some (.ref p), some (.ref l), some (.ref p1), some (.ref p2)] ∧ Same H H' ∧ Keep H2 H' ∧ ∃ L', H' l = some (.lst (sdR L')) ∧ SdsAt H' L' ∧ L'.map (·.2) = ledL tops (rs.take i) sd ++ (if barsB tops sd rs[i].1 then [rs[i].2] else []), ?_, fun σ H' y => ?_⟩
      · refine ⟨.ref x, rfl, .ref p, rfl, .ref p1, rfl, x, p, p1, tops, rs, sd, _, rfl, hp.keep (.same s1), hs.keep (.same s1), h1, ok, okq.1, fun H3 s3 => ⟨_, rfl, ite2 (fun c => ?_) (fun c => ?_)⟩⟩
        · have el3 := s3 _ _ el
          refine ⟨.ref l, rfl, .inl ⟨rfl, _, .inl (.inl el3)⟩, .ref p2, rfl, l, _, _, rfl, rfl, el3, by rw [List.length_map]; exact small1000 (by omega), rfl, same_over (s1.trans s3) nl, (Keep.same s3).trans (Keep.upd el3), L ++ [(p2, rs[i].2)], by rw [upd_same]; simp [sdR], ((hL.keep (.same s3)).keep (Keep.upd el3)).snoc ((h2.keep (.same s3)).keep (Keep.upd el3)), ?_⟩
          rw [List.map_append, eL, if_pos c]
          rfl
        · refine ⟨rfl, s1.trans s3, Keep.same s3, L, s3 _ _ el, hL.keep (.same s3), ?_⟩
          rw [if_neg c, List.append_nil]
          exact eL
      · obtain ⟨rfl, s3, k3, L', el', hL', eL'⟩ := y
        have lL' : L'.length ≤ 81 := by
          have := congrArg List.length eL'
          rw [List.length_map, List.length_append, ← eL, List.length_map] at this
          have : (if barsB tops sd rs[i].1 then [rs[i].2] else []).length ≤ 1 := by split <;> simp
          omega
        have tk : ledL tops (rs.take (i + 1)) sd = (ledL tops (rs.take i) sd ++ (if barsB tops sd rs[i].1 then [rs[i].2] else [])) ++ (if barsB tops sd rs[i].2 then [rs[i].1] else []) := by
          rw [led_take tops sd rs i _ eq, List.append_assoc]
          rfl
        refine ⟨.ref x, rfl, .ref p, rfl, .ref p2, rfl, x, p, p2, tops, rs, sd, _, rfl, hp.keep (.same s3), hs.keep (.same s3), h2.keep k3, ok, okq.2, fun H4 s4 => ⟨_, rfl, ite2 (fun c => ?_) (fun c => ?_)⟩⟩
        · have el4 := s4 _ _ el'
          refine ⟨.ref l, rfl, .inl ⟨rfl, _, .inl (.inl el4)⟩, .ref p1, rfl, l, _, _, rfl, rfl, el4, by rw [List.length_map]; exact small1000 (by omega), ⟨_, _, rfl⟩, same_over (s3.trans s4) nl, L' ++ [(p1, rs[i].1)], by rw [upd_same]; simp [sdR], ((hL'.keep (.same s4)).keep (Keep.upd el4)).snoc (((h1.keep k3).keep (.same s4)).keep (Keep.upd el4)), ?_⟩
          rw [List.map_append, eL', tk, if_pos c]
          rfl
        · refine ⟨⟨_, _, rfl⟩, s3.trans s4, L', s4 _ _ el', hL'.keep (.same s4), ?_⟩
          rw [tk, eL', if_neg c, List.append_nil]
    · obtain ⟨⟨u3, u4, rfl⟩, s1, L, el, hL, eL⟩ := y
      rw [List.length_map, la, List.take_length] at eL
      exact ⟨_, rfl, q H1 l L s1 nl el hL eL⟩
end
end K18

set_option Elab.async false
set_option linter.all false
set_option maxRecDepth 100000
set_option maxHeartbeats 1000000
/-! Dict comprehensions whose keys are tuples: one clause, and two. -/
namespace NB
open PySem PySem.Spec PyProof.Rows L2

section
variable {X : Cx} {pins : List (Addr × Obj)} {σ : L2.St} {H : Hp} {s : Shared}
theorem put_tup {D b : Addr} {kvs : List (List Key × V)} {k : List Key} {v : V} {r : Value} {Q : Unit → Shared → Prop} {E : Value → Shared → Prop} (hu : X.A.units + 1 < cLine) (I : Inv X pins σ H s) (hD : H D = some (.dT kvs)) (eb : H b = some (.tup (k.map kV))) (hz : kvs.length < sizeLine) (rv : RelV v r)
    (h : ∀ s', Inv X pins σ (upd H D (.dT (putK kvs k v))) s' → Q () s') : wpAny (model X.prog X.w) X.A (dictSet D (.ref b) r) Q E s := by
  obtain ⟨zl, zd, es, rel, dd⟩ := dt_of I.hok hD
  have l1 : es.length ≤ sizeLine := by rw [← Paired.length rel]; exact zl
  have l2 : (putK kvs k v).length ≤ sizeLine := by
    have := length_putK kvs k v
    omega
  refine wpAny_dictSet_heap (show (tupleKind _).room X.A from Nat.lt_of_succ_lt hu) (key_of I.hok eb) dd (fun g dg sb => h _ ?_) l1
  obtain ⟨q, fs, ep, e1, e2, e3, e4, _, e5⟩ := dg
  refine d_write I (by rw [hD]; trivial) sb ⟨q, e1⟩ ⟨l2, zd, _, (rel.put k eb rv).keeps fun c ys ec => ?_, q, fs, ep, e1, e2, e3, e4, e5⟩
  rw [upd_ne (ne_of ec hD (fun z => by cases z))]
  exact ec
end

/-- where a walk stands, within a block -/
def Lp (Y : Cx) (pp : List (Addr × Obj)) (σ0 : L2.St) (fp : List Addr) (tn : Nat → Heap → Prop) (W : Nat → Nat → Hp → Prop) (n : Nat) (s : Shared) : Prop :=
  ∃ i H, Inv Y pp σ0 H s ∧ tn i s.heap ∧ (∀ b ∈ fp, H b = none) ∧ W i n H
/-- what a walk asks at each place: its end, or a turn that leads on -/
def Stp (J : It) (W : Nat → Nat → Hp → Prop) (Ed : Hp → Prop) (B : V → Hp → (Hp → Prop) → Prop) : Prop :=
  ∀ i m H, W i m H → (J.stop i H ∧ Ed H) ∨ (J.go i H ∧ ∃ Nx : Hp → Prop, (∀ H', Nx H' → ∃ m', m' < m ∧ W (i + 1) m' H') ∧ ∀ x H', J.yld i H x H' → B x H' Nx)
theorem Lp.turn {Y : Cx} {pp : List (Addr × Obj)} {σ0 : L2.St} {tg : Expr} {J : It} {fp : List Addr} {it : Addr} {tn : Nat → Heap → Prop} {W : Nat → Nat → Hp → Prop} {Ed : Hp → Prop} {B : V → Hp → (Hp → Prop) → Prop} {n : Nat} {s : Shared} {E : Value → Shared → Prop}
    (T : Turn Y.prog Y.w Y.K tg J fp it tn) (hc : Y.calm = true) (hf : ∀ (H' : Hp) (σ' : L2.St) (s' : Shared), (∀ b ∈ fp, H' b = none) → Inv Y pp σ' H' s' → ∀ b ∈ fp, FpOk Y pp H' b) (st : Stp J W Ed B) (h : Lp Y pp σ0 fp tn W n s) :
    wpAny (model Y.prog Y.w) Y.A (pyNext (.ref it)) (fun r s1 => match r with
      | none => ∃ H1, Inv Y pp σ0 H1 s1 ∧ Ed H1
      | some u => wpAny (model Y.prog Y.w) Y.A (letOwnedTupleGo tg (.ref it) u) (fun _ s2 => ∃ (x : V) (H2 : Hp) (pq : List (Addr × Obj)) (Nx : Hp → Prop), Inv Y (pp ++ pq) σ0 H2 s2 ∧ RelV x u ∧ B x H2 Nx ∧
          ∀ (σ' : L2.St) (s' : Shared) (H' : Hp), Inv Y (pp ++ pq) σ' H' s' → σ0.length = σ'.length → (∀ (j : Nat) v, σ0[j]? = some (some v) → σ'[j]? = some (some v)) → Nx H' → ∃ m, m < n ∧ Lp Y pp σ0 fp tn W m s') E s1) E s := by
  obtain ⟨i, H1, I1, t1, f1, w1⟩ := h
  rcases st i n H1 w1 with ⟨sp, ed⟩ | ⟨go, Nx, nx, yl⟩
  · refine thn (T.done Y rfl rfl rfl hc i pp s σ0 H1 E I1 (hf _ _ _ f1 I1) t1 sp) fun r s1 h => ?_
    obtain ⟨rfl, I2⟩ := h
    exact ⟨H1, I2, ed⟩
  · refine thn (T.item Y rfl rfl rfl hc i pp s σ0 H1 E I1 (hf _ _ _ f1 I1) t1 go) fun r s1 h => ?_
    obtain ⟨u, rfl, h⟩ := h
    refine thn h fun _ s2 h => ?_
    obtain ⟨x, H2, I2, rx, y, t2, f2⟩ := h
    refine ⟨x, H2, pinsAt fp s2.heap, Nx, I2.pinned (hf _ _ _ f2 I2) (T.obj _ _ t2), rx, yl x H2 y, fun σ' s' H' I' hl hk hn => ?_⟩
    obtain ⟨m, lt, w'⟩ := nx H' hn
    have stay : ∀ b ∈ fp, ∀ o, s2.heap.get? b = some o → s'.heap.get? b = some o ∧ H' b = none := fun b hb o eo => by
      have z := I'.pin (b, o) (List.mem_append_right _ (List.mem_append_right _ (mem_pinsAt hb eo)))
      exact ⟨z.1, z.2.1⟩
    refine ⟨m, lt, i + 1, H', I'.unpinned.weak hl hk, T.keep _ _ _ t2 fun b hb o eo => (stay b hb o eo).1, fun b hb => ?_, w'⟩
    obtain ⟨o, eo, _⟩ := T.obj _ _ t2 b hb
    exact (stay b hb o eo).2

section
variable {X : Cx} {pins : List (Addr × Obj)} {σ : L2.St} {H : Hp} {s : Shared} {kx vx tg iter : Expr} {ifs : List Expr} {gs : List Comprehension} {scope : Scope} {own : List (Str × Nat)} {pos : Pos} {wi : TI}
/-- the loop of a dict comprehension's block -/
def DLp (X : Cx) (σ : L2.St) (scope : Scope) (own : List (Str × Nat)) (tg : Expr) (e : Expr) (Go : It → Addr → Hp → Prop) (Q : VK) : Prop :=
  ∀ (J : It) (D it : Addr) (fp : List Addr) (tn : Nat → Heap → Prop) (H1 : Hp) (s3 s4 : Shared) (cl : List (Str × Addr)) (RR : Result → Shared → Prop), Go J D H1 → Turn X.prog X.w X.K tg J fp it tn →
    Inv (X.blk s3 (upd H1 D (.dT [])) scope (compEnvC scope cl s3.heap.objs.size X.env) fp) [] (wipe σ (own.map (·.2))) (upd H1 D (.dT [])) s4 → tn 0 s4.heap → (∀ b ∈ fp, (upd H1 D (.dT [])) b = none) →
    (∀ H5 s6, Inv (X.blk s3 (upd H1 D (.dT [])) scope (compEnvC scope cl s3.heap.objs.size X.env) fp) [] (wipe σ (own.map (·.2))) H5 s6 → Q (.ref D) H5 → RR (.ok .next) s6) →
    codeAny (model X.prog X.w) X.A (.compLoop e 0 (.ref it) (.ref D) (compEnvC scope cl s3.heap.objs.size X.env)) RR s4
/-- the block: opened, and closed behind its loop -/
theorem dict_block {Go : It → Addr → Hp → Prop} {Q : VK} {pos' : Pos} {use : Option (Value → Sem Unit)} {Qf : Value → Shared → Prop} (hN : X.N.Nodup) (I : Inv X pins σ H s) (hi : PI X tg iter wi) (ok : BlkOk X.N X.env.scope scope own) (hs : ∀ x, foldedSetIterable iter X.env x = pure x) (h : wi σ H fun J H1 => ∀ D, H1 D = none → Go J D H1)
    (loop : DLp X σ scope own tg (.DictComp kx vx (⟨tg, iter, ifs, 0⟩ :: gs) scope pos) Go Q)
    (out : ∀ (D C : Addr) (s' : Shared) (m : Str → Option Value) (H' : Hp), Inv X pins σ H' s' → Q (.ref D) H' → s'.heap.Ns C m → FpOk X pins H' C → compPost (model X.prog X.w) X.A X.xe use Qf (.ref D) C (.ok .next) s') :
    wpAny (model X.prog X.w) X.A (comprehension (.DictComp kx vx (⟨tg, iter, ifs, 0⟩ :: gs) scope pos) scope X.env pos' newDict false (eval iter X.env) use) Qf X.xe s := by
  have has : ∀ y ∈ scope.names, y.2 = .free → ∃ c, X.env.cells.lookup y.1 = some c := fun y hy e =>
    (ok.free y hy e).elim (fun k => I.ok.has _ (.inl k)) (fun k => I.ok.has _ (.inr k))
  refine wpAny_comprehension_free (use := use) rfl hs (closure_ok has) ok.kind (fun y hy e => (ok.uniq y hy).trans (by rw [e])) ?_
  refine thn (hi.run pins s σ H _ I h) fun v s1 h1 => thn h1 fun iv s2 h2 => ?_
  obtain ⟨it, fp, tn, J, H1, rfl, I1, T, t1, f1, go⟩ := h2
  refine wpAny_newObj_type (newEnv_comp ?_)
  obtain ⟨D, eD⟩ : ∃ D, D = s2.heap.objs.size := ⟨_, rfl⟩
  have nD : H1 D = none := I1.hok.fresh (Nat.le_of_eq eD.symm)
  obtain ⟨s3, e3⟩ : ∃ s3 : Shared, s3 = { s2 with heap := s2.heap.push { cls := .type "dict", data := .dict #[] } } := ⟨_, rfl⟩
  have hp3 : s3.heap = s2.heap.push { cls := .type "dict", data := .dict #[] } := by rw [e3]
  have I3 : Inv X pins σ (upd H1 D (.dT [])) s3 := by
    rw [e3, eD]
    exact I1.laid (t' := s2.toks) (fun b o q => Heap.get?_push_of_some _ q) (Nat.le_refl _) (dt_empty s2.heap I1.big)
  have lt : ∀ b ∈ fp, b < s2.heap.objs.size := fun b hb => by
    obtain ⟨o, q, _⟩ := T.obj _ _ t1 b hb
    exact Heap.lt_size q
  have f3 : ∀ b ∈ fp, FpOk X pins (upd H1 D (.dT [])) b ∧ b < s3.heap.objs.size := fun b hb => by
    have l := lt b hb
    have z : b ≠ D := by rw [eD]; exact Nat.ne_of_lt l
    refine ⟨⟨(upd_ne z).trans (f1 b hb).1, (f1 b hb).2⟩, ?_⟩
    rw [hp3, Heap.size_push]
    exact Nat.lt_succ_of_lt l
  have t3 : tn 0 s3.heap := T.keep _ _ _ t1 fun b _ o q => by
    rw [hp3]
    exact Heap.get?_push_of_some _ q
  have I4 := block_start I3 ok hN f3
  have t4 := T.keep _ _ (pushCells (s3.heap.push { cls := .type "dict", data := .dict #[] }) scope.names) t3 fun b _ o q => pushCells_keeps _ _ _ _ (Heap.get?_push_of_some _ q)
  have lp := loop J D it fp tn H1 s3 _ (cellsFrom (s3.heap.objs.size + 1) scope.names (cloFrom X.env.cells scope.names [])) (compPost (model X.prog X.w) X.A X.xe use Qf (.ref D) s3.heap.objs.size) (go D nD) T I4 t4 (fun b hb => (f3 b hb).1.1) (fun H5 s6 I6 q => by
    have I7 : Inv X pins σ H5 s6 := I3.call' (ch := fp) I6.os I6.base I6.hok I6.bare fun b hb => by
      obtain ⟨⟨_, g1, _, g3, g4, g5⟩, _⟩ := f3 b hb
      exact ⟨g3, g1, g4, g5⟩
    have nl : H5 s3.heap.objs.size = none := I6.free
    obtain ⟨m, hm, _⟩ := I6.loc
    exact out D s3.heap.objs.size s6 m H5 I7 q hm (I3.fpOk (Nat.le_refl _) nl))
  have fin := codeAny_compStart_dict lp (T.self X.A 0 _ _ _ t4 lp)
  rw [e3] at fin
  subst eD
  exact fin
theorem pe_dict {Go : L2.St → VK → It → Addr → Hp → Prop} (hN : X.N.Nodup) (hi : PI X tg iter wi) (ok : BlkOk X.N X.env.scope scope own) (hs : ∀ x, foldedSetIterable iter X.env x = pure x)
    (loop : ∀ σ Q, DLp X σ scope own tg (.DictComp kx vx (⟨tg, iter, ifs, 0⟩ :: gs) scope pos) (Go σ Q) Q) : PE X (.DictComp kx vx (⟨tg, iter, ifs, 0⟩ :: gs) scope pos) (fun σ H Q => wi σ H fun J H1 => ∀ D, H1 D = none → Go σ Q J D H1) := by
  refine ⟨fun pins s σ H Q I h => ?_⟩
  rw [arm_eval_DictComp]
  refine dict_block hN I hi ok hs h (loop σ Q) fun D C s' m H' I' q hn f => ⟨m, hn, fun g sb => ?_⟩
  obtain ⟨p0, p1, _, p3, p4, p5⟩ := f
  exact ⟨.ref D, H', I'.turned (t' := s'.toks) (fun b o hb e => (sb.2 b hb).trans e) p0 p1 p3 p4 p5, rfl, q⟩
/-- y = {..}, on one line: the store comes ahead of the block's end -/
theorem ps_dict {Go : L2.St → VK → It → Addr → Hp → Prop} {i : Nat} {y : Str} {py spos : Pos} (hN : X.N.Nodup) (hy : X.N[i]? = some y) (hyl : X.env.scope.names.lookup y = some .local) (hsw : swapsWith (.DictComp kx vx (⟨tg, iter, ifs, 0⟩ :: gs) scope pos) (some (.Name y py)) spos.line X.env = pure true)
    (hi : PI X tg iter wi) (ok : BlkOk X.N X.env.scope scope own) (hs : ∀ x, foldedSetIterable iter X.env x = pure x)
    (loop : ∀ σ Q, DLp X σ scope own tg (.DictComp kx vx (⟨tg, iter, ifs, 0⟩ :: gs) scope pos) (Go σ Q) Q) : PS X (.Assign [.Name y py] (.DictComp kx vx (⟨tg, iter, ifs, 0⟩ :: gs) scope pos) spos) (tAsg (fun σ H Q => wi σ H fun J H1 => ∀ D, H1 D = none → Go σ Q J D H1) (gName i)) := by
  refine ⟨fun pins s σ H E I h => ?_⟩
  rw [exec_Assign_Name_used _ _ _ _ hsw]
  refine wpAny_bind (wpAny_standAt (wpAny_bind ?_))
  show wpAny _ X.A (do let _ ← comprehension (.DictComp kx vx (⟨tg, iter, ifs, 0⟩ :: gs) scope pos) scope X.env (firstIterPos (⟨tg, iter, ifs, 0⟩ :: gs) pos) newDict false (eval iter X.env) (some (assign (.Name y py) X.env))) _ _ s
  have h : wi σ H fun J H1 => ∀ D, H1 D = none → Go σ (fun x H1 => gName i x σ H1 E.nx) J D H1 := h
  refine wpAny_bind (thn (dict_block (Qf := fun _ s' => SP X pins E .next s') hN I hi ok hs h (loop σ _) fun D C s' m H' I' q hn f => ?_) fun _ s' hq => wpAny_pure (wpAny_pure hq))
  show wpAny _ _ (assign (.Name y py) X.env (.ref D)) _ _ _
  obtain ⟨p0, p1, _, p3, p4, p5⟩ := f
  refine wpAny_assign_Name (store_ok2 (v := V.ref D) I' hN hy (.inl hyl) rfl (fun s2 I2 hh => ?_) (.inr hyl))
  obtain ⟨a, sb, ha⟩ := hh
  have na : C ≠ a := ha.elim (fun z => by rw [z]; exact p1) (fun z e => p4 y a z e.symm)
  exact ⟨m, hn.sameBut sb na, fun g sg => ⟨_, H', I2.turned (t' := s2.toks) (fun b o hb e => (sg.2 b hb).trans e) p0 p1 p3 p4 p5, q⟩⟩
theorem sw_dict {kx vx : Expr} {gs : List Comprehension} {scope : Scope} {pos py : Pos} {y : Str} {l : Nat} {env : Env} (k1 : env.scope.kind = .function) (k2 : env.scope.names.lookup y = some .local) (k3 : (py.line == pos.line) = true) (k4 : (scope.names.any fun (n, k) => n == y && (k == .local || k == .cell)) = false) :
    swapsWith (.DictComp kx vx gs scope pos) (some (.Name y py)) l env = pure true := by
  have e1 : env.blockKind = .function := by
    unfold Env.blockKind
    rw [k1]
    rfl
  have e2 : env.kindOf y = some .local := k2
  unfold swapsWith
  simp only [e1, e2, k4, Expr.pos, k3]
  rfl
theorem blk_fp {s3 : Shared} {H3 H' : Hp} {ce : Env} {fp : List Addr} {σ' : L2.St} {s' : Shared} (hn : ∀ b ∈ fp, H' b = none) (I' : Inv (X.blk s3 H3 scope ce fp) [] σ' H' s') : ∀ b ∈ fp, FpOk (X.blk s3 H3 scope ce fp) [] H' b := fun b hb => by
  refine ⟨hn b hb, (I'.ok.exf b hb).1, I'.ok.exfs b hb, .inl hb, fun x c e => (I'.ok.exf b hb).2 x c e, fun p hp => ?_⟩
  exact absurd (show p ∈ ([] : List (Addr × Obj)) from by simpa using hp) List.not_mem_nil
end

section
variable {X : Cx}
/-- {k: v for tg in iter}: D the new dict -/
def tDcT (wi : TI) (g : TG) (tk tv : TE) (vs : List Nat) : TE := fun σ H Q => wi σ H fun J H1 => ∀ D, H1 D = none → ∃ W : Nat → Nat → Hp → Prop, (∃ m, W 0 m (upd H1 D (.dT []))) ∧
  Stp J W (fun H => Q (.ref D) H) fun x H Nx => g x (wipe σ vs) H fun σ2 H2 => wipe σ2 vs = wipe σ vs ∧ tk σ2 H2 fun y H3 => tv σ2 H3 fun z H4 =>
    ∃ kvs k b, y = .ref b ∧ H4 b = some (.tup (k.map kV)) ∧ H4 D = some (.dT kvs) ∧ kvs.length < sizeLine ∧ Nx (upd H4 D (.dT (putK kvs k z)))
def goT (g : TG) (tk tv : TE) (vs : List Nat) (σ : L2.St) (Q : VK) (J : It) (D : Addr) (H1 : Hp) : Prop := ∃ W : Nat → Nat → Hp → Prop, (∃ m, W 0 m (upd H1 D (.dT []))) ∧
  Stp J W (fun H => Q (.ref D) H) fun x H Nx => g x (wipe σ vs) H fun σ2 H2 => wipe σ2 vs = wipe σ vs ∧ tk σ2 H2 fun y H3 => tv σ2 H3 fun z H4 =>
    ∃ kvs k b, y = .ref b ∧ H4 b = some (.tup (k.map kV)) ∧ H4 D = some (.dT kvs) ∧ kvs.length < sizeLine ∧ Nx (upd H4 D (.dT (putK kvs k z)))
theorem dcT_loop {kx vx tg iter : Expr} {scope : Scope} {own : List (Str × Nat)} {pos : Pos} {g : TG} {tk tv : TE} (hu : X.A.units + 1 < cLine) (hc : X.calm = true)
    (hg : ∀ (s : Shared) (H : Hp) (C : Addr) (cl : List (Str × Addr)) (fp : List Addr), PG (X.blk s H scope (compEnvC scope cl C X.env) fp) tg g)
    (hk : ∀ (s : Shared) (H : Hp) (C : Addr) (cl : List (Str × Addr)) (fp : List Addr), PE (X.blk s H scope (compEnvC scope cl C X.env) fp) kx tk)
    (hv : ∀ (s : Shared) (H : Hp) (C : Addr) (cl : List (Str × Addr)) (fp : List Addr), PE (X.blk s H scope (compEnvC scope cl C X.env) fp) vx tv) (σ : L2.St) (Q : VK) :
    DLp X σ scope own tg (.DictComp kx vx [⟨tg, iter, [], 0⟩] scope pos) (goT g tk tv (own.map (·.2)) σ Q) Q := by
  intro J D it fp tn H1 s3 s4 cl RR go T I4 t4 n4 fin
  obtain ⟨W, ⟨m0, w0⟩, st⟩ := go
  have pg := hg s3 (upd H1 D (.dT [])) s3.heap.objs.size cl fp
  have pk := hk s3 (upd H1 D (.dT [])) s3.heap.objs.size cl fp
  have pv := hv s3 (upd H1 D (.dT [])) s3.heap.objs.size cl fp
  generalize compEnvC scope cl s3.heap.objs.size X.env = ce at *
  refine compLoop_anyD (Lp (X.blk s3 (upd H1 D (.dT [])) scope ce fp) [] (wipe σ (own.map (·.2))) fp tn W) (fun n s5 hl => ?_) m0 ⟨0, _, I4, t4, n4, w0⟩
  refine thn (hl.turn (Y := X.blk s3 (upd H1 D (.dT [])) scope ce fp) T hc (fun H' σ' s' a b => blk_fp a b) st) fun r s6 h6 => ?_
  cases r with
  | none =>
    obtain ⟨H6, I6, q⟩ := h6
    exact fin H6 s6 I6 q
  | some u =>
    refine thn h6 fun _ s7 h7 => ?_
    obtain ⟨x, H7, pq, Nx, I7, rx, by7, on⟩ := h7
    refine thnF (pg.run _ s7 _ H7 x u _ I7 rx by7) fun _ s8 h8 => ?_
    obtain ⟨σ8, H8, I8, w8, q8⟩ := h8
    show wpAny _ _ (pure true) _ _ _
    refine wpAny_pure ?_
    rw [if_pos rfl]
    refine thnF (pk.run _ s8 σ8 H8 _ I8 q8) fun kv s9 h9 => ?_
    obtain ⟨y, H9, I9, ry, q9⟩ := h9
    refine thnF (pv.run _ s9 σ8 H9 _ I9 q9) fun vv s10 h10 => ?_
    obtain ⟨z, H10, I10, rz, kvs, k, b, rfl, eb, eD, hz, nx⟩ := h10
    obtain rfl : kv = Value.ref b := ry
    refine put_tup (X := X.blk s3 (upd H1 D (.dT [])) scope ce fp) hu I10 eD eb hz rz fun s11 I11 => on _ _ _ I11 ?_ ?_ nx
    · rw [← w8, wipe_length]
    · intro j v e
      rw [← w8] at e
      exact (wipe_some e).1
section
variable {kx vx tg iter : Expr} {scope : Scope} {own : List (Str × Nat)} {pos : Pos} {wi : TI} {g : TG} {tk tv : TE} (hu : X.A.units + 1 < cLine) (hc : X.calm = true) (hN : X.N.Nodup) (hi : PI X tg iter wi) (ok : BlkOk X.N X.env.scope scope own)
    (hg : ∀ (s : Shared) (H : Hp) (C : Addr) (cl : List (Str × Addr)) (fp : List Addr), PG (X.blk s H scope (compEnvC scope cl C X.env) fp) tg g)
    (hk : ∀ (s : Shared) (H : Hp) (C : Addr) (cl : List (Str × Addr)) (fp : List Addr), PE (X.blk s H scope (compEnvC scope cl C X.env) fp) kx tk)
    (hv : ∀ (s : Shared) (H : Hp) (C : Addr) (cl : List (Str × Addr)) (fp : List Addr), PE (X.blk s H scope (compEnvC scope cl C X.env) fp) vx tv)
include hu hc hN hi ok hg hk hv
theorem pe_dcT (hs : ∀ x, foldedSetIterable iter X.env x = pure x := by intro _; rfl) : PE X (.DictComp kx vx [⟨tg, iter, [], 0⟩] scope pos) (tDcT wi g tk tv (own.map (·.2))) :=
  pe_dict (Go := goT g tk tv (own.map (·.2))) hN hi ok hs fun σ Q => dcT_loop hu hc hg hk hv σ Q
theorem ps_dcT {i : Nat} {y : Str} {py spos : Pos} (hy : X.N[i]? = some y) (hyl : X.env.scope.names.lookup y = some .local) (hsw : swapsWith (.DictComp kx vx [⟨tg, iter, [], 0⟩] scope pos) (some (.Name y py)) spos.line X.env = pure true) (hs : ∀ x, foldedSetIterable iter X.env x = pure x := by intro _; rfl) :
    PS X (.Assign [.Name y py] (.DictComp kx vx [⟨tg, iter, [], 0⟩] scope pos) spos) (tAsg (tDcT wi g tk tv (own.map (·.2))) (gName i)) := by
  have h := ps_dict (Go := goT g tk tv (own.map (fun x => x.2))) hN hy hyl hsw hi ok hs fun σ Q => dcT_loop hu hc hg hk hv σ Q
  exact h
end
/-- {k: v for tg in iter for tg1 in iter1} -/
def tDc2T (wi : TI) (g : TG) (wi1 : TI) (g1 : TG) (tk tv : TE) (vs vs1 : List Nat) : TE := fun σ H Q => wi σ H fun J H1 => ∀ D, H1 D = none → ∃ W : Nat → Nat → Hp → Prop, (∃ m, W 0 m (upd H1 D (.dT []))) ∧
  Stp J W (fun H => Q (.ref D) H) fun x H Nx => g x (wipe σ vs) H fun σ2 H2 => wipe σ2 vs = wipe σ vs ∧ wi1 σ2 H2 fun J1 H3 => ∃ W1 : Nat → Nat → Hp → Prop, (∃ m, W1 0 m H3) ∧
    Stp J1 W1 Nx fun x1 H4 Nx1 => g1 x1 (wipe σ2 vs1) H4 fun σ3 H5 => wipe σ3 vs1 = wipe σ2 vs1 ∧ tk σ3 H5 fun y H6 => tv σ3 H6 fun z H7 =>
      ∃ kvs k b, y = .ref b ∧ H7 b = some (.tup (k.map kV)) ∧ H7 D = some (.dT kvs) ∧ kvs.length < sizeLine ∧ Nx1 (upd H7 D (.dT (putK kvs k z)))
section
variable {prog : Program} {w : World} {A : Around} {R : Result → Shared → Prop} {s : Shared} {kx vx t0 i0 t1 i1 : Expr} {scope : Scope} {pos : Pos} {it : Value} {D : Addr} {env : Env}
abbrev dc2 (kx vx t0 i0 t1 i1 : Expr) (scope : Scope) (pos : Pos) : Expr := .DictComp kx vx [⟨t0, i0, [], 0⟩, ⟨t1, i1, [], 0⟩] scope pos
theorem dc2_outer : compTurn (dc2 kx vx t0 i0 t1 i1 scope pos) 0 it (.ref D) env = (standAt i0.pos >>= fun _ => pyNext it >>= fun r => match r with
    | none => pure (.done .next)
    | some v => letOwnedTupleGo t0 it v >>= fun _ => assign t0 env v >>= fun _ => eval i1 env >>= fun x => standAt i1.pos >>= fun _ => foldedSetIterable i1 env x >>= fun x => holding [x] (pyIter x) >>= fun j => runOwn (.compStart (dc2 kx vx t0 i0 t1 i1 scope pos) 1 j (.ref D) env) env >>= fun _ => again (.compLoop (dc2 kx vx t0 i0 t1 i1 scope pos) 0 it (.ref D) env)) := by
  rfl
theorem dc2_inner : compTurn (dc2 kx vx t0 i0 t1 i1 scope pos) 1 it (.ref D) env = (standAt i1.pos >>= fun _ => pyNext it >>= fun r => match r with
    | none => pure (.done .next)
    | some v => letOwnedTupleGo t1 it v >>= fun _ => assign t1 env v >>= fun _ => (eval kx env >>= fun kv => holding [kv] (eval vx env) >>= fun vv => standAt { kx.pos with endLine := vx.pos.endLine, endCol := vx.pos.endCol } >>= fun _ => holding [kv, vv] (dictSet D kv vv)) >>= fun _ => again (.compLoop (dc2 kx vx t0 i0 t1 i1 scope pos) 1 it (.ref D) env)) := by
  rfl
theorem dc2_out {I : Nat → Shared → Prop} (hs : ∀ x, foldedSetIterable i1 env x = pure x)
    (turn : ∀ k t, I k t → wpAny (model prog w) A (pyNext it) (fun r a => match r with
      | none => R (.ok .next) a
      | some v => wpAny (model prog w) A (letOwnedTupleGo t0 it v) (fun _ b => wpAny (model prog w) A (assign t0 env v) (fun _ c => wpAny (model prog w) A (eval i1 env) (fun x d => wpAny (model prog w) A (pyIter x) (fun j f =>
          codeAny (model prog w) A (.compStart (dc2 kx vx t0 i0 t1 i1 scope pos) 1 j (.ref D) env) (fun r' g => match r' with
            | .ok _ => ∃ m, m < k ∧ I m g
            | .error _ => False) f) (fun _ _ => False) d) (fun _ _ => False) c) (fun _ _ => False) b) (fun _ _ => False) a) (fun _ _ => False) t)
    {k0 : Nat} (h : I k0 s) : codeAny (model prog w) A (.compLoop (dc2 kx vx t0 i0 t1 i1 scope pos) 0 it (.ref D) env) R s := by
  refine codeAny_loop rfl I (fun k t hk => ?_) k0 h
  show wpAny _ A ((compTurn (dc2 kx vx t0 i0 t1 i1 scope pos) 0 it (.ref D) env).onRaise (fun x => do noteFrame x env; theTreesLotGoes x)) _ _ t
  refine wpAny_noted ?_
  rw [dc2_outer]
  refine wpAny_bind (wpAny_standAt (wpAny_bind (thnF (turn k t hk) fun r a ha => ?_)))
  cases r with
  | none => exact wpAny_pure ha
  | some v =>
    refine wpAny_bind (thnF ha fun _ b hb => wpAny_bind (thnF hb fun _ c hc => wpAny_bind (thnF hc fun x d hd => ?_)))
    refine wpAny_bind (wpAny_standAt (wpAny_bind (wpAny_of_eq (hs x) (wpAny_bind (wpAny_holding (thnF hd fun j f hf => ?_))))))
    refine wpAny_bind (wpAny_runOwn ?_)
    rw [Around.mark_none]
    refine codeAny_mono hf fun r' g hg => ?_
    cases r' with
    | ok _ => exact wpAny_pure ⟨rfl, hg⟩
    | error _ => exact hg.elim
theorem dc2_in {I : Nat → Shared → Prop}
    (turn : ∀ k t, I k t → wpAny (model prog w) A (pyNext it) (fun r a => match r with
      | none => R (.ok .next) a
      | some v => wpAny (model prog w) A (letOwnedTupleGo t1 it v) (fun _ b => wpAny (model prog w) A (assign t1 env v) (fun _ c => wpAny (model prog w) A (eval kx env) (fun kv d => wpAny (model prog w) A (eval vx env) (fun vv f =>
          wpAny (model prog w) A (dictSet D kv vv) (fun _ g => ∃ m, m < k ∧ I m g) (fun _ _ => False) f) (fun _ _ => False) d) (fun _ _ => False) c) (fun _ _ => False) b) (fun _ _ => False) a) (fun _ _ => False) t)
    {k0 : Nat} (h : I k0 s) : codeAny (model prog w) A (.compLoop (dc2 kx vx t0 i0 t1 i1 scope pos) 1 it (.ref D) env) R s := by
  refine codeAny_loop rfl I (fun k t hk => ?_) k0 h
  show wpAny _ A ((compTurn (dc2 kx vx t0 i0 t1 i1 scope pos) 1 it (.ref D) env).onRaise (fun x => do noteFrame x env; theTreesLotGoes x)) _ _ t
  refine wpAny_noted ?_
  rw [dc2_inner]
  refine wpAny_bind (wpAny_standAt (wpAny_bind (thnF (turn k t hk) fun r a ha => ?_)))
  cases r with
  | none => exact wpAny_pure ha
  | some v =>
    refine wpAny_bind (thnF ha fun _ b hb => wpAny_bind (thnF hb fun _ c hc => wpAny_bind (wpAny_bind (thnF hc fun kv d hd => ?_))))
    refine wpAny_bind (wpAny_holding (thnF hd fun vv f hf => wpAny_bind (wpAny_standAt (wpAny_holding (thnF hf fun _ g hg => ?_)))))
    exact wpAny_pure ⟨rfl, hg⟩
theorem dc2_start (h0 : codeAny (model prog w) A (.compLoop (dc2 kx vx t0 i0 t1 i1 scope pos) 1 it (.ref D) env) R s)
    (h : wpAny (model prog w) A (pyIter it) (fun j a => codeAny (model prog w) A (.compLoop (dc2 kx vx t0 i0 t1 i1 scope pos) 1 j (.ref D) env) R a) (fun _ _ => False) s) :
    codeAny (model prog w) A (.compStart (dc2 kx vx t0 i0 t1 i1 scope pos) 1 it (.ref D) env) R s := by
  refine codeAny_of_tree ?_
  show wpAny _ _ ((compStart (dc2 kx vx t0 i0 t1 i1 scope pos) 1 it (.ref D) env).onRaise (fun x => do noteFrame x env; standAt theWindowsPlace)) _ _ s
  refine wpAny_notedAt ?_
  unfold compStart
  show wpAny _ _ (ask >>= _) _ _ s
  refine wpAny_bind (wpAny_askSetting (wpAny_ite ?_))
  split
  · first
      | exact wpAny_pure ⟨rfl, h0⟩
      | exact wpAny_bind (wpAny_pure (wpAny_pure ⟨rfl, h0⟩))
  · refine wpAny_bind (wpAny_rule ?_)
    show wpAny _ _ (standAt i1.pos >>= _) _ _ s
    exact wpAny_bind (wpAny_standAt (wpAny_bind (thnF h fun j a ha => wpAny_pure ⟨rfl, ha⟩)))
end
def goT2 (g : TG) (wi1 : TI) (g1 : TG) (tk tv : TE) (vs vs1 : List Nat) (σ : L2.St) (Q : VK) (J : It) (D : Addr) (H1 : Hp) : Prop := ∃ W : Nat → Nat → Hp → Prop, (∃ m, W 0 m (upd H1 D (.dT []))) ∧
  Stp J W (fun H => Q (.ref D) H) fun x H Nx => g x (wipe σ vs) H fun σ2 H2 => wipe σ2 vs = wipe σ vs ∧ wi1 σ2 H2 fun J1 H3 => ∃ W1 : Nat → Nat → Hp → Prop, (∃ m, W1 0 m H3) ∧
    Stp J1 W1 Nx fun x1 H4 Nx1 => g1 x1 (wipe σ2 vs1) H4 fun σ3 H5 => wipe σ3 vs1 = wipe σ2 vs1 ∧ tk σ3 H5 fun y H6 => tv σ3 H6 fun z H7 =>
      ∃ kvs k b, y = .ref b ∧ H7 b = some (.tup (k.map kV)) ∧ H7 D = some (.dT kvs) ∧ kvs.length < sizeLine ∧ Nx1 (upd H7 D (.dT (putK kvs k z)))
theorem dc2T_loop {kx vx tg iter tg1 iter1 : Expr} {scope : Scope} {own : List (Str × Nat)} {vs1 : List Nat} {pos : Pos} {wi1 : TI} {g g1 : TG} {tk tv : TE} (hu : X.A.units + 1 < cLine) (hc : X.calm = true) (h1 : ∀ i ∈ vs1, i ∈ own.map (·.2))
    (hg : ∀ (s : Shared) (H : Hp) (C : Addr) (cl : List (Str × Addr)) (fp : List Addr), PG (X.blk s H scope (compEnvC scope cl C X.env) fp) tg g)
    (hi1 : ∀ (s : Shared) (H : Hp) (C : Addr) (cl : List (Str × Addr)) (fp : List Addr), PI (X.blk s H scope (compEnvC scope cl C X.env) fp) tg1 iter1 wi1)
    (hg1 : ∀ (s : Shared) (H : Hp) (C : Addr) (cl : List (Str × Addr)) (fp : List Addr), PG (X.blk s H scope (compEnvC scope cl C X.env) fp) tg1 g1)
    (hk : ∀ (s : Shared) (H : Hp) (C : Addr) (cl : List (Str × Addr)) (fp : List Addr), PE (X.blk s H scope (compEnvC scope cl C X.env) fp) kx tk)
    (hv : ∀ (s : Shared) (H : Hp) (C : Addr) (cl : List (Str × Addr)) (fp : List Addr), PE (X.blk s H scope (compEnvC scope cl C X.env) fp) vx tv) (hs1 : ∀ env x, foldedSetIterable iter1 env x = pure x) (σ : L2.St) (Q : VK) :
    DLp X σ scope own tg (dc2 kx vx tg iter tg1 iter1 scope pos) (goT2 g wi1 g1 tk tv (own.map (·.2)) vs1 σ Q) Q := by
  intro J D it fp tn H1 s3 s4 cl RR go T I4 t4 n4 fin
  obtain ⟨W, ⟨m0, w0⟩, st⟩ := go
  have pg := hg s3 (upd H1 D (.dT [])) s3.heap.objs.size cl fp
  have pi1 := hi1 s3 (upd H1 D (.dT [])) s3.heap.objs.size cl fp
  have pg1 := hg1 s3 (upd H1 D (.dT [])) s3.heap.objs.size cl fp
  have pk := hk s3 (upd H1 D (.dT [])) s3.heap.objs.size cl fp
  have pv := hv s3 (upd H1 D (.dT [])) s3.heap.objs.size cl fp
  generalize compEnvC scope cl s3.heap.objs.size X.env = ce at *
  refine dc2_out (I := Lp (X.blk s3 (upd H1 D (.dT [])) scope ce fp) [] (wipe σ (own.map (·.2))) fp tn W) (hs1 ce) (fun n s5 hl => ?_) ⟨0, _, I4, t4, n4, w0⟩
  refine thn (hl.turn (Y := X.blk s3 (upd H1 D (.dT [])) scope ce fp) T hc (fun H' σ' s' a b => blk_fp a b) st) fun r s6 h6 => ?_
  cases r with
  | none =>
    obtain ⟨H6, I6, q⟩ := h6
    exact fin H6 s6 I6 q
  | some u =>
    refine thn h6 fun _ s7 h7 => ?_
    obtain ⟨x, H7, pq, Nx, I7, rx, by7, on⟩ := h7
    refine thn (pg.run _ s7 _ H7 x u _ I7 rx by7) fun _ s8 h8 => ?_
    obtain ⟨σ8, H8, I8, w8, q8⟩ := h8
    refine thn (pi1.run _ s8 σ8 H8 _ I8 q8) fun xv s9 h9 => thn h9 fun jv s10 h10 => ?_
    obtain ⟨jt, fp1, tn1, J1, H10, rfl, I10, T1, t10, f10, W1, ⟨k0, v0⟩, st1⟩ := h10
    have inner : codeAny (model X.prog X.w) X.A (.compLoop (dc2 kx vx tg iter tg1 iter1 scope pos) 1 (.ref jt) (.ref D) ce) (fun r' g' => match r' with
        | .ok _ => ∃ m, m < n ∧ Lp (X.blk s3 (upd H1 D (.dT [])) scope ce fp) [] (wipe σ (own.map (·.2))) fp tn W m g'
        | .error _ => False) s10 := by
      refine dc2_in (I := Lp (X.blk s3 (upd H1 D (.dT [])) scope ce fp) ([] ++ pq) (wipe σ8 vs1) fp1 tn1 W1) (fun k s11 hl1 => ?_) ⟨0, H10, I10.weak (wipe_length _ _) (fun j v e => (wipe_some e).1), t10, fun b hb => (f10 b hb).1, v0⟩
      refine thn (hl1.turn (Y := X.blk s3 (upd H1 D (.dT [])) scope ce fp) T1 hc (fun H' σ' s' a _ b hb => ⟨a b hb, (f10 b hb).2⟩) st1) fun r s12 h12 => ?_
      cases r with
      | none =>
        obtain ⟨H12, I12, nx⟩ := h12
        refine on _ _ _ I12 ?_ ?_ nx
        · rw [← w8, wipe_length, wipe_length]
        · intro j v e
          rw [← w8] at e
          obtain ⟨e1, e2⟩ := wipe_some e
          rw [wipe_out fun z => e2 (h1 j z)]
          exact e1
      | some u1 =>
        refine thn h12 fun _ s13 h13 => ?_
        obtain ⟨x1, H13, pr, Nx1, I13, rx1, by13, on1⟩ := h13
        refine thn (pg1.run _ s13 _ H13 x1 u1 _ I13 rx1 by13) fun _ s14 h14 => ?_
        obtain ⟨σ14, H14, I14, w14, q14⟩ := h14
        refine thn (pk.run _ s14 σ14 H14 _ I14 q14) fun kv s15 h15 => ?_
        obtain ⟨y, H15, I15, ry, q15⟩ := h15
        refine thn (pv.run _ s15 σ14 H15 _ I15 q15) fun vv s16 h16 => ?_
        obtain ⟨z, H16, I16, rz, kvs, k', b, rfl, eb, eD, hz, nx⟩ := h16
        obtain rfl : kv = Value.ref b := ry
        refine put_tup (X := X.blk s3 (upd H1 D (.dT [])) scope ce fp) hu I16 eD eb hz rz fun s17 I17 => on1 _ _ _ I17 ?_ ?_ nx
        · rw [← w14, wipe_length]
        · intro j v e
          rw [← w14] at e
          exact (wipe_some e).1
    exact dc2_start inner (T1.self X.A 0 _ _ _ t10 inner)
section
variable {kx vx tg iter tg1 iter1 : Expr} {scope : Scope} {own : List (Str × Nat)} {vs1 : List Nat} {pos : Pos} {wi wi1 : TI} {g g1 : TG} {tk tv : TE} (hu : X.A.units + 1 < cLine) (hc : X.calm = true) (hN : X.N.Nodup) (hi : PI X tg iter wi) (ok : BlkOk X.N X.env.scope scope own) (h1 : ∀ i ∈ vs1, i ∈ own.map (·.2))
    (hg : ∀ (s : Shared) (H : Hp) (C : Addr) (cl : List (Str × Addr)) (fp : List Addr), PG (X.blk s H scope (compEnvC scope cl C X.env) fp) tg g)
    (hi1 : ∀ (s : Shared) (H : Hp) (C : Addr) (cl : List (Str × Addr)) (fp : List Addr), PI (X.blk s H scope (compEnvC scope cl C X.env) fp) tg1 iter1 wi1)
    (hg1 : ∀ (s : Shared) (H : Hp) (C : Addr) (cl : List (Str × Addr)) (fp : List Addr), PG (X.blk s H scope (compEnvC scope cl C X.env) fp) tg1 g1)
    (hk : ∀ (s : Shared) (H : Hp) (C : Addr) (cl : List (Str × Addr)) (fp : List Addr), PE (X.blk s H scope (compEnvC scope cl C X.env) fp) kx tk)
    (hv : ∀ (s : Shared) (H : Hp) (C : Addr) (cl : List (Str × Addr)) (fp : List Addr), PE (X.blk s H scope (compEnvC scope cl C X.env) fp) vx tv)
include hu hc hN hi ok h1 hg hi1 hg1 hk hv
theorem pe_dc2T (hs : ∀ x, foldedSetIterable iter X.env x = pure x := by intro _; rfl) (hs1 : ∀ env x, foldedSetIterable iter1 env x = pure x := by intro _ _; rfl) : PE X (dc2 kx vx tg iter tg1 iter1 scope pos) (tDc2T wi g wi1 g1 tk tv (own.map (·.2)) vs1) :=
  pe_dict (Go := goT2 g wi1 g1 tk tv (own.map (·.2)) vs1) hN hi ok hs fun σ Q => dc2T_loop hu hc h1 hg hi1 hg1 hk hv hs1 σ Q
theorem ps_dc2T {i : Nat} {y : Str} {py spos : Pos} (hy : X.N[i]? = some y) (hyl : X.env.scope.names.lookup y = some .local) (hsw : swapsWith (dc2 kx vx tg iter tg1 iter1 scope pos) (some (.Name y py)) spos.line X.env = pure true) (hs : ∀ x, foldedSetIterable iter X.env x = pure x := by intro _; rfl) (hs1 : ∀ env x, foldedSetIterable iter1 env x = pure x := by intro _ _; rfl) :
    PS X (.Assign [.Name y py] (dc2 kx vx tg iter tg1 iter1 scope pos) spos) (tAsg (tDc2T wi g wi1 g1 tk tv (own.map (·.2)) vs1) (gName i)) := by
  have h := ps_dict (Go := goT2 g wi1 g1 tk tv (own.map (fun x => x.2)) vs1) hN hy hyl hsw hi ok hs fun σ Q => dc2T_loop hu hc h1 hg hi1 hg1 hk hv hs1 σ Q
  exact h
end
end
/-- a walk answers what Stp asks -/
theorem stp_it {J : It} {n : Nat} {Gd : Hp → Prop} {Y : Nat → Hp → V → Hp → Prop} (w : Walk J n Gd Y) {Ed : Hp → Prop} {B : V → Hp → (Hp → Prop) → Prop} {H0 : Hp} (Pv : Nat → Hp → Prop) (h0 : Pv 0 H0) (hG : ∀ i H, i ≤ n → Pv i H → Gd H)
    (hs : ∀ i x H H', i < n → Pv i H → Y i H x H' → B x H' (Pv (i + 1))) (hd : ∀ H, Pv n H → Ed H) : ∃ W : Nat → Nat → Hp → Prop, (∃ m, W 0 m H0) ∧ Stp J W Ed B := by
  refine ⟨fun i m H => m = n - i ∧ i ≤ n ∧ Pv i H, ⟨n, rfl, Nat.zero_le _, h0⟩, fun i m H h => ?_⟩
  obtain ⟨rfl, le, pv⟩ := h
  rcases Nat.lt_or_ge i n with lt | ge
  · exact .inr ⟨w.goes i H lt (hG i H le pv), Pv (i + 1), fun H' p' => ⟨n - (i + 1), by omega, rfl, lt, p'⟩, fun x H' y => hs i x H H' lt pv (w.yields i H x H' lt (hG i H le pv) y)⟩
  · obtain rfl : i = n := by omega
    exact .inl ⟨w.stops H (hG i H le pv), hd H pv⟩
end NB

set_option Elab.async false
set_option linter.all false
set_option maxRecDepth 100000
set_option maxHeartbeats 1000000
/-! tuple(zip(a, b)) of two lists of one length. -/
namespace NB
open PySem PySem.Spec PyProof.Rows L2

theorem zip_len0 : typeLookup (.type "zip") "__len__" = pure none := by
  rw [typeLookup_type, builtinLookup_eq_fast]
  kernel_rfl
theorem zip_hint0 : typeLookup (.type "zip") "__length_hint__" = pure none := by
  rw [typeLookup_type, builtinLookup_eq_fast]
  kernel_rfl
/-- the tuples given out so far -/
def Gave (h : Heap) (ban : List Addr) (xs ys : Array Value) (Ts : List Addr) : Prop := ∀ (j : Nat) (T : Addr), Ts[j]? = some T → T ∉ ban ∧ ∃ x y, xs[j]? = some x ∧ ys[j]? = some y ∧ IsPair h T x y
/-- a zip of two lists behind k turns -/
def Zst (h : Heap) (z TI TO i1 i2 l1 l2 : Addr) (xs ys : Array Value) (k : Nat) (Ts : List Addr) : Prop :=
  ((IsZip h z TI TO .none ∧ Ts = []) ∨ ∃ T ∈ Ts, ∃ f, IsZipHeld h z TI TO T f) ∧ IsPair h TI (.ref i1) (.ref i2) ∧ (∃ a b, IsPair h TO a b) ∧ (h.IsListIter i1 l1 k ∧ h.IsListIter i2 l2 k) ∧ h.IsList l1 xs ∧ h.IsList l2 ys
theorem Gave.keep {h h' : Heap} {ban : List Addr} {xs ys : Array Value} {Ts : List Addr} (g : Gave h ban xs ys Ts) (k : ∀ b o, b ∉ ban → h.get? b = some o → h'.get? b = some o) : Gave h' ban xs ys Ts := fun j T e => by
  obtain ⟨n, x, y, ex, ey, p⟩ := g j T e
  exact ⟨n, x, y, ex, ey, k _ _ n p⟩
theorem Gave.snoc {h : Heap} {ban : List Addr} {xs ys : Array Value} {Ts : List Addr} {T : Addr} {x y : Value} (g : Gave h ban xs ys Ts) (n : T ∉ ban) (ex : xs[Ts.length]? = some x) (ey : ys[Ts.length]? = some y) (p : IsPair h T x y) : Gave h ban xs ys (Ts ++ [T]) := fun j T' e => by
  rcases Nat.lt_trichotomy j Ts.length with l | l | l
  · rw [List.getElem?_append_left l] at e
    exact g j T' e
  · rw [l, List.getElem?_append_right (Nat.le_refl _), Nat.sub_self] at e
    cases e
    exact ⟨n, x, y, l ▸ ex, l ▸ ey, p⟩
  · rw [List.getElem?_append_right (by omega)] at e
    rw [List.getElem?_eq_none (by simp; omega)] at e
    cases e
section
variable {prog : Program} {w : World} {A : Around} {E : Value → Shared → Prop} {z TI TO i1 i2 l1 l2 S : Addr} {xs ys : Array Value}
abbrev listAt (h : Heap) (S : Addr) (vs : Array Value) (c : Nat) : Prop := h.get? S = some { cls := .type "list", dict := none, data := .seq vs c, slots := #[] }
theorem zip_turn {s : Shared} {k : Nat} {Ts : List Addr} {x y : Value} {Q : Option Value → Shared → Prop} (D : ZipApart z TI TO i1 i2 l1 l2) (st : Zst s.heap z TI TO i1 i2 l1 l2 xs ys k Ts) (hT : ∀ T ∈ Ts, ∃ o, s.heap.get? T = some o) (hx : xs[k]? = some x) (hy : ys[k]? = some y)
    (hQ : ∀ h', Zst h' z TI TO i1 i2 l1 l2 xs ys (k + 1) (Ts ++ [s.heap.objs.size]) → IsPair h' s.heap.objs.size x y → (∀ b o, b ∉ [z, TO, i1, i2] → s.heap.get? b = some o → h'.get? b = some o) → Q (some (.ref s.heap.objs.size)) { s with heap := h' }) :
    wpAny (model prog w) A (pyNext (.ref z)) Q E s := by
  obtain ⟨zs, p1, ⟨a, b, p2⟩, ⟨t1, t2⟩, q1, q2⟩ := st
  rcases zs with ⟨z0, _⟩ | ⟨T, mT, f, zh⟩
  · refine wpAny_pyNext_zip_item D z0 p1 p2 t1 t2 q1 q2 hx hy fun h' a1 a2 a3 a4 a5 _ kp => hQ h' ⟨.inr ⟨_, List.mem_append_right _ (List.mem_singleton.mpr rfl), false, a1⟩, kp _ _ D.TIz D.TITO D.TIi1 D.TIi2 p1, ⟨_, _, a2⟩, ⟨a3, a4⟩, q1.at fun o e => kp _ o D.l1z D.l1TO D.l1i1 D.l1i2 e, q2.at fun o e => kp _ o D.l2z D.l2TO D.l2i1 D.l2i2 e⟩ a5 fun b o nb e => ?_
    simp only [List.mem_cons, List.not_mem_nil, or_false, not_or] at nb
    exact kp b o nb.1 nb.2.1 nb.2.2.1 nb.2.2.2 e
  · obtain ⟨o, eo⟩ := hT T mT
    refine wpAny_pyNext_zip_item_held D zh eo p1 t1 t2 q1 q2 hx hy fun h' a1 a3 a4 a5 _ kp => hQ h' ⟨.inr ⟨T, List.mem_append_left _ mT, true, a1⟩, kp _ _ D.TIz D.TIi1 D.TIi2 p1, ⟨_, _, kp _ _ D.TOz D.TOi1 D.TOi2 p2⟩, ⟨a3, a4⟩, q1.at fun o e => kp _ o D.l1z D.l1i1 D.l1i2 e, q2.at fun o e => kp _ o D.l2z D.l2i1 D.l2i2 e⟩ a5 fun b o nb e => ?_
    simp only [List.mem_cons, List.not_mem_nil, or_false, not_or] at nb
    exact kp b o nb.1 nb.2.2.1 nb.2.2.2 e
theorem zip_over {s : Shared} {k : Nat} {Ts : List Addr} {Q : Option Value → Shared → Prop} (hh : A.handled = none) (D : ZipApart z TI TO i1 i2 l1 l2) (st : Zst s.heap z TI TO i1 i2 l1 l2 xs ys k Ts) (hT : ∀ T ∈ Ts, ∃ o, s.heap.get? T = some o) (hx : xs[k]? = none)
    (hQ : ∀ h', (∀ b o, b ∉ [z, TO, i1, i2] → s.heap.get? b = some o → h'.get? b = some o) → Q none { s with heap := h' }) : wpAny (model prog w) A (pyNext (.ref z)) Q E s := by
  obtain ⟨zs, p1, ⟨a, b, p2⟩, ⟨t1, t2⟩, q1, q2⟩ := st
  rcases zs with ⟨z0, _⟩ | ⟨T, mT, f, zh⟩
  · refine wpAny_pyNext_zip_end hh D z0 p1 p2 t1 t2 q1 q2 (.inl hx) fun h' kp => hQ h' fun b o nb e => ?_
    simp only [List.mem_cons, List.not_mem_nil, or_false, not_or] at nb
    exact kp b o nb.1 nb.2.1 nb.2.2.1 nb.2.2.2 e
  · obtain ⟨o, eo⟩ := hT T mT
    refine wpAny_pyNext_zip_end_held hh D zh eo p1 t1 t2 q1 q2 (.inl hx) fun h' kp => hQ h' fun b o nb e => ?_
    simp only [List.mem_cons, List.not_mem_nil, or_false, not_or] at nb
    exact kp b o nb.1 nb.2.2.1 nb.2.2.2 e
theorem Zst.keep {h h' : Heap} {k : Nat} {Ts : List Addr} (st : Zst h z TI TO i1 i2 l1 l2 xs ys k Ts) (kp : ∀ b o, b ≠ S → h.get? b = some o → h'.get? b = some o) (n : S ∉ [z, TI, TO, i1, i2, l1, l2]) : Zst h' z TI TO i1 i2 l1 l2 xs ys k Ts := by
  simp only [List.mem_cons, List.not_mem_nil, or_false, not_or] at n
  obtain ⟨n1, n2, n3, n4, n5, n6, n7⟩ := n
  obtain ⟨zs, p1, ⟨a, b, p2⟩, ⟨t1, t2⟩, q1, q2⟩ := st
  refine ⟨?_, kp _ _ (Ne.symm n2) p1, ⟨a, b, kp _ _ (Ne.symm n3) p2⟩, ⟨t1.at fun o e => kp _ o (Ne.symm n4) e, t2.at fun o e => kp _ o (Ne.symm n5) e⟩, q1.at fun o e => kp _ o (Ne.symm n6) e, q2.at fun o e => kp _ o (Ne.symm n7) e⟩
  rcases zs with ⟨z0, e⟩ | ⟨T, mT, f, zh⟩
  · exact .inl ⟨kp _ _ (Ne.symm n1) z0, e⟩
  · exact .inr ⟨T, mT, f, kp _ _ (Ne.symm n1) zh⟩
theorem zip_loop {R : Result → Shared → Prop} (hh : A.handled = none) (D : ZipApart z TI TO i1 i2 l1 l2) (nS : S ∉ [z, TI, TO, i1, i2, l1, l2]) (hn : xs.size = ys.size) (hz : xs.size ≤ 1000) (res : Value) :
    ∀ (m k : Nat) (s : Shared) (Ts : List Addr) (c : Nat), xs.size - k = m → k ≤ xs.size → Ts.length = k → Zst s.heap z TI TO i1 i2 l1 l2 xs ys k Ts → Gave s.heap [S, z, TO, i1, i2] xs ys Ts → listAt s.heap S (Ts.map Value.ref).toArray c →
    (∀ (h' : Heap) (Us : List Addr) (c' : Nat), (∀ b o, b ∉ [S, z, TO, i1, i2] → s.heap.get? b = some o → h'.get? b = some o) → Us.length = xs.size → (∀ T ∈ Us, T ∈ Ts ∨ s.heap.objs.size ≤ T) → Us.Nodup ∨ True → Gave h' [S, z, TO, i1, i2] xs ys Us → listAt h' S (Us.map Value.ref).toArray c' → R (.ok (.ret res)) { s with heap := h' }) →
    codeAny (model prog w) A (.builtin "list.extend.loop" ⟨[.ref S, .ref z, res], []⟩) R s := by
  have hb : ∀ b, b ∉ [S, z, TO, i1, i2] → b ∉ [z, TO, i1, i2] := fun b h1 h2 => h1 (List.mem_cons_of_mem _ h2)
  intro m
  induction m with
  | zero =>
    intro k s Ts c em le lT st gv lS fin
    have ek : k = xs.size := by omega
    have al : ∀ T ∈ Ts, ∃ o, s.heap.get? T = some o := fun T mT => by
      obtain ⟨j, hj, e⟩ := List.getElem_of_mem mT
      obtain ⟨_, _, _, _, _, p⟩ := gv j T (by rw [List.getElem?_eq_getElem hj, e])
      exact ⟨_, p⟩
    refine codeAny_builtin F.entry_extend_loop ?_
    rw [Around.under_plainId F.plain_extend_loop _]
    show wpAny _ A.in1 (pyNext (.ref z) >>= _) _ _ s
    have sn : S ∉ [z, TO, i1, i2] := fun h => nS (by
      simp only [List.mem_cons, List.not_mem_nil, or_false] at h ⊢
      rcases h with h | h | h | h <;> simp [h])
    refine wpAny_bind (zip_over (A := A.in1) hh D st al (by rw [ek]; simp) fun h' kp => wpAny_pure ?_)
    exact fin h' Ts c (fun b o n e => kp b o (hb b n) e) (by omega) (fun T h => .inl h) (.inr trivial) (gv.keep fun b o n e => kp b o (hb b n) e) (kp _ _ sn lS)
  | succ m ih =>
    intro k s Ts c em le lT st gv lS fin
    have lk : k < xs.size := by omega
    have al : ∀ T ∈ Ts, ∃ o, s.heap.get? T = some o := fun T mT => by
      obtain ⟨j, hj, e⟩ := List.getElem_of_mem mT
      obtain ⟨_, _, _, _, _, p⟩ := gv j T (by rw [List.getElem?_eq_getElem hj, e])
      exact ⟨_, p⟩
    have sn : S ∉ [z, TO, i1, i2] := fun h => nS (by
      simp only [List.mem_cons, List.not_mem_nil, or_false] at h ⊢
      rcases h with h | h | h | h <;> simp [h])
    refine codeAny_builtin F.entry_extend_loop ?_
    rw [Around.under_plainId F.plain_extend_loop _]
    show wpAny _ A.in1 (pyNext (.ref z) >>= _) _ _ s
    have ex : xs[k]? = some xs[k] := Array.getElem?_eq_getElem lk
    have ey : ys[k]? = some (ys[k]'(by omega)) := Array.getElem?_eq_getElem _
    refine wpAny_bind (zip_turn (A := A.in1) D st al ex ey fun h' st' pr kp => ?_)
    have lS' : listAt h' S (Ts.map Value.ref).toArray c := kp _ _ sn lS
    show wpAny _ A.in1 (updateSeq S (·.push (.ref s.heap.objs.size)) >>= _) _ _ _
    have up : ∀ b o, b ≠ S → h'.get? b = some o → (h'.update S (Obj.mapSeq (·.push (Value.ref s.heap.objs.size)))).get? b = some o := fun b o n e => (Heap.get?_update_other _ _ (Ne.symm n)).trans e
    have nT : s.heap.objs.size ∉ [S, z, TO, i1, i2] := fun h => by
      have lt : ∀ {c o}, s.heap.get? c = some o → s.heap.objs.size ≠ c := fun e => Nat.ne_of_gt (Heap.lt_size e)
      obtain ⟨zs, p1, ⟨a, b, p2⟩, ⟨⟨_, t1, _⟩, ⟨_, t2, _⟩⟩, q1, q2⟩ := st
      simp only [List.mem_cons, List.not_mem_nil, or_false] at h
      rcases h with h | h | h | h | h
      · exact lt lS h
      · rcases zs with ⟨z0, _⟩ | ⟨T, mT, f, zh⟩
        · exact lt z0 h
        · exact lt zh h
      · exact lt p2 h
      · exact lt t1 h
      · exact lt t2 h
    have gv' : Gave h' [S, z, TO, i1, i2] xs ys (Ts ++ [s.heap.objs.size]) := (gv.keep fun b o n e => kp b o (hb b n) e).snoc nT (by rw [lT]; exact ex) (by rw [lT]; exact ey) pr
    refine wpAny_bind (wpAny_updateSeq lS' rfl (wpAny_pure ⟨plainId_quiet F.plain_extend_loop _, ih (k + 1) _ (Ts ++ [s.heap.objs.size]) (c + 1) (by omega) lk (by rw [List.length_append, lT]; rfl) (st'.keep up nS) (gv'.keep fun b o n e => up b o (fun z => n (by rw [z]; exact List.mem_cons_self)) e) ?_ fun h'' Us c' kk lU mU _ gU lU' => ?_⟩) ?_ ?_)
    · have := Heap.get?_update_self (Obj.mapSeq (·.push (Value.ref s.heap.objs.size))) lS' rfl
      refine this.trans ?_
      have sz : (((Ts.map Value.ref).toArray.push (Value.ref s.heap.objs.size)).size == (Ts.map Value.ref).toArray.size) = false := by
        rw [Array.size_push]
        exact beq_eq_false_iff_ne.mpr (by omega)
      have ea : (Ts.map Value.ref).toArray.push (Value.ref s.heap.objs.size) = ((Ts ++ [s.heap.objs.size]).map Value.ref).toArray := by simp
      show some (Obj.mapSeq _ _) = _
      unfold Obj.mapSeq
      rw [ea] at sz
      simp only [ea, sz]
      rfl
    · refine fin h'' Us c' (fun b o n e => kk b o n (up b o (fun z => n (by rw [z]; exact List.mem_cons_self)) (kp b o (hb b n) e))) lU (fun T h => ?_) (.inr trivial) gU lU'
      rcases mU T h with h | h
      · rcases List.mem_append.mp h with h | h
        · exact .inl h
        · exact .inr (by rw [List.mem_singleton.mp h]; exact Nat.le_refl _)
      · refine .inr (Nat.le_trans ?_ h)
        have := Heap.lt_size pr
        show s.heap.objs.size ≤ (h'.update S _).objs.size
        have e : (h'.update S (Obj.mapSeq (·.push (Value.ref s.heap.objs.size)))).objs.size = h'.objs.size := Heap.size_update ..
        rw [e]
        exact Nat.le_of_lt this
    · show (Ts.map Value.ref).toArray.size ≤ sizeLine
      simp only [List.size_toArray, List.length_map]
      exact Nat.le_of_lt (small1000 (by omega))
    · show ((Ts.map Value.ref).toArray.push _).size ≤ sizeLine + 1
      simp only [Array.size_push, List.size_toArray, List.length_map]
      have := small1000 (n := Ts.length) (by omega)
      omega

/-- the list of what a zip gives -/
theorem zip_collect {s : Shared} {Q : List Value → Shared → Prop} (hh : A.handled = none) (D : ZipApart z TI TO i1 i2 l1 l2) (hn : xs.size = ys.size) (hz : xs.size ≤ 1000) (st : Zst s.heap z TI TO i1 i2 l1 l2 xs ys 0 [])
    (hQ : ∀ (h' : Heap) (Us : List Addr), (∀ b o, b ∉ [z, TO, i1, i2] → s.heap.get? b = some o → h'.get? b = some o) → Us.length = xs.size → (∀ T ∈ Us, s.heap.objs.size ≤ T) → Gave h' [z, TO, i1, i2] xs ys Us → Q (Us.map Value.ref) { s with heap := h' }) :
    wpAny (model prog w) A (collect (.ref z)) Q E s := by
  have lt : ∀ {c o}, s.heap.get? c = some o → s.heap.objs.size ≠ c := fun e => Nat.ne_of_gt (Heap.lt_size e)
  have z0 : IsZip s.heap z TI TO .none := by
    rcases st.1 with ⟨h, _⟩ | ⟨_, h, _⟩
    · exact h
    · exact absurd h List.not_mem_nil
  have nS : s.heap.objs.size ∉ [z, TI, TO, i1, i2, l1, l2] := fun h => by
    obtain ⟨_, p1, ⟨a, b, p2⟩, ⟨⟨_, t1, _⟩, ⟨_, t2, _⟩⟩, ⟨_, q1, _⟩, ⟨_, q2, _⟩⟩ := st
    simp only [List.mem_cons, List.not_mem_nil, or_false] at h
    rcases h with h | h | h | h | h | h | h
    · exact lt z0 h
    · exact lt p1 h
    · exact lt p2 h
    · exact lt t1 h
    · exact lt t2 h
    · exact lt q1 h
    · exact lt q2 h
  unfold collect
  refine wpAny_bind (wpAny_runValue (codeAny_builtin F.entry_proto_collect ?_))
  rw [Around.under_plainId F.plain_proto_collect _]
  show wpAny _ A.in1 (newList [] >>= fun l => again (.builtin "list.__iadd__" ⟨[l, .ref z], []⟩)) _ _ s
  refine wpAny_bind (wpAny_newObj_type ?_)
  refine wpAny_pure ⟨plainId_quiet F.plain_list_iadd _, codeAny_builtin F.entry_list_iadd ?_⟩
  rw [Around.under_plainId F.plain_list_iadd _]
  obtain ⟨S, eS⟩ : ∃ S, S = s.heap.objs.size := ⟨_, rfl⟩
  rw [← eS] at nS lt ⊢
  obtain ⟨g, eg⟩ : ∃ g : Heap, g = s.heap.push { cls := .type "list", data := .seq ([] : List Value).toArray } := ⟨_, rfl⟩
  rw [← eg]
  have up : ∀ b o, s.heap.get? b = some o → g.get? b = some o := fun b o e => by rw [eg]; exact Heap.get?_push_of_some _ e
  have gS : listAt g S #[] 0 := by
    rw [eg, eS]
    exact Heap.get?_push_size _ rfl
  have gz : IsZip g z TI TO .none := up _ _ z0
  have ty : ({ s with heap := g } : Shared).TypeIs (.ref z) "zip" := ⟨_, gz, rfl⟩
  have nz : S ≠ z := fun e => nS (by simp [e])
  show wpAny _ A.in1 (Builtin.List.listExtendWith (.ref S) (.ref z) (.ref S)) _ _ { s with heap := g }
  unfold Builtin.List.listExtendWith
  refine wpAny_bind (wpAny_typeOf ty ?_)
  have k1 : Builtin.List.listSameRef (.ref S) (.ref z) = false := by simp [Builtin.List.listSameRef, nz]
  have k2 : (Value.type "zip" == Value.type "list") = false := by decide
  have k3 : (Value.type "zip" == Value.type "tuple") = false := by decide
  simp only [k1, k2, k3, Bool.or_false, Bool.false_eq_true, if_false]
  refine wpAny_bind (wpAny_pyIter_zip (s := { s with heap := g }) gz ?_)
  refine wpAny_bind (wpAny_holding ?_)
  unfold Builtin.List.listLengthHint
  refine wpAny_bind (wpAny_specialOf ty zip_len0 ?_)
  show wpAny _ A.in1 (specialOf (Value.ref z) (Str.ofString "__length_hint__") >>= _) _ _ _
  refine wpAny_bind (wpAny_specialOf ty zip_hint0 ?_)
  refine wpAny_pure ?_
  show wpAny _ A.in1 (rule "list.extend.makes-room" >>= fun _ => Builtin.List.listTouch (.ref S) >>= fun _ => again (.builtin "list.extend.loop" ⟨[.ref S, .ref z, .ref S], []⟩)) _ _ _
  refine wpAny_bind (wpAny_rule (wpAny_bind ?_))
  show wpAny _ A.in1 (updateSeq S (·.push .none) >>= fun _ => updateSeq S (·.pop)) _ _ _
  refine wpAny_bind (wpAny_updateSeq (s := { s with heap := g }) gS rfl ?_)
  have g2 := Heap.get?_update_self (Obj.mapSeq (·.push Value.none)) gS rfl
  refine wpAny_updateSeq g2 rfl ?_
  have g3 := Heap.get?_update_self (Obj.mapSeq (·.pop)) g2 rfl
  have oth : ∀ b o, b ≠ S → g.get? b = some o → ((g.update S (Obj.mapSeq (·.push Value.none))).update S (Obj.mapSeq (·.pop))).get? b = some o := fun b o n e => (Heap.get?_update_other _ _ (Ne.symm n)).trans ((Heap.get?_update_other _ _ (Ne.symm n)).trans e)
  have st' : Zst ((g.update S (Obj.mapSeq (·.push Value.none))).update S (Obj.mapSeq (·.pop))) z TI TO i1 i2 l1 l2 xs ys 0 [] := by
    refine Zst.keep (S := S) (h := g) ?_ oth nS
    obtain ⟨_, p1, ⟨a, b, p2⟩, ⟨t1, t2⟩, q1, q2⟩ := st
    exact ⟨.inl ⟨gz, rfl⟩, up _ _ p1, ⟨a, b, up _ _ p2⟩, ⟨t1.at fun o e => up _ o e, t2.at fun o e => up _ o e⟩, q1.at fun o e => up _ o e, q2.at fun o e => up _ o e⟩
  have sz : ((g.update S (Obj.mapSeq (·.push Value.none))).update S (Obj.mapSeq (·.pop))).objs.size = s.heap.objs.size + 1 := by
    have a1 : ((g.update S (Obj.mapSeq (·.push Value.none))).update S (Obj.mapSeq (·.pop))).objs.size = (g.update S (Obj.mapSeq (·.push Value.none))).objs.size := Heap.size_update ..
    have a2 : (g.update S (Obj.mapSeq (·.push Value.none))).objs.size = g.objs.size := Heap.size_update ..
    rw [a1, a2, eg, Heap.size_push]
  refine wpAny_pure ⟨plainId_quiet F.plain_extend_loop _, zip_loop hh D nS hn hz _ xs.size 0 _ [] _ (by omega) (Nat.zero_le _) rfl st' (fun j T e => by simp at e) g3 fun h' Us c' kp lU mU _ gU lU' => ?_⟩
  have nb : ∀ {b o}, s.heap.get? b = some o → b ≠ S := fun e z => lt e z.symm
  show wpAny _ A (load S >>= _) _ _ { s with heap := h' }
  refine wpAny_bind (wpAny_load lU' (wpAny_pure ?_))
  refine hQ h' Us (fun b o n e => kp b o (fun m => ?_) (oth b o (nb e) (up b o e))) lU (fun T h => ?_) fun j T e => ?_
  · rcases List.mem_cons.mp m with m | m
    · exact nb e m
    · exact n m
  · rcases mU T h with h | h
    · exact absurd h List.not_mem_nil
    · have : s.heap.objs.size + 1 ≤ T := by rw [← sz]; exact h
      exact Nat.le_of_succ_le this
  · obtain ⟨n, x, y, ex, ey, p⟩ := gU j T e
    exact ⟨fun m => n (List.mem_cons_of_mem _ m), x, y, ex, ey, p⟩
theorem zip_tuple {s : Shared} {Q : Value → Shared → Prop} (hh : A.handled = none) (D : ZipApart z TI TO i1 i2 l1 l2) (hn : xs.size = ys.size) (hz : xs.size ≤ 1000) (st : Zst s.heap z TI TO i1 i2 l1 l2 xs ys 0 [])
    (hQ : ∀ (h' : Heap) (Us : List Addr), (∀ b o, b ∉ [z, TO, i1, i2] → s.heap.get? b = some o → h'.get? b = some o) → Us.length = xs.size → (∀ T ∈ Us, s.heap.objs.size ≤ T) → Gave h' [z, TO, i1, i2] xs ys Us →
      Q (.ref h'.objs.size) { s with heap := h'.push { cls := .type "tuple", data := .seq (Us.map Value.ref).toArray } }) :
    wpAny (model prog w) A (call (.type "tuple") [.ref z]) Q E s := by
  refine callType_codes (Q₁ := fun o t => t.TypeIs o "tuple" ∧ Q o t) F.called_tuple (F.typeCall_tuple_1 _) F.entry_object_init ?_ fun o t ht => ⟨ht.1, F.args_object_init_2 o _, object_init_meets F.called_tuple.init.lookup F.called_tuple.made (by decide) prog w A.in1 _ t ⟨ht.1, rfl, ht.2⟩⟩
  have z0 : IsZip s.heap z TI TO .none := by
    rcases st.1 with ⟨h, _⟩ | ⟨_, h, _⟩
    · exact h
    · exact absurd h List.not_mem_nil
  have ty : s.TypeIs (.ref z) "zip" := ⟨_, z0, rfl⟩
  refine codeAny_of_tree ?_
  show wpAny _ A.in1.in1 (do checkBuiltinCall "tuple.__new__" ⟨[.type "tuple", .ref z], []⟩; again (.builtin "tuple.__new__" ⟨[.type "tuple", .ref z], []⟩)) _ _ s
  refine wpAny_bind (wpAny_of_eq (F.newCall_tuple_1 _) (wpAny_pure ⟨plainId_quiet F.plain_tuple_new _, codeAny_builtin F.entry_tuple_new ?_⟩))
  rw [Around.under_plainId F.plain_tuple_new _]
  have f1 := sub_tuple_self
  have f2 := init_tuple_lookup
  have f3 := madeHere_tuple
  have hh2 : A.in1.in1.handled = none := hh
  wp_walk using wpAny_typeOf ty, zip_collect (A := A.in1.in1) hh2 D hn hz st
  intro h' Us kp lU mU gU
  show wpAny _ _ (Builtin.Tuple.tupleExact (Us.map Value.ref).toArray >>= fun v => ret v) _ _ _
  unfold Builtin.Tuple.tupleExact
  refine wpAny_bind (wpAny_newObj_type (wpAny_pure ⟨⟨_, Heap.get?_push_size _ rfl, rfl⟩, hQ h' Us kp lU mU gU⟩) ?_)
  show (Us.map Value.ref).toArray.size ≤ sizeLine
  rw [List.size_toArray, List.length_map, lU]
  exact Nat.le_of_lt (small1000 hz)
end

section
variable {X : Cx} {pins : List (Addr × Obj)} {σ : L2.St} {H H' : Hp} {s : Shared}
/-- some objects laid and tracked at once -/
theorem inv_laid {h' : Heap} {t' : Nat} (I : Inv X pins σ H s) (k : ∀ b u, s.heap.get? b = some u → h'.get? b = some u) (old : ∀ b u, H b = some u → H' b = some u) (new : ∀ b u, H' b = some u → H b = some u ∨ (s.heap.objs.size ≤ b ∧ ObjOk X.prog X.w H' h' b u)) :
    Inv X pins σ H' { s with heap := h', toks := t' } := by
  refine I.un ⟨fun b o q _ _ _ => k b o q, fun b o q _ _ _ => ⟨o.slots, k b o q⟩, fun b o q n _ => ?_, fun b o q _ => ⟨o, k b o q⟩, fun b xs q => old _ _ q, fun b o u q => old _ _ q, fun b ps q => ⟨#[], by rw [old _ _ q]; simp⟩⟩ fun b u e => ?_
  · cases e : H' b with
    | none => rfl
    | some u =>
      rcases new b u e with h | ⟨h, _⟩
      · rw [n] at h
        cases h
      · exact absurd (Nat.lt_of_lt_of_le (Heap.lt_size q) h) (Nat.lt_irrefl _)
  · rcases new b u e with h | ⟨_, h⟩
    · exact (I.hok b u h).stay (fun c v _ q => k c v q) (fun c q => old _ _ q) fun c xs q => old _ _ q
    · exact h
/-- tuple(zip(a, b)) of two lists -/
def tTupZip (K : PySem.W.Frag) (ta : TA) : TE := fun σ H Q => ta σ H fun vs H1 => ∃ a b xs ys, vs = [.ref a, .ref b] ∧ SqL K H1 a xs ∧ SqL K H1 b ys ∧ xs.length = ys.length ∧ xs.length ≤ 1000 ∧
  ∀ H2 q (Us : List Addr), Same H1 H2 → H1 q = none → H2 q = some (.tup (Us.map V.ref)) → Us.length = xs.length → (∀ (j : Nat) T, Us[j]? = some T → ∃ x y, xs[j]? = some x ∧ ys[j]? = some y ∧ H2 T = some (.tup [x, y])) → Q (.ref q) H2
theorem pe_tupZip {e e2 : Expr} {ta : TA} {p p2 pos pos2 : Pos} (hc : X.calm = true) (hg : Gl X "tuple") (hm : X.mg "tuple" = none) (hg2 : Gl X "zip") (hm2 : X.mg "zip" = none) (ha : PA X [e, e2] ta)
    (hs : starEach [e, e2] X.env = (false, eval e X.env) :: starEach [e2] X.env := by rfl) (hpl : (backTo pos2 (starEach [e2] X.env)).any (·.1) = false := by rfl)
    (hs1 : starEach [.Call (.Name "zip" p2) [e, e2] [] pos2] X.env = (false, eval (.Call (.Name "zip" p2) [e, e2] [] pos2) X.env) :: starEach [] X.env := by rfl) :
    PE X (.Call (.Name "tuple" p) [.Call (.Name "zip" p2) [e, e2] [] pos2] [] pos) (tTupZip X.K ta) := by
  refine ⟨fun pins s σ H Q I h => ?_⟩
  refine Call_ (ld_blt I hg hm boot_tuple (PyProof.Rows.callWith_type1 (args_cons ?_ hs1) hs1))
  refine Call_ (ld_blt I hg2 hm2 PyProof.Rows.boot_zip (PyProof.Rows.callWith_type1 (thn (ha.run pos2 pins s σ H _ I h) fun us s1 h1 => ?_) hs hpl))
  obtain ⟨vs, H1, I1, r1, a, b, xs, ys, rfl, ha1, hb1, hl, h1000, q⟩ := h1
  obtain ⟨u1, us, rfl, ru1, r2⟩ : ∃ u us', us = u :: us' ∧ RelV (.ref a) u ∧ Vals [V.ref b] us' := by
    cases r1 with
    | cons r rr => exact ⟨_, _, rfl, r, rr⟩
  obtain ⟨u2, rfl, ru2⟩ : ∃ u, us = [u] ∧ RelV (.ref b) u := by
    cases r2 with
    | cons r rr =>
      cases rr
      exact ⟨_, rfl, r⟩
  obtain rfl : u1 = Value.ref a := ru1
  obtain rfl : u2 = Value.ref b := ru2
  obtain ⟨is1, v1, p1, _⟩ := I1.list ha1
  obtain ⟨is2, v2, p2', _⟩ := I1.list hb1
  have e1 : is1.length = xs.length := v1.length.symm
  have e2' : is2.length = ys.length := v2.length.symm
  refine call_zip_2 p1.isList p2'.isList fun h' hz hTI hTO t1 t2 hsz hk => args_nil ?_
  have D := PySem.W.ktu_apart s1.heap.objs.size a b p1.lt p2'.lt
  have st : Zst h' (s1.heap.objs.size + 4) (s1.heap.objs.size + 2) (s1.heap.objs.size + 3) s1.heap.objs.size (s1.heap.objs.size + 1) a b is1.toArray is2.toArray 0 [] :=
    ⟨.inl ⟨hz, rfl⟩, hTI, ⟨_, _, hTO⟩, ⟨t1, t2⟩, p1.isList.at fun o e => hk _ o e, p2'.isList.at fun o e => hk _ o e⟩
  have hh : X.A.handled = none := I1.ok.hd hc
  refine zip_tuple (s := { s1 with heap := h' }) hh D (by simp only [List.size_toArray]; omega) (by simp only [List.size_toArray]; omega) st fun g Us kp lU mU gU => ?_
  have lU' : Us.length = xs.length := by
    rw [lU, List.size_toArray]
    omega
  have old : ∀ b' o, s1.heap.get? b' = some o → g.get? b' = some o := fun b' o e => by
    have l := Heap.lt_size e
    refine kp b' o (fun m => ?_) (hk b' o e)
    simp only [List.mem_cons, List.not_mem_nil, or_false] at m
    have l' : b' < s1.heap.objs.size := l
    rcases m with m | m | m | m <;> (rw [m] at l'; first | exact absurd l' (Nat.lt_irrefl _) | exact absurd l' (Nat.not_lt.mpr (Nat.le_add_right _ _)))
  have big : ∀ T ∈ Us, s1.heap.objs.size ≤ T := fun T hT => by
    have := mU T hT
    have h5 : h'.objs.size ≤ T := this
    rw [hsz] at h5
    exact Nat.le_trans (Nat.le_add_right _ _) h5
  have gsz : s1.heap.objs.size ≤ g.objs.size := by
    have := Heap.lt_size (kp _ _ (fun m => by
      simp only [List.mem_cons, List.not_mem_nil, or_false] at m
      rcases m with m | m | m | m
      · exact D.TIz m
      · exact D.TITO m
      · exact D.TIi1 m
      · exact D.TIi2 m) hTI)
    exact Nat.le_trans (Nat.le_add_right _ _) (Nat.le_of_lt this)
  have idx : ∀ T ∈ Us, ∃ (j : Nat) (x y : V) (u v : Value), Us[j]? = some T ∧ xs[j]? = some x ∧ ys[j]? = some y ∧ RelV x u ∧ RelV y v ∧ IsPair g T u v := fun T hT => by
    obtain ⟨j, hj, e⟩ := List.getElem_of_mem hT
    have ej : Us[j]? = some T := by rw [List.getElem?_eq_getElem hj, e]
    obtain ⟨_, u, v, eu, ev, pr⟩ := gU j T ej
    have eu' : is1[j]? = some u := by simpa using eu
    have ev' : is2[j]? = some v := by simpa using ev
    have jx : j < xs.length := by
      have := (List.getElem?_eq_some_iff.mp eu').1
      omega
    have jy : j < ys.length := by omega
    obtain ⟨u', ru, hu⟩ := v1.get (List.getElem?_eq_getElem jx)
    obtain ⟨v', rv, hv⟩ := v2.get (List.getElem?_eq_getElem jy)
    rw [eu'] at ru
    rw [ev'] at rv
    cases ru
    cases rv
    exact ⟨j, xs[j], ys[j], u, v, ej, List.getElem?_eq_getElem jx, List.getElem?_eq_getElem jy, hu, hv, pr⟩
  let H2 : Hp := fun c => if c = g.objs.size then some (.tup (Us.map V.ref)) else if h : c ∈ Us then some (.tup [(idx c h).choose_spec.choose, (idx c h).choose_spec.choose_spec.choose]) else H1 c
  have nUg : ∀ T ∈ Us, T ≠ g.objs.size := fun T hT => by
    obtain ⟨_, _, _, _, _, _, _, _, _, _, pr⟩ := idx T hT
    exact Nat.ne_of_lt (Heap.lt_size pr)
  have atq : H2 g.objs.size = some (.tup (Us.map V.ref)) := if_pos rfl
  have atT : ∀ (j : Nat) (T : Addr), Us[j]? = some T → ∃ x y, xs[j]? = some x ∧ ys[j]? = some y ∧ H2 T = some (.tup [x, y]) := fun j T ej => by
    have hT := List.mem_of_getElem? ej
    obtain ⟨_, u, v, eu, ev, pr⟩ := gU j T ej
    have eu' : is1[j]? = some u := by simpa using eu
    have ev' : is2[j]? = some v := by simpa using ev
    have jx : j < xs.length := by
      have := (List.getElem?_eq_some_iff.mp eu').1
      omega
    have jy : j < ys.length := by omega
    obtain ⟨u', ru, hu⟩ := v1.get (List.getElem?_eq_getElem jx)
    obtain ⟨v', rv, hv⟩ := v2.get (List.getElem?_eq_getElem jy)
    rw [eu'] at ru
    rw [ev'] at rv
    cases ru
    cases rv
    refine ⟨xs[j], ys[j], List.getElem?_eq_getElem jx, List.getElem?_eq_getElem jy, ?_⟩
    have e2 : H2 T = some (.tup [(idx T hT).choose_spec.choose, (idx T hT).choose_spec.choose_spec.choose]) := (if_neg (nUg T hT)).trans (dif_pos hT)
    obtain ⟨u2, v2', _, _, _, hu2, hv2, pr2⟩ := (idx T hT).choose_spec.choose_spec.choose_spec
    rw [e2]
    have ed := congrArg Obj.data (Option.some.inj (pr.symm.trans pr2))
    injection ed with ea _
    have el := congrArg Array.toList ea
    have el' : [u, v] = [u2, v2'] := el
    injection el' with eu2 el2
    injection el2 with ev2 _
    subst eu2
    subst ev2
    rw [RelV.inj hu hu2, RelV.inj hv hv2]
  have sam : ∀ c u, H1 c = some u → H2 c = some u := fun c u e => by
    have l : c < s1.heap.objs.size := (I1.hok c u e).lt
    have n1 : c ≠ g.objs.size := Nat.ne_of_lt (Nat.lt_of_lt_of_le l gsz)
    have n2 : c ∉ Us := fun m => absurd (Nat.lt_of_lt_of_le l (big c m)) (Nat.lt_irrefl _)
    exact (if_neg n1).trans ((dif_neg n2).trans e)
  refine ⟨.ref g.objs.size, H2, ?_, rfl, q H2 _ Us sam (I1.hok.fresh gsz) atq lU' atT⟩
  show Inv X pins σ H2 { s1 with heap := g.push { cls := .type "tuple", data := .seq (Us.map Value.ref).toArray }, toks := s1.toks }
  refine inv_laid (t' := s1.toks) I1 (fun c o e => Heap.get?_push_of_some _ (old c o e)) sam fun c u e => ?_
  by_cases c1 : c = g.objs.size
  · subst c1
    rw [atq] at e
    cases e
    refine .inr ⟨gsz, ?_, Us.map Value.ref, vals_refs Us, IsTup.new _ _⟩
    rw [List.length_map, lU']
    exact Nat.le_of_lt (small1000 h1000)
  · by_cases c2 : c ∈ Us
    · obtain ⟨j, hj, ec⟩ := List.getElem_of_mem c2
      have ej : Us[j]? = some c := by rw [List.getElem?_eq_getElem hj, ec]
      obtain ⟨x, y, ex, ey, e2⟩ := atT j c ej
      rw [e2] at e
      cases e
      obtain ⟨_, u, v, eu, ev, pr⟩ := gU j c ej
      have eu' : is1[j]? = some u := by simpa using eu
      have ev' : is2[j]? = some v := by simpa using ev
      obtain ⟨u', ru, hu⟩ := v1.get ex
      obtain ⟨v', rv, hv⟩ := v2.get ey
      rw [eu'] at ru
      rw [ev'] at rv
      cases ru
      cases rv
      refine .inr ⟨big c c2, (show 2 ≤ sizeLine by decide), [u, v], .cons hu (.cons hv .nil), ?_⟩
      exact ⟨_, Heap.get?_push_of_some _ pr, rfl, _, rfl⟩
    · exact .inl (((if_neg c1).trans (dif_neg c2)).symm.trans e)
/-- a value whose object is locked from here on -/
def tFrz (t : TE) : TE := fun σ H Q => t σ H fun v H1 => ∃ d u, v = .ref d ∧ H1 d = some u ∧ Mut (some u) ∧ ∀ od, Q v (upd H1 d (.frz od u))
theorem pe_frz {e : Expr} {t : TE} (h : PE X e t) : PE X e (tFrz t) := by
  refine ⟨fun pins s σ H Q I q => thn (h.run pins s σ H _ I q) fun u s1 h1 => ?_⟩
  obtain ⟨x, H1, I1, rx, d, o, rfl, ed, mu, q⟩ := h1
  obtain ⟨od, I2⟩ := I1.lock ed mu
  exact ⟨_, _, I2, rx, q od⟩
end
end NB

set_option Elab.async false
set_option linter.all false
set_option maxRecDepth 100000
namespace K18
open PySem PySem.Spec PyProof.Rows L2 NB

/-! ### what chains lead to: dicts of sides -/
def KS (s : Sd) : List Key := [.inl (s.1 : Int), .inr (word s.2.1), .inl s.2.2]
theorem word_inj {a b : Bool} (h : word a = word b) : a = b := by
  revert h
  cases a <;> cases b <;> decide +kernel
theorem KS_inj {s t : Sd} (h : KS s = KS t) : s = t := by
  obtain ⟨i, b, p⟩ := s
  obtain ⟨j, c, q⟩ := t
  unfold KS at h
  injection h with h1 h2
  injection h2 with h2 h3
  injection h3 with h3 _
  injection h1 with h1
  injection h2 with h2
  injection h3 with h3
  have h1' : (i : Int) = j := h1
  have e1 : i = j := by omega
  have e2 : b = c := word_inj h2
  have e3 : p = q := h3
  rw [e1, e2, e3]
/-- tuples stay -/
def KT (H H' : Hp) : Prop := ∀ b xs, H b = some (.tup xs) → H' b = some (.tup xs)
theorem KT.of {H H' : Hp} (k : Keep H H') : KT H H' := fun b xs e => k.tup e
theorem KT.same {H H' : Hp} (s : Same H H') : KT H H' := fun b xs e => s _ _ e
theorem KT.trans {H H1 H2 : Hp} (a : KT H H1) (b : KT H1 H2) : KT H H2 := fun c xs e => b c xs (a c xs e)
theorem KT.refl (H : Hp) : KT H H := fun _ _ e => e
theorem KT.upd {H : Hp} {d : Addr} {o o' : HO} (e : H d = some o) (n : ∀ xs, o ≠ .tup xs) : KT H (upd H d o') := fun b xs q => by
  rw [upd_ne (fun z => by
    rw [z, e] at q
    cases q
    exact n _ rfl)]
  exact q
theorem SideAt.kt {H H' : Hp} {p : Addr} {s : Sd} (h : SideAt H p s) (k : KT H H') : SideAt H' p s := k _ _ h
theorem OthAt.kt {H H' : Hp} {v : V} {o : Option Sd} (h : OthAt H v o) (k : KT H H') : OthAt H' v o := by
  cases o with
  | none => exact h
  | some s =>
    obtain ⟨g, e, hs⟩ := h
    exact ⟨g, e, hs.kt k⟩
theorem SdsAt.kt {H H' : Hp} {L : List (Addr × Sd)} (h : SdsAt H L) (k : KT H H') : SdsAt H' L := fun z hz => (h z hz).kt k
/-- what a dict of sides holds: each with the one ahead of it -/
def AhK (H : Hp) (kvs : List (List Key × V)) (E : List (Sd × Option Sd)) : Prop := Paired (fun kv e => kv.1 = KS e.1 ∧ OthAt H kv.2 e.2) kvs E
theorem AhK.kt {H H' : Hp} {kvs : List (List Key × V)} {E : List (Sd × Option Sd)} (h : AhK H kvs E) (k : KT H H') : AhK H' kvs E := by
  unfold AhK at *
  induction h with
  | nil => exact .nil
  | cons a _ ih => exact .cons ⟨a.1, a.2.kt k⟩ ih
theorem AhK.len {H : Hp} {kvs : List (List Key × V)} {E : List (Sd × Option Sd)} (h : AhK H kvs E) : kvs.length = E.length := Paired.length h
theorem AhK.get {H : Hp} {kvs : List (List Key × V)} {E : List (Sd × Option Sd)} (h : AhK H kvs E) {i : Nat} {kv : List Key × V} (e : kvs[i]? = some kv) : ∃ x, E[i]? = some x ∧ kv.1 = KS x.1 ∧ OthAt H kv.2 x.2 := by
  unfold AhK at h
  induction h generalizing i with
  | nil => simp at e
  | cons a _ ih =>
    cases i with
    | zero => cases e; exact ⟨_, rfl, a⟩
    | succ i => exact ih e
theorem AhK.no {H : Hp} {kvs : List (List Key × V)} {E : List (Sd × Option Sd)} (h : AhK H kvs E) {s : Sd} (n : s ∉ E.map (·.1)) : valV kvs (KS s) = none := by
  unfold AhK at h
  unfold valV
  induction h with
  | nil => rfl
  | @cons kv x l1 l2 a _ ih =>
    rw [List.map_cons, List.mem_cons, not_or] at n
    rw [List.find?_cons, decide_eq_false (fun z => n.1 (KS_inj (a.1.symm.trans z)).symm)]
    exact ih n.2
theorem AhK.at' {H : Hp} {kvs : List (List Key × V)} {E : List (Sd × Option Sd)} (h : AhK H kvs E) (nd : (E.map (·.1)).Nodup) {x : Sd × Option Sd} (m : x ∈ E) : ∃ v, valV kvs (KS x.1) = some v ∧ OthAt H v x.2 := by
  unfold AhK at h
  unfold valV
  induction h with
  | nil => exact absurd m List.not_mem_nil
  | @cons kv y l1 l2 a _ ih =>
    rw [List.map_cons, List.nodup_cons] at nd
    rcases List.mem_cons.mp m with rfl | m
    · rw [List.find?_cons, decide_eq_true a.1]
      exact ⟨_, rfl, a.2⟩
    · have ne : ¬ kv.1 = KS x.1 := fun z => nd.1 (by
        have := KS_inj (a.1.symm.trans z)
        rw [this]
        exact List.mem_map.mpr ⟨x, m, rfl⟩)
      rw [List.find?_cons, decide_eq_false ne]
      exact ih nd.2 m
theorem AhK.isSome {H : Hp} {kvs : List (List Key × V)} {E : List (Sd × Option Sd)} (h : AhK H kvs E) (nd : (E.map (·.1)).Nodup) (s : Sd) : (valV kvs (KS s)).isSome = decide (s ∈ E.map (·.1)) := by
  by_cases c : s ∈ E.map (·.1)
  · obtain ⟨x, hx, rfl⟩ := List.mem_map.mp c
    obtain ⟨v, e, _⟩ := h.at' nd hx
    rw [e, decide_eq_true c]
    rfl
  · rw [h.no c, decide_eq_false c]
    rfl
/-- a dict of sides, all with one value -/
def insS (L : List Sd) (s : Sd) : List Sd := if s ∈ L then L else L ++ [s]
theorem ins_mem {L : List Sd} {s t : Sd} : t ∈ insS L s ↔ t ∈ L ∨ t = s := by
  unfold insS
  split
  · rename_i c
    exact ⟨.inl, fun h => h.elim id fun e => e ▸ c⟩
  · rw [List.mem_append, List.mem_singleton]
theorem ins_nd {L : List Sd} {s : Sd} (h : L.Nodup) : (insS L s).Nodup := by
  unfold insS
  split
  · exact h
  · rename_i c
    rw [List.nodup_append]
    refine ⟨h, by simp, fun a ha b hb e => c ?_⟩
    rw [List.mem_singleton.mp hb] at e
    exact e ▸ ha
theorem ins_len (L : List Sd) (s : Sd) : (insS L s).length ≤ L.length + 1 := by
  unfold insS
  split
  · omega
  · rw [List.length_append]
    exact Nat.le_refl _
theorem put_const (L : List Sd) (s : Sd) (v : V) : putK (L.map fun t => (KS t, v)) (KS s) v = (insS L s).map fun t => (KS t, v) := by
  unfold putK insS
  have e : ((L.map fun t => (KS t, v)).any fun kv => decide (kv.1 = KS s)) = true ↔ s ∈ L := by
    rw [List.any_map, List.any_eq_true]
    constructor
    · rintro ⟨t, ht, h⟩
      exact KS_inj (of_decide_eq_true h) ▸ ht
    · exact fun h => ⟨s, h, decide_eq_true rfl⟩
  by_cases c : s ∈ L
  · rw [if_pos (e.mpr c), if_pos c, List.map_map]
    refine List.map_congr_left fun t _ => ?_
    show (if KS t = KS s then (KS t, v) else (KS t, v)) = (KS t, v)
    split <;> rfl
  · rw [if_neg (fun h => c (e.mp h)), if_neg c, List.map_append]
    rfl
/-- how a dict of what is reached was grown -/
structure Ahd (tops : List Int) (rs : List Rl) (S : List Sd) (E : List (Sd × Option Sd)) : Prop where
  nd : (E.map (·.1)).Nodup
  st : ∀ s ∈ S, s ∈ E.map (·.1)
  n0 : ∀ (i : Nat) (s : Sd), E[i]? = some (s, none) → s ∈ S
  n1 : ∀ (i : Nat) (s a : Sd), E[i]? = some (s, some a) → s ∈ ledL tops rs a ∧ a ∈ (E.take i).map (·.1)
def CloE (tops : List Int) (rs : List Rl) (E : List (Sd × Option Sd)) (n : Nat) : Prop := ∀ x ∈ E.take n, ∀ b ∈ ledL tops rs x.1, b ∈ E.map (·.1)
theorem Ahd.rea {tops : List Int} {rs : List Rl} {S : List Sd} {E : List (Sd × Option Sd)} (A : Ahd tops rs S E) : ∀ (n i : Nat), i < n → ∀ x, E[i]? = some x → Rea tops rs (· ∈ S) x.1 := by
  intro n
  induction n with
  | zero => exact fun i h => absurd h (Nat.not_lt_zero _)
  | succ n ih =>
    intro i hi x ex
    obtain ⟨s, o⟩ := x
    cases o with
    | none => exact .base (A.n0 i s ex)
    | some a =>
      obtain ⟨h1, h2⟩ := A.n1 i s a ex
      obtain ⟨y, hy, ey⟩ := List.mem_map.mp h2
      obtain ⟨j, hj, e⟩ := List.getElem_of_mem hy
      have hj' : j < i := by
        rw [List.length_take] at hj
        omega
      have eE : E[j]? = some y := by
        have : (E.take i)[j]? = some y := by rw [List.getElem?_eq_getElem hj, e]
        rwa [List.getElem?_take_of_lt hj'] at this
      have := ih j (by omega) y eE
      rw [ey] at this
      exact .step this h1
theorem Ahd.mem {tops : List Int} {rs : List Rl} {S : List Sd} {E : List (Sd × Option Sd)} (A : Ahd tops rs S E) (c : CloE tops rs E E.length) {s : Sd} : s ∈ E.map (·.1) ↔ Rea tops rs (· ∈ S) s := by
  constructor
  · intro h
    obtain ⟨x, hx, rfl⟩ := List.mem_map.mp h
    obtain ⟨i, hi, e⟩ := List.getElem_of_mem hx
    exact A.rea (i + 1) i (by omega) x (by rw [List.getElem?_eq_getElem hi, e])
  · intro h
    induction h with
    | base h => exact A.st _ h
    | step _ l ih =>
      obtain ⟨x, hx, rfl⟩ := List.mem_map.mp ih
      exact c x (by rw [List.take_length]; exact hx) _ l
theorem Ahd.grow {tops : List Int} {rs : List Rl} {S : List Sd} {E : List (Sd × Option Sd)} (A : Ahd tops rs S E) {s a : Sd} (n : s ∉ E.map (·.1)) (l : s ∈ ledL tops rs a) (m : a ∈ E.map (·.1)) : Ahd tops rs S (E ++ [(s, some a)]) := by
  refine ⟨?_, fun t ht => ?_, fun i t e => ?_, fun i t b e => ?_⟩
  · rw [List.map_append, List.nodup_append]
    refine ⟨A.nd, by simp, fun x hx y hy e => n ?_⟩
    rw [List.map_cons, List.map_nil, List.mem_singleton] at hy
    have es : x = s := e.trans hy
    exact es ▸ hx
  · rw [List.map_append]
    exact List.mem_append_left _ (A.st t ht)
  · rcases Nat.lt_or_ge i E.length with c | c
    · rw [List.getElem?_append_left c] at e
      exact A.n0 i t e
    · rw [List.getElem?_append_right c] at e
      cases h : i - E.length with
      | zero => rw [h] at e; cases e
      | succ k => rw [h] at e; simp at e
  · rcases Nat.lt_or_ge i E.length with c | c
    · rw [List.getElem?_append_left c] at e
      rw [List.take_append_of_le_length (by omega)]
      exact A.n1 i t b e
    · rw [List.getElem?_append_right c] at e
      cases h : i - E.length with
      | zero =>
        rw [h] at e
        cases e
        have : i = E.length := by omega
        rw [this, List.take_left]
        exact ⟨l, m⟩
      | succ k => rw [h] at e; simp at e
/-- all sides of rules -/
def ruleSds (rs : List Rl) : List Sd := rs.flatMap fun q => [q.1, q.2]
theorem ruleSds_mem {rs : List Rl} {s : Sd} : s ∈ ruleSds rs ↔ RuleSd rs s := by
  unfold ruleSds RuleSd
  rw [List.mem_flatMap]
  constructor
  · rintro ⟨q, hq, h⟩
    simp only [List.mem_cons, List.not_mem_nil, or_false] at h
    exact ⟨q, hq, h⟩
  · rintro ⟨q, hq, h⟩
    exact ⟨q, hq, by simpa using h⟩
theorem ruleSds_len (rs : List Rl) : (ruleSds rs).length = 2 * rs.length := by
  unfold ruleSds
  induction rs with
  | nil => rfl
  | cons q rs ih =>
    rw [List.flatMap_cons, List.length_append, ih]
    simp only [List.length_cons, List.length_nil]
    omega
theorem led_rule {tops : List Int} {rs : List Rl} {a b : Sd} (h : b ∈ ledL tops rs a) : b ∈ ruleSds rs := by
  obtain ⟨q, hq, ⟨_, rfl⟩ | ⟨_, rfl⟩⟩ := led_iff.mp h
  · exact ruleSds_mem.mpr ⟨q, hq, .inr rfl⟩
  · exact ruleSds_mem.mpr ⟨q, hq, .inl rfl⟩
theorem Ahd.few {tops : List Int} {rs : List Rl} {S : List Sd} {E : List (Sd × Option Sd)} (A : Ahd tops rs S E) : E.length ≤ S.length + 2 * rs.length := by
  have h := nodup_len (E.map (·.1)) (S ++ ruleSds rs) A.nd fun s hs => by
    obtain ⟨x, hx, rfl⟩ := List.mem_map.mp hs
    obtain ⟨i, hi, e⟩ := List.getElem_of_mem hx
    obtain ⟨s, o⟩ := x
    have ex : E[i]? = some (s, o) := by rw [List.getElem?_eq_getElem hi, e]
    cases o with
    | none => exact List.mem_append_left _ (A.n0 i s ex)
    | some a => exact List.mem_append_right _ (led_rule (A.n1 i s a ex).1)
  rw [List.length_map, List.length_append, ruleSds_len] at h
  exact h
theorem keys_sds {H : Hp} {v : V} : ∀ {L : List Sd} {bs : List Addr}, IsKeys H (L.map fun t => (KS t, v)) bs → ∃ L0 : List (Addr × Sd), sdR L0 = bs.map V.ref ∧ L0.map (·.2) = L ∧ SdsAt H L0
  | [], bs, h => by
    cases h
    exact ⟨[], rfl, rfl, fun _ h => absurd h List.not_mem_nil⟩
  | s :: L, bs, h => by
    cases h with
    | cons a h =>
      obtain ⟨L0, e1, e2, e3⟩ := keys_sds h
      refine ⟨(_, s) :: L0, congrArg (V.ref _ :: ·) e1, by rw [List.map_cons, e2], fun z hz => ?_⟩
      rcases List.mem_cons.mp hz with rfl | hz
      · exact a
      · exact e3 z hz
theorem ahk_const {H : Hp} : ∀ (L : List Sd), AhK H (L.map fun t => (KS t, V.non)) (L.map fun t => (t, none))
  | [] => .nil
  | s :: L => .cons ⟨rfl, rfl⟩ (ahk_const L)
theorem ahd_const {tops : List Int} {rs : List Rl} {S L : List Sd} (nd : L.Nodup) (m : ∀ s, s ∈ L ↔ s ∈ S) : Ahd tops rs S (L.map fun t => (t, none)) := by
  have e : (L.map fun t => ((t, none) : Sd × Option Sd)).map (·.1) = L := by
    rw [List.map_map]
    exact List.map_id _
  refine ⟨by rw [e]; exact nd, fun s hs => by rw [e]; exact (m s).mpr hs, fun i s h => ?_, fun i s a h => ?_⟩
  · rw [List.getElem?_map] at h
    cases hl : L[i]? with
    | none => rw [hl] at h; cases h
    | some t =>
      rw [hl] at h
      cases h
      exact (m s).mp (List.mem_of_getElem? hl)
  · rw [List.getElem?_map] at h
    cases hl : L[i]? with
    | none => rw [hl] at h; cases h
    | some t => rw [hl] at h; cases h
section
variable {P : Program} {w : World} {K : PySem.W.Frag} {mg : Str → Option Value} {base : Heap}
def spRea (K : PySem.W.Frag) (C : Addr) : Sp := fun vs H Q _ => ∃ (x g : Addr) (tops : List Int) (rs : List Rl) (Ls : List (Addr × Sd)), vs = [.ref x, .ref g] ∧ PlanAt C H x tops rs ∧ SqT K H g (sdR Ls) ∧ SdsAt H Ls ∧ (∀ z ∈ Ls, SideOk tops z.2) ∧ (∀ q ∈ rs, RuleOk tops q) ∧ rs.length ≤ 40 ∧ Ls.length ≤ 200 ∧
  ∀ H' d od kvs E, Same H H' → H d = none → H' d = some (.frz od (.dT kvs)) → AhK H' kvs E → Ahd tops rs (Ls.map (·.2)) E → CloE tops rs E E.length → E.length ≤ 280 → Q (.ref d) H'
abbrev a_reached : Stmt := topS 24
abbrev n_reached : List Str := ["plan", "starts", "side", "ahead", "row", "at", "here"]
theorem sc_reached : FnScope n_reached ["plan", "starts"] (defScope a_reached) := ⟨rfl, rfl, rfl, by decide +kernel, rfl, by decide +kernel, by decide +kernel⟩
set_option maxHeartbeats 8000000 in
theorem ok_reached {f fLr : Addr} {fd fdLr : FuncData} {k : Nat} {C : Addr} (F : Fun K "reached" "reached" a_reached f fd) (Lr : Kn P w K mg base 3 "led_by_rules" ["plan", "side"] (spLed C) fLr fdLr)  (m_len : mg "len" = none) (m_list : mg "list" = none) : FnOk P w K mg base CX0 (k + 4) f fd ["plan", "starts"] (spRea K C) := by
  refine F.ok sc_reached (fun vs H Q E h => ?_) (fun cdv A outer s H vs Q E hr h => ?_)
  · obtain ⟨x, g, tops, rs, Ls, rfl, _⟩ := h
    rfl
  · obtain ⟨x, g, tops, rs, Ls, rfl, hp, eg, hL, okS, rok, l40, l100, q⟩ := h
    refine ⟨_, (pss_cons (ps_dcT (i := 3) (own := [("side", 2)]) (g := (gName 2)) (tk := (tVar 2)) (tv := (tC .non)) (Room.u1 hr) rfl sc_reached.nd (pi_tup (pv 1)) (blkOk_by (N := n_reached) (sc := defScope a_reached) (by decide +kernel))
          (fun _ _ _ _ _ => (pg_name (i := 2) sc_reached.nd rfl (.inl rfl) (hf := .inr rfl))) (fun _ _ _ _ _ => (pv 2)) (fun _ _ _ _ _ => pe_non) rfl rfl (sw_dict rfl rfl rfl (by decide +kernel)))
      (pss_cons (ps_set (i := 4) sc_reached.nd rfl (.inl rfl) (pe_callTy (call_list_dT rfl) (by rfl) m_list (by decide +kernel) (pa_cons (pv 3) pa_nil)))
      (pss_cons (ps_set (i := 5) sc_reached.nd rfl (.inl rfl) pe_int)
      (pss_cons (ps_while PassesOwn.never (pt_cmpR op_lt (pv 5) (pe_callB call_len_seq (by rfl) m_len (by decide +kernel) (pa_cons (pv 4) pa_nil)) (nomark _))
        (pss_cons (ps_set (i := 6) sc_reached.nd rfl (.inl rfl) (pe_ix ix_list (pv 4) (pv 5) (fun _ _ => rfl)))
      (pss_cons (ps_for PassesOwn.never rfl (pi_list (pe_kn Lr hr (by omega) (pa_cons (pv 0) (pa_cons (pv 6) pa_nil)))) (pg_name (i := 2) sc_reached.nd rfl (.inl rfl))
        (pss_one (ps_if (pt_cmp (pc_dnotin (Room.u1 hr) (pv 2) (pv 3))) (pss_cons (ps_dput (Room.u1 hr) (pv 3) (pv 2) (pv 6) rfl)
      (pss_one (ps_expr (pe_bm PySem.F.plainAttrs_list PySem.F.slot_list_append PySem.F.type_list_append mt_append (pv 4) (pa_cons (pv 2) pa_nil))))) pss_nil)))
      (pss_one (ps_aug (i := 5) sc_reached.nd rfl (.inl rfl) pe_int ip_add)))))
      (pss_one (ps_ret (pe_frz (pv 3)))))))), ?_⟩
    -- the dict of the starts
    refine ⟨.ref g, rfl, g, rfl, ⟨_, eg⟩, fun D nD => stp_it (walk_tup (xs := sdR Ls)) (fun i H' => Same H H' ∧ ∃ L : List Sd, H' D = some (.dT (L.map fun t => (KS t, V.non))) ∧ L.Nodup ∧ (∀ s, s ∈ L ↔ s ∈ (Ls.take i).map (·.2)) ∧ L.length ≤ i) ⟨same_new nD, [], upd_same, .nil, (fun s => by simp), Nat.le_refl _⟩ (fun i H' _ y => sameT y.1 eg) (fun i v H1 H2 hi y z => ?_) (fun H1 y => ?_)⟩
    · obtain ⟨s1, L, eD, nd, mL, lL⟩ := y
      obtain ⟨rfl, gv⟩ := z
      obtain ⟨zz, ez, rfl⟩ := mapGet gv
      have hz := List.mem_of_getElem? ez
      refine ⟨wipe_one, .ref zz.1, rfl, _, KS zz.2, zz.1, rfl, (hL zz hz).keep (.same s1), eD, by rw [List.length_map]; exact small1000 (by rw [List.length_map] at hi; omega), same_over s1 nD, insS L zz.2, by rw [upd_same, put_const], ins_nd nd, fun s => ?_, Nat.le_trans (ins_len L zz.2) (by omega)⟩
      rw [ins_mem, mL s, List.take_add_one, ez, List.map_append, List.mem_append]
      simp
    obtain ⟨s1, L, eD, nd, mL, lL⟩ := y
    rw [List.length_map, List.take_length] at mL
    refine ⟨.ref D, rfl, D, _, rfl, .inl eD, fun l bs nl ik => ?_⟩
    obtain ⟨L0, e0, m0, h0⟩ := keys_sds ik
    have sl := same_new (o := HO.lst (bs.map V.ref)) nl
    have eD1 := sl _ _ eD
    have nlH : H l = none := s1.free nl
    have s01 := s1.trans sl
    have el1 : (upd H1 l (.lst (bs.map V.ref))) l = some (.lst (sdR L0)) := by rw [upd_same, e0]
    have h01 := h0.keep (.same sl)
    have nlD : l ≠ D := fun e => by
      rw [e, eD] at nl
      cases nl
    generalize upd H1 l (.lst (bs.map V.ref)) = H2 at eD1 s01 el1 h01 ⊢
    refine ⟨fun m σ H' => ∃ (n : Nat) (u2 u6 : Option V) (kvs : List (List Key × V)) (E : List (Sd × Option Sd)) (L : List (Addr × Sd)), σ = [some (.ref x), some (.ref g), u2, some (.ref D), some (.ref l), some (.int (n : Int)), u6] ∧ m = 1000 - n ∧ n ≤ E.length ∧ Same H H' ∧ H' D = some (.dT kvs) ∧ AhK H' kvs E ∧ H' l = some (.lst (sdR L)) ∧ SdsAt H' L ∧ L.map (·.2) = E.map (·.1) ∧ Ahd tops rs (Ls.map (·.2)) E ∧ CloE tops rs E n,
      ⟨1000, 0, _, _, _, L.map (fun t => (t, none)), L0, rfl, rfl, Nat.zero_le _, s01, eD1, ahk_const L, el1, h01, ?_, ahd_const nd mL, fun x hx => absurd hx (by simp)⟩, fun m σ H3 W => ?_⟩
    · rw [m0, List.map_map]
      exact (List.map_id _).symm
    obtain ⟨n, u2, u6, kvs, E, L, rfl, rfl, nE, s3, eD3, aK, el3, hL3, eL3, A, cl⟩ := W
    have lE : E.length ≤ 280 := by
      have := A.few
      rw [List.length_map] at this
      omega
    have lLE : L.length = E.length := by
      have := congrArg List.length eL3
      rwa [List.length_map, List.length_map] at this
    refine ⟨_, rfl, .ref l, rfl, l, _, rfl, .inl (.inl (.inl el3)), _, _, rfl, rfl, _, rfl, ite2 (fun c => ?_) (fun c => ?_)⟩
    · have c' : n < L.length := by
        have := of_decide_eq_true c
        rw [List.length_map] at this
        omega
      have ez : L[n]? = some L[n] := List.getElem?_eq_getElem c'
      have hz := hL3 _ (List.getElem_mem c')
      have en : ∃ o, E[n]? = some (L[n].2, o) := by
        have h1 : (L.map (·.2))[n]? = some L[n].2 := by rw [List.getElem?_map, ez]; rfl
        rw [eL3] at h1
        obtain ⟨y, ey, e⟩ := mapGet h1
        exact ⟨y.2, by rw [ey, e]⟩
      obtain ⟨o, eo⟩ := en
      have okz : SideOk tops L[n].2 := (A.rea (n + 1) n (by omega) _ eo).ok rok fun s hs => by
        obtain ⟨z, hz, rfl⟩ := List.mem_map.mp hs
        exact okS z hz
      have mz : L[n].2 ∈ E.map (·.1) := List.mem_map.mpr ⟨_, List.mem_of_getElem? eo, rfl⟩
      refine ⟨fun σ' H' => ∃ (n' : Nat) (u2 u6 : Option V) (kvs : List (List Key × V)) (E : List (Sd × Option Sd)) (L : List (Addr × Sd)), σ' = [some (.ref x), some (.ref g), u2, some (.ref D), some (.ref l), some (.int (n' : Int)), u6] ∧ n' = n + 1 ∧ n' ≤ E.length ∧ Same H H' ∧ H' D = some (.dT kvs) ∧ AhK H' kvs E ∧ H' l = some (.lst (sdR L)) ∧ SdsAt H' L ∧ L.map (·.2) = E.map (·.1) ∧ Ahd tops rs (Ls.map (·.2)) E ∧ CloE tops rs E n', fun σ' H' w' => ?_, ?_⟩
      · obtain ⟨n', u2, u6, kvs, E', L', e1, e2, rest⟩ := w'
        exact ⟨1000 - n', by omega, n', u2, u6, kvs, E', L', e1, rfl, rest⟩
      refine ⟨.ref l, rfl, _, rfl, l, _, n, _, rfl, rfl, .inl (.inl el3), atI_nat (by rw [List.getElem?_map, ez]; rfl), ?_⟩
      refine ⟨.ref x, rfl, .ref L[n].1, rfl, x, L[n].1, tops, rs, L[n].2, rfl, hp.keep (.same s3), hz, okz, rok, l40, fun H4 fl F s4 nfl efl hF eF => ⟨fl, rfl, ⟨_, .inl (.inl efl)⟩, ?_⟩⟩
      have nflH : H fl = none := s3.free nfl
      have nll : fl ≠ l := fun e => by
        rw [e, el3] at nfl
        cases nfl
      have nlf : fl ≠ D := fun e => by
        rw [e, eD3] at nfl
        cases nfl
      have hzn : SideAt H4 L[n].1 L[n].2 := hz.keep (.same s4)
      refine for_it (walk_list (xs := sdR F)) (fun j σ H' => ∃ (u2 : Option V) (kvs : List (List Key × V)) (E' : List (Sd × Option Sd)) (L' : List (Addr × Sd)), σ = [some (.ref x), some (.ref g), u2, some (.ref D), some (.ref l), some (.int (n : Int)), some (.ref L[n].1)] ∧ Same H H' ∧ KT H4 H' ∧ H' fl = some (.lst (sdR F)) ∧ H' D = some (.dT kvs) ∧ AhK H' kvs E' ∧ H' l = some (.lst (sdR L')) ∧ SdsAt H' L' ∧ L'.map (·.2) = E'.map (·.1) ∧ Ahd tops rs (Ls.map (·.2)) E' ∧ (∃ Ex, E' = E ++ Ex) ∧ ∀ b ∈ (F.take j).map (·.2), b ∈ E'.map (·.1))
        ⟨_, kvs, E, L, rfl, s3.trans s4, KT.refl _, efl, s4 _ _ eD3, aK.kt (KT.same s4), s4 _ _ el3, hL3.keep (.same s4), eL3, A, ⟨[], (List.append_nil _).symm⟩, (fun b h => absurd h (by simp))⟩ (fun j σ H' _ y => by
          obtain ⟨_, _, _, _, _, _, _, e, _⟩ := y
          exact .inl (.inl e)) (fun j v σ H5 H5' hj y z => ?_) (fun σ H5 y => ?_)
      · obtain ⟨u2', kvs', E', L', rfl, s5, k5, ef5, eD5, aK5, el5, hL5, eL5, A5, ⟨Ex, rfl⟩, in5⟩ := y
        obtain ⟨rfl, gv⟩ := z
        obtain ⟨fz, efz, rfl⟩ := mapGet gv
        have hfz := (hF fz (List.mem_of_getElem? efz)).kt k5
        have lE5 : (E ++ Ex).length ≤ 280 := by
          have := A5.few
          rw [List.length_map] at this
          omega
        have lL5 : L'.length ≤ 280 := by
          have := congrArg List.length eL5
          rw [List.length_map, List.length_map] at this
          omega
        have mF : fz.2 ∈ ledL tops rs L[n].2 := by
          rw [← eF]
          exact List.mem_map.mpr ⟨fz, List.mem_of_getElem? efz, rfl⟩
        have tkF : (F.take (j + 1)).map (·.2) = (F.take j).map (·.2) ++ [fz.2] := by
          rw [List.take_add_one, efz, List.map_append]
          rfl
        refine ⟨.ref fz.1, rfl, .ref D, rfl, D, _, rfl, DGet.t (k := KS fz.2) eD5 hfz, _, rfl, ?_⟩
        rw [aK5.isSome A5.nd]
        by_cases cin : fz.2 ∈ (E ++ Ex).map (·.1)
        · rw [decide_eq_true cin]
          refine iteF ⟨_, kvs', E ++ Ex, L', rfl, s5, k5, ef5, eD5, aK5, el5, hL5, eL5, A5, ⟨Ex, rfl⟩, fun b hb => ?_⟩
          rw [tkF] at hb
          rcases List.mem_append.mp hb with h | h
          · exact in5 b h
          · rw [List.mem_singleton.mp h]
            exact cin
        · rw [decide_eq_false cin]
          refine iteT ⟨.ref L[n].1, rfl, .ref D, rfl, .ref fz.1, rfl, D, _, rfl, DPut.t (k := KS fz.2) eD5 hfz (small1000 (by rw [aK5.len]; omega)), ?_⟩
          rw [putK_new _ (aK5.no cin)]
          have kD : KT H5' (upd H5' D (.dT (kvs' ++ [(KS fz.2, V.ref L[n].1)]))) := KT.upd eD5 (fun xs e => nomatch e)
          have el6 : (upd H5' D (.dT (kvs' ++ [(KS fz.2, V.ref L[n].1)]))) l = some (.lst (sdR L')) := by rw [upd_ne nlD]; exact el5
          have s6 : Same H (upd H5' D (.dT (kvs' ++ [(KS fz.2, V.ref L[n].1)]))) := same_over s5 nD
          have ef6 : (upd H5' D (.dT (kvs' ++ [(KS fz.2, V.ref L[n].1)]))) fl = some (.lst (sdR F)) := by rw [upd_ne nlf]; exact ef5
          have eD6 : (upd H5' D (.dT (kvs' ++ [(KS fz.2, V.ref L[n].1)]))) D = some (.dT (kvs' ++ [(KS fz.2, V.ref L[n].1)])) := upd_same
          generalize upd H5' D (.dT (kvs' ++ [(KS fz.2, V.ref L[n].1)])) = H6 at kD el6 s6 ef6 eD6 ⊢
          have k6 := k5.trans kD
          refine ⟨.ref l, rfl, .inl ⟨rfl, _, .inl (.inl el6)⟩, .ref fz.1, rfl, l, _, _, rfl, rfl, el6, by rw [List.length_map]; exact small1000 (by omega), ?_⟩
          have kl : KT H6 (upd H6 l (.lst (sdR L' ++ [V.ref fz.1]))) := KT.upd el6 (fun xs e => by cases e)
          have k7 := k6.trans kl
          refine ⟨_, kvs' ++ [(KS fz.2, V.ref L[n].1)], (E ++ Ex) ++ [(fz.2, some L[n].2)], L' ++ [fz], rfl, same_over s6 nlH, k7, by rw [upd_ne nll]; exact ef6, by rw [upd_ne (Ne.symm nlD)]; exact eD6, Paired.snoc (aK5.kt (kD.trans kl)) ⟨rfl, _, rfl, hzn.kt k7⟩, by rw [upd_same]; simp [sdR], (hL5.kt (kD.trans kl)).snoc (hfz.kt (kD.trans kl)), by rw [List.map_append, List.map_append, eL5]; rfl, A5.grow cin mF (by rw [List.map_append]; exact List.mem_append_left _ mz), ⟨Ex ++ [(fz.2, some L[n].2)], List.append_assoc ..⟩, fun b hb => ?_⟩
          rw [tkF] at hb
          rw [List.map_append]
          rcases List.mem_append.mp hb with h | h
          · exact List.mem_append_left _ (in5 b h)
          · rw [List.mem_singleton.mp h]
            exact List.mem_append_right _ (by simp)
      · obtain ⟨u2', kvs', E', L', rfl, s5, k5, ef5, eD5, aK5, el5, hL5, eL5, A5, ⟨Ex, rfl⟩, in5⟩ := y
        rw [List.length_map, List.take_length, eF] at in5
        refine ⟨_, rfl, _, _, rfl, rfl, n + 1, _, _, kvs', E ++ Ex, L', rfl, rfl, ?_, s5, eD5, aK5, el5, hL5, eL5, A5, fun y hy b hb => ?_⟩
        · rw [List.length_append]
          omega
        · rw [List.take_append_of_le_length (by omega), List.take_add_one, eo] at hy
          rcases List.mem_append.mp hy with h | h
          · rw [List.map_append]
            exact List.mem_append_left _ (cl y h b hb)
          · have ey : y = (L[n].2, o) := by simpa using h
            rw [ey] at hb
            exact in5 b hb
    · have c' : n = E.length := by
        have : ¬ ((n : Int) < ((sdR L).length : Int)) := fun z => c (decide_eq_true z)
        rw [List.length_map] at this
        omega
      subst c'
      refine ⟨.ref D, rfl, D, _, rfl, eD3, trivial, fun od => ?_⟩
      have kd : KT H3 (upd H3 D (.frz od (.dT kvs))) := KT.upd eD3 (fun xs e => by cases e)
      exact q _ D od kvs E (same_over s3 nD) nD upd_same (aK.kt kd) A cl lE
end
end K18

set_option Elab.async false
set_option linter.all false
set_option maxRecDepth 100000
namespace K18
open PySem PySem.Spec PyProof.Rows L2 NB

/-! ### chains -/
inductive RCh (tops : List Int) (rs : List Rl) (S : List Sd) : List Sd → Prop where
  | one {s : Sd} : s ∈ S → RCh tops rs S [s]
  | cons {a b : Sd} {t : List Sd} : RCh tops rs S (a :: t) → b ∈ ledL tops rs a → RCh tops rs S (b :: a :: t)
/-- a chain's later part, behind what is still to be found -/
def Lnk (tops : List Int) (rs : List Rl) (S : List Sd) (s : Sd) (R : List Sd) : Option Sd → Prop
  | none => RCh tops rs S R ∧ R.head? = some s
  | some c => (∀ t, RCh tops rs S (c :: t) → RCh tops rs S (R ++ c :: t)) ∧ (R ++ [c]).head? = some s
theorem Lnk.next0 {tops : List Int} {rs : List Rl} {S : List Sd} {s c : Sd} {R : List Sd} (h : Lnk tops rs S s R (some c)) (m : c ∈ S) : Lnk tops rs S s (R ++ [c]) none := ⟨h.1 [] (.one m), h.2⟩
theorem Lnk.next1 {tops : List Int} {rs : List Rl} {S : List Sd} {s c a : Sd} {R : List Sd} (h : Lnk tops rs S s R (some c)) (m : c ∈ ledL tops rs a) : Lnk tops rs S s (R ++ [c]) (some a) := by
  refine ⟨fun t ht => ?_, ?_⟩
  · rw [List.append_assoc]
    exact h.1 (a :: t) (.cons ht m)
  · rw [List.head?_append, h.2]
    rfl
def sdD (s : Sd) : PyData := .tuple [.int s.1, .str (word s.2.1), .int s.2.2]
theorem dp_sd {K : PySem.W.Frag} {H : Hp} {p : Addr} {s : Sd} (h : SideAt H p s) : Dp K H (.ref p) (sdD s) := .tup (.inl (.inl h)) (.cons (.int _) (.cons (.str _) (.cons (.int _) .nil)))
theorem shaped_sd (s : Sd) : SeqAt.shaped (sdD s) = true := by
  unfold SeqAt.shaped sdD
  have h : PyData.strOk (word s.2.1) = true := by
    cases s.2.1 <;> decide +kernel
  simp [PyData.canLay0, PyData.canLayAll0, PyData.depth, PyData.depthAll, h]
theorem eqv_sd (a b : Sd) : PyData.eqv (sdD a) (sdD b) = decide (a = b) := by
  unfold sdD
  simp only [PyData.eqv, PyData.eqvAll, Bool.and_true]
  rw [Bool.eq_iff_iff]
  simp only [Bool.and_eq_true, decide_eq_true_eq]
  constructor
  · rintro ⟨h1, h2, h3⟩
    obtain ⟨i, b', p⟩ := a
    obtain ⟨j, c, q⟩ := b
    simp only [beq_iff_eq] at h1 h2 h3
    have e1 : i = j := by omega
    have e2 : b' = c := word_inj h2
    rw [e1, e2, h3]
  · rintro rfl
    simp
section
variable {P : Program} {w : World} {K : PySem.W.Frag} {mg : Str → Option Value} {base : Heap}
def spCin : Sp := fun vs H Q _ => ∃ (d p : Addr) (od : Obj) (kvs : List (List Key × V)) (E : List (Sd × Option Sd)) (tops : List Int) (rs : List Rl) (S : List Sd) (s : Sd), vs = [.ref d, .ref p] ∧ H d = some (.frz od (.dT kvs)) ∧ AhK H kvs E ∧ Ahd tops rs S E ∧ E.length ≤ 280 ∧ SideAt H p s ∧ s ∈ E.map (·.1) ∧
  ∀ H' g L R, Same H H' → H g = none → H' g = some (.tup (sdR L)) → SdsAt H' L → L.map (·.2) = R.reverse → RCh tops rs S R → R.head? = some s → R.length ≤ 280 → Q (.ref g) H'
abbrev a_chain_in : Stmt := topS 25
abbrev n_chain_in : List Str := ["ahead", "side", "row"]
theorem sc_chain_in : FnScope n_chain_in ["ahead", "side"] (defScope a_chain_in) := ⟨rfl, rfl, rfl, by decide +kernel, rfl, by decide +kernel, by decide +kernel⟩
set_option maxHeartbeats 8000000 in
theorem ok_chain_in {f  : Addr} {fd  : FuncData} {k : Nat}  (F : Fun K "chain_in" "chain_in" a_chain_in f fd)   (m_tuple : mg "tuple" = none) : FnOk P w K mg base CX0 (k + 1) f fd ["ahead", "side"] spCin := by
  refine F.ok sc_chain_in (fun vs H Q E h => ?_) (fun cdv A outer s H vs Q E hr h => ?_)
  · obtain ⟨d, p, od, kvs, E, tops, rs, S, s', rfl, _⟩ := h
    rfl
  · obtain ⟨d, p, od, kvs, E, tops, rs, S, s', rfl, ed, aK, A, lE, hs, ms, q⟩ := h
    refine ⟨_, (pss_cons (ps_set (i := 2) sc_chain_in.nd rfl (.inl rfl) (pe_lst pa_nil))
      (pss_cons (ps_while PassesOwn.never (pt_cmpR op_notN (pv 1) pe_non (nomark _))
        (pss_cons (ps_expr (pe_bm PySem.F.plainAttrs_list PySem.F.slot_list_append PySem.F.type_list_append mt_append (pv 2) (pa_cons (pv 1) pa_nil)))
      (pss_one (ps_set (i := 1) sc_chain_in.nd rfl (.inl rfl) (pe_dget (Room.u1 hr) (pv 0) (pv 1) (fun _ _ => rfl))))))
      (pss_one (ps_ret (pe_callTy call_tuple_of (by rfl) m_tuple (by decide +kernel) (pa_cons (pe_revL (pv 2)) pa_nil)))))), ?_⟩
    refine ⟨Nat.zero_le _, fun l nl => ?_⟩
    have s0 : Same H (upd H l (.lst [])) := same_new nl
    obtain ⟨x0, hx0, ex0⟩ := List.mem_map.mp ms
    obtain ⟨i0, hi0, ei0⟩ := List.getElem_of_mem hx0
    refine ⟨fun m σ H' => ∃ (v : V) (o : Option Sd) (L : List (Addr × Sd)), σ = [some (.ref d), some v, some (.ref l)] ∧ OthAt H' v o ∧ Same H H' ∧ H' l = some (.lst (sdR L)) ∧ SdsAt H' L ∧ Lnk tops rs S s' (L.map (·.2)) o ∧ (match o with
        | none => m = 0 ∧ L.length ≤ E.length
        | some c => ∃ (i : Nat) (o' : Option Sd), E[i]? = some (c, o') ∧ m = i + 1 ∧ L.length + i + 1 ≤ E.length),
      ⟨i0 + 1, .ref p, some s', [], rfl, ⟨p, rfl, hs.keep (.same s0)⟩, s0, upd_same, (fun _ h => absurd h List.not_mem_nil), ⟨fun t ht => ht, rfl⟩, i0, x0.2, ?_, rfl, ?_⟩, fun m σ H1 W => ?_⟩
    · rw [List.getElem?_eq_getElem hi0, ei0, ← ex0]
    · simp only [List.length_nil]
      omega
    obtain ⟨v, o, L, rfl, ho, s1, el, hL, lk, ms'⟩ := W
    cases o with
    | none =>
      cases (show v = .non from ho)
      obtain ⟨_, lL⟩ := ms'
      refine ⟨_, rfl, rfl, _, rfl, iteFa rfl ⟨.ref l, rfl, l, _, rfl, .inl (.inl el), fun p2 np2 => ⟨p2, _, rfl, .inl ⟨.inl (.inl upd_same), fun t nt => ?_⟩⟩⟩⟩
      have st := (same_new (o := HO.lst (sdR L).reverse) np2).trans (same_new (o := HO.tup (sdR L).reverse) nt)
      refine q _ t L.reverse (L.map (·.2)) (s1.trans st) (s1.free ((same_new (o := HO.lst (sdR L).reverse) np2).free nt)) ?_ (fun z hz => (hL z (List.mem_reverse.mp hz)).keep (.same st)) (by rw [List.map_reverse]) lk.1 lk.2 (by rw [List.length_map]; omega)
      rw [upd_same]
      simp only [sdR, List.map_reverse]
    | some c =>
      obtain ⟨pc, rfl, hpc⟩ := ho
      obtain ⟨i, o', eE, rfl, lL⟩ := ms'
      obtain ⟨v2, ev2, hv2⟩ := aK.at' A.nd (List.mem_of_getElem? eE)
      refine ⟨_, rfl, rfl, _, rfl, iteTr rfl ⟨fun σ' H' => ∃ m', m' < i + 1 ∧ ∃ (v : V) (o : Option Sd) (L : List (Addr × Sd)), σ' = [some (.ref d), some v, some (.ref l)] ∧ OthAt H' v o ∧ Same H H' ∧ H' l = some (.lst (sdR L)) ∧ SdsAt H' L ∧ Lnk tops rs S s' (L.map (·.2)) o ∧ (match o with
        | none => m' = 0 ∧ L.length ≤ E.length
        | some c => ∃ (i : Nat) (o' : Option Sd), E[i]? = some (c, o') ∧ m' = i + 1 ∧ L.length + i + 1 ≤ E.length), fun σ' H' h => h, ?_⟩⟩
      refine ⟨.ref l, rfl, .inl ⟨rfl, _, .inl (.inl el)⟩, .ref pc, rfl, l, _, _, rfl, rfl, el, by rw [List.length_map]; exact small1000 (by omega), ?_⟩
      have kl : Keep H1 (upd H1 l (.lst (sdR L ++ [V.ref pc]))) := Keep.upd el
      have s2 : Same H (upd H1 l (.lst (sdR L ++ [V.ref pc]))) := same_over s1 nl
      refine ⟨.ref d, rfl, .ref pc, rfl, d, v2, rfl, .inr ⟨kvs, KS c, pc, .inr ⟨od, s2 _ _ ed⟩, rfl, hpc.keep kl, ev2.symm⟩, ?_⟩
      have e3 : (upd H1 l (.lst (sdR L ++ [V.ref pc]))) l = some (.lst (sdR (L ++ [(pc, c)]))) := by
        rw [upd_same]
        simp [sdR]
      have hL3 : SdsAt (upd H1 l (.lst (sdR L ++ [V.ref pc]))) (L ++ [(pc, c)]) := (hL.keep kl).snoc (hpc.keep kl)
      cases o' with
      | none =>
        have m0 := A.n0 i c eE
        refine ⟨0, by omega, v2, none, L ++ [(pc, c)], rfl, hv2, s2, e3, hL3, ?_, rfl, ?_⟩
        · rw [List.map_append]
          exact lk.next0 m0
        · rw [List.length_append]
          simp only [List.length_cons, List.length_nil]
          omega
      | some a =>
        obtain ⟨m1, m2⟩ := A.n1 i c a eE
        obtain ⟨y, hy, ey⟩ := List.mem_map.mp m2
        obtain ⟨j, hj, e⟩ := List.getElem_of_mem hy
        have hj' : j < i := by
          rw [List.length_take] at hj
          omega
        have eEj : E[j]? = some y := by
          have : (E.take i)[j]? = some y := by rw [List.getElem?_eq_getElem hj, e]
          rwa [List.getElem?_take_of_lt hj'] at this
        refine ⟨j + 1, by omega, v2, some a, L ++ [(pc, c)], rfl, hv2.keep (.same s2), s2, e3, hL3, ?_, j, y.2, by rw [eEj, ← ey], rfl, ?_⟩
        · rw [List.map_append]
          exact lk.next1 m1
        · rw [List.length_append]
          simp only [List.length_cons, List.length_nil]
          omega
/-- what chain_to tells -/
def CTo (tops : List Int) (rs : List Rl) (S : List Sd) (s : Sd) (cs : List Sd) : Prop :=
  (cs = [] ∧ ∀ z, Rea tops rs (· ∈ S) z → withinB tops z s = false) ∨ ∃ R z, RCh tops rs S R ∧ R.head? = some z ∧ withinB tops z s = true ∧ Rea tops rs (· ∈ S) z ∧ ((z = s ∧ cs = R.reverse) ∨ (z ≠ s ∧ cs = R.reverse ++ [s]))
def spCto (K : PySem.W.Frag) (C : Addr) : Sp := fun vs H Q _ => ∃ (x g p : Addr) (tops : List Int) (rs : List Rl) (Ls : List (Addr × Sd)) (s : Sd), vs = [.ref x, .ref g, .ref p] ∧ PlanAt C H x tops rs ∧ SqT K H g (sdR Ls) ∧ SdsAt H Ls ∧ (∀ z ∈ Ls, SideOk tops z.2) ∧ (∀ q ∈ rs, RuleOk tops q) ∧ rs.length ≤ 40 ∧ Ls.length ≤ 200 ∧ SideAt H p s ∧ SideOk tops s ∧
  ∀ H' c L, Same H H' → H' c = some (.tup (sdR L)) → SdsAt H' L → CTo tops rs (Ls.map (·.2)) s (L.map (·.2)) → L.length ≤ 281 → Q (.ref c) H'
abbrev a_chain_to : Stmt := topS 26
abbrev n_chain_to : List Str := ["plan", "starts", "goal", "ahead", "side", "chain"]
theorem sc_chain_to : FnScope n_chain_to ["plan", "starts", "goal"] (defScope a_chain_to) := ⟨rfl, rfl, rfl, by decide +kernel, rfl, by decide +kernel, by decide +kernel⟩
set_option maxHeartbeats 8000000 in
theorem ok_chain_to {f fRe fWi fCi : Addr} {fd fdRe fdWi fdCi : FuncData} {k : Nat} {C : Addr} (F : Fun K "chain_to" "chain_to" a_chain_to f fd) (Re : Kn P w K mg base 4 "reached" ["plan", "starts"] (spRea K C) fRe fdRe) (Wi : Kn P w K mg base 2 "is_within" ["plan", "one", "other"] (spTwo C withinB) fWi fdWi) (Ci : Kn P w K mg base 1 "chain_in" ["ahead", "side"] spCin fCi fdCi)   : FnOk P w K mg base CX0 (k + 5) f fd ["plan", "starts", "goal"] (spCto K C) := by
  refine F.ok sc_chain_to (fun vs H Q E h => ?_) (fun cdv A outer s H vs Q E hr h => ?_)
  · obtain ⟨x, g, p, tops, rs, Ls, s', rfl, _⟩ := h
    rfl
  · obtain ⟨x, g, p, tops, rs, Ls, s', rfl, hp, eg, hLs, okS, rok, l40, l100, hs, ok, q⟩ := h
    refine ⟨_, (pss_cons (ps_set (i := 3) sc_chain_to.nd rfl (.inl rfl) (pe_kn Re hr (by omega) (pa_cons (pv 0) (pa_cons (pv 1) pa_nil))))
      (pss_cons (ps_for PassesOwn.never rfl (pi_keys (pv 3)) (pg_name (i := 4) sc_chain_to.nd rfl (.inl rfl))
        (pss_one (ps_if (pt_val (pe_kn Wi hr (by omega) (pa_cons (pv 0) (pa_cons (pv 4) (pa_cons (pv 2) pa_nil))))) (pss_cons (ps_set (i := 5) sc_chain_to.nd rfl (.inl rfl) (pe_kn Ci hr (by omega) (pa_cons (pv 3) (pa_cons (pv 4) pa_nil))))
      (pss_one (ps_ret (pe_ifExp (pt_cmpR (op_eqD hr.units) (pv 4) (pv 2) (nomark _)) (pv 5) (pe_tup (StX.pa_star (pv 5) (pa_cons (pv 2) pa_nil))))))) pss_nil)))
      (pss_one (ps_ret (pe_tup pa_nil))))), ?_⟩
    refine ⟨.ref x, rfl, .ref g, rfl, x, g, tops, rs, Ls, rfl, hp, eg, hLs, okS, rok, l40, l100, fun H1 d od kvs E s1 nd ed aK A cl lE => ?_⟩
    have okR : ∀ z, Rea tops rs (· ∈ Ls.map (·.2)) z → SideOk tops z := fun z h => h.ok rok fun s hs => by
      obtain ⟨y, hy, rfl⟩ := List.mem_map.mp hs
      exact okS y hy
    refine ⟨.ref d, rfl, d, od, rfl, .inr ⟨kvs, ed, for_it walk_keysT (fun i σ H' => (∃ u4, σ = [some (.ref x), some (.ref g), some (.ref p), some (.ref d), u4, none]) ∧ Same H1 H' ∧ ∀ z ∈ (E.take i).map (·.1), withinB tops z s' = false) ⟨⟨_, rfl⟩, Same.refl _, (fun z h => absurd h (by simp))⟩ (fun i σ H' _ y => y.2.1 _ _ ed) (fun i v σ H2 H2' hi y z => ?_) (fun σ H2 y => ?_)⟩⟩
    · obtain ⟨⟨u4, rfl⟩, s2, al⟩ := y
      obtain ⟨rfl, k, v', qa, ekv, rfl, eqa⟩ := z
      obtain ⟨e, ee, ek, _⟩ := aK.get ekv
      have ek' : k = KS e.1 := ek
      subst ek'
      have hqa : SideAt H2' qa e.1 := eqa
      have me : e.1 ∈ E.map (·.1) := List.mem_map.mpr ⟨e, List.mem_of_getElem? ee, rfl⟩
      have re := (A.mem cl).mp me
      have s02 := s1.trans s2
      refine ⟨.ref x, rfl, .ref qa, rfl, .ref p, rfl, x, qa, p, tops, rs, e.1, s', rfl, hp.keep (.same s02), hqa, hs.keep (.same s02), okR _ re, ok, fun H3 s3 => ⟨_, rfl, ite2 (fun c => ?_) (fun c => ?_)⟩⟩
      · refine ⟨.ref d, rfl, .ref qa, rfl, d, qa, od, kvs, E, tops, rs, Ls.map (·.2), e.1, rfl, (s2.trans s3) _ _ ed, aK.kt (KT.same (s2.trans s3)), A, lE, hqa.keep (.same s3), me, fun H4 cc L R s4 nc ec hL eL rc hd lR => ?_⟩
        have s04 := (s02.trans s3).trans s4
        have lL : L.length ≤ 280 := by
          have := congrArg List.length eL
          rw [List.length_map, List.length_reverse] at this
          omega
        refine ⟨.ref qa, rfl, .ref p, rfl, _, _, dp_sd (hqa.keep (.same (s3.trans s4))), dp_sd (hs.keep (.same s04)), shaped_sd _, shaped_sd _, _, rfl, ?_⟩
        rw [eqv_sd]
        refine ite2 (fun c2 => ?_) (fun c2 => ?_)
        · refine ⟨_, rfl, q H4 cc L s04 ec hL (.inr ⟨R, e.1, rc, hd, c, re, .inl ⟨of_decide_eq_true c2, eL⟩⟩) (by omega)⟩
        · refine ⟨.ref cc, rfl, cc, _, rfl, .inl (.inl (.inl ec)), .ref p, rfl, Nat.le_of_lt (small1000 (by rw [List.length_append, List.length_map]; simp only [List.length_cons, List.length_nil]; omega)), fun t nt => ?_⟩
          have st := same_new (o := HO.tup (sdR L ++ [V.ref p])) nt
          refine q _ t (L ++ [(p, s')]) (s04.trans st) (by rw [upd_same]; simp [sdR]) ((hL.keep (.same st)).snoc (hs.keep (.same (s04.trans st)))) (.inr ⟨R, e.1, rc, hd, c, re, .inr ⟨fun z => c2 (decide_eq_true z), ?_⟩⟩) (by rw [List.length_append]; simp only [List.length_cons, List.length_nil]; omega)
          rw [List.map_append, eL]
          rfl
      · refine ⟨⟨_, rfl⟩, s2.trans s3, fun z hz => ?_⟩
        rw [List.take_add_one, ee, List.map_append] at hz
        rcases List.mem_append.mp hz with h | h
        · exact al z h
        · have : z = e.1 := by simpa using h
          rw [this]
          exact Bool.not_eq_true _ |>.mp c
    · obtain ⟨⟨u4, rfl⟩, s2, al⟩ := y
      rw [aK.len, List.take_length] at al
      refine ⟨Nat.zero_le _, fun t nt => q _ t [] ((s1.trans s2).trans (same_new nt)) upd_same (fun _ h => absurd h List.not_mem_nil) (.inl ⟨rfl, fun z hz => al z ((A.mem cl).mpr hz)⟩) (Nat.zero_le _)⟩
end
end K18

set_option Elab.async false
set_option linter.all false
set_option maxRecDepth 100000
namespace K18
open PySem PySem.Spec PyProof.Rows L2 NB

/-! ### what follows -/
def BndAt (H : Hp) (p : Addr) (lows highs : List Int) : Prop := ∃ Us : List Addr, H p = some (.tup (Us.map V.ref)) ∧ Us.length = lows.length ∧ ∀ (j : Nat) (T : Addr), Us[j]? = some T → H T = some (.tup [.int (plc lows j), .int (plc highs j)])
theorem BndAt.keep {H H' : Hp} {p : Addr} {lows highs : List Int} (h : BndAt H p lows highs) (k : Keep H H') : BndAt H' p lows highs := by
  obtain ⟨Us, e, l, t⟩ := h
  exact ⟨Us, k.tup e, l, fun j T ej => k.tup (t j T ej)⟩
theorem plcSet {l : List Int} {i : Nat} {v : Int} (h : i < l.length) (j : Nat) : plc (l.set i v) j = if j = i then v else plc l j := by
  show (l.set i v).getD j 0 = _
  rw [List.getD_eq_getElem?_getD]
  by_cases c : j = i
  · rw [c, List.getElem?_set_self h, if_pos rfl]
    rfl
  · rw [List.getElem?_set_ne (Ne.symm c), if_neg c]
    exact (List.getD_eq_getElem?_getD ..).symm
structure FolP (tops : List Int) (ks : List Sd) (lows highs : List Int) : Prop where
  ll : lows.length = tops.length
  lh : highs.length = tops.length
  l0 : ∀ i, i < tops.length → plc lows i = 0 ∨ (i, true, plc lows i) ∈ ks
  h0 : ∀ i, i < tops.length → plc highs i = plc tops i ∨ (i, false, plc highs i) ∈ ks
  l1 : ∀ i p, (i, true, p) ∈ ks → p ≤ plc lows i
  h1 : ∀ i p, (i, false, p) ∈ ks → plc highs i ≤ p
  lz : ∀ i, i < tops.length → 0 ≤ plc lows i
  hz : ∀ i, i < tops.length → plc highs i ≤ plc tops i
theorem FolP.init (tops : List Int) : FolP tops [] (List.replicate tops.length 0) tops := by
  have e : ∀ i, plc (List.replicate tops.length (0 : Int)) i = 0 := fun i => by
    show (List.replicate tops.length (0 : Int)).getD i 0 = 0
    rw [List.getD_eq_getElem?_getD, List.getElem?_replicate]
    split <;> rfl
  exact ⟨List.length_replicate, rfl, fun i _ => .inl (e i), fun i _ => .inl rfl, fun _ _ h => absurd h List.not_mem_nil, fun _ _ h => absurd h List.not_mem_nil, fun i _ => by rw [e i]; exact Int.le_refl _, fun i _ => Int.le_refl _⟩
theorem FolP.from' {tops : List Int} {ks : List Sd} {lows highs : List Int} (F : FolP tops ks lows highs) {i : Nat} {p : Int} (li : i < tops.length) : FolP tops (ks ++ [(i, true, p)]) (lows.set i (if p > plc lows i then p else plc lows i)) highs := by
  have lw : i < lows.length := by rw [F.ll]; exact li
  refine ⟨by rw [List.length_set]; exact F.ll, F.lh, fun j hj => ?_, fun j hj => ?_, fun j r h => ?_, fun j r h => ?_, fun j hj => ?_, F.hz⟩
  · rw [plcSet lw]
    by_cases c : j = i
    · rw [if_pos c]
      split
      · rw [c]
        exact .inr (List.mem_append_right _ (List.mem_singleton.mpr rfl))
      · rcases F.l0 i li with h | h
        · exact .inl h
        · rw [c]
          exact .inr (List.mem_append_left _ h)
    · rw [if_neg c]
      rcases F.l0 j hj with h | h
      · exact .inl h
      · exact .inr (List.mem_append_left _ h)
  · rcases F.h0 j hj with h | h
    · exact .inl h
    · exact .inr (List.mem_append_left _ h)
  · rw [plcSet lw]
    rcases List.mem_append.mp h with h | h
    · have := F.l1 j r h
      by_cases c : j = i
      · rw [if_pos c]
        rw [c] at this
        split <;> omega
      · rw [if_neg c]
        exact this
    · have e := List.mem_singleton.mp h
      injection e with e1 e2
      injection e2 with _ e3
      rw [if_pos e1, e3]
      split <;> omega
  · rcases List.mem_append.mp h with h | h
    · exact F.h1 j r h
    · have e := List.mem_singleton.mp h
      injection e with e1 e2
      injection e2 with e2 _
      cases e2
  · rw [plcSet lw]
    have := F.lz j hj
    have := F.lz i li
    split
    · split <;> omega
    · omega
theorem FolP.to' {tops : List Int} {ks : List Sd} {lows highs : List Int} (F : FolP tops ks lows highs) {i : Nat} {p : Int} (li : i < tops.length) : FolP tops (ks ++ [(i, false, p)]) lows (highs.set i (if p < plc highs i then p else plc highs i)) := by
  have lw : i < highs.length := by rw [F.lh]; exact li
  refine ⟨F.ll, by rw [List.length_set]; exact F.lh, fun j hj => ?_, fun j hj => ?_, fun j r h => ?_, fun j r h => ?_, F.lz, fun j hj => ?_⟩
  · rcases F.l0 j hj with h | h
    · exact .inl h
    · exact .inr (List.mem_append_left _ h)
  · rw [plcSet lw]
    by_cases c : j = i
    · rw [if_pos c]
      split
      · rw [c]
        exact .inr (List.mem_append_right _ (List.mem_singleton.mpr rfl))
      · rcases F.h0 i li with h | h
        · rw [c]
          exact .inl h
        · rw [c]
          exact .inr (List.mem_append_left _ h)
    · rw [if_neg c]
      rcases F.h0 j hj with h | h
      · exact .inl h
      · exact .inr (List.mem_append_left _ h)
  · rcases List.mem_append.mp h with h | h
    · exact F.l1 j r h
    · have e := List.mem_singleton.mp h
      injection e with e1 e2
      injection e2 with e2 _
      cases e2
  · rw [plcSet lw]
    rcases List.mem_append.mp h with h | h
    · have := F.h1 j r h
      by_cases c : j = i
      · rw [if_pos c]
        rw [c] at this
        split <;> omega
      · rw [if_neg c]
        exact this
    · have e := List.mem_singleton.mp h
      injection e with e1 e2
      injection e2 with _ e3
      rw [if_pos e1, e3]
      split <;> omega
  · rw [plcSet lw]
    have := F.hz j hj
    have h2 := F.hz i li
    by_cases c : j = i
    · rw [if_pos c, c]
      split <;> omega
    · rw [if_neg c]
      exact this
theorem FolP.fol {tops : List Int} {rs : List Rl} {ks : List Sd} {lows highs : List Int} {S : Sd → Prop} (F : FolP tops ks lows highs) (m : ∀ s, s ∈ ks ↔ Rea tops rs S s) : Fol tops rs S lows highs :=
  ⟨F.ll, F.lh, fun i hi => (F.l0 i hi).imp_right (m _).mp, fun i hi => (F.h0 i hi).imp_right (m _).mp, fun i p h => F.l1 i p ((m _).mpr h), fun i p h => F.h1 i p ((m _).mpr h), F.lz, F.hz⟩
theorem rep_flat (n : Nat) : (List.replicate n [V.int 0]).flatten = (List.replicate n (0 : Int)).map V.int := by
  induction n with
  | zero => rfl
  | succ n ih =>
    rw [List.replicate_succ, List.flatten_cons, ih, List.replicate_succ]
    rfl
section
variable {P : Program} {w : World} {K : PySem.W.Frag} {mg : Str → Option Value} {base : Heap}
/-- what is handed to those who look at a want -/
structure Wnt (K : PySem.W.Frag) (C : Addr) (H : Hp) (x g : Addr) (tops : List Int) (rs : List Rl) (Ls : List (Addr × Sd)) : Prop where
  hp : PlanAt C H x tops rs
  eg : SqT K H g (sdR Ls)
  hL : SdsAt H Ls
  okS : ∀ z ∈ Ls, SideOk tops z.2
  rok : ∀ q ∈ rs, RuleOk tops q
  l40 : rs.length ≤ 40
  lS : Ls.length ≤ 200
  l12 : tops.length ≤ 12
  pl : ∀ i, i < tops.length → 0 ≤ plc tops i
theorem Wnt.same {C : Addr} {H H' : Hp} {x g : Addr} {tops : List Int} {rs : List Rl} {Ls : List (Addr × Sd)} (h : Wnt K C H x g tops rs Ls) (s : Same H H') : Wnt K C H' x g tops rs Ls :=
  ⟨h.hp.keep (.same s), sameT s h.eg, h.hL.keep (.same s), h.okS, h.rok, h.l40, h.lS, h.l12, h.pl⟩
theorem Wnt.ok {C : Addr} {H : Hp} {x g : Addr} {tops : List Int} {rs : List Rl} {Ls : List (Addr × Sd)} (h : Wnt K C H x g tops rs Ls) : ∀ s, s ∈ Ls.map (·.2) → SideOk tops s := fun s hs => by
  obtain ⟨z, hz, rfl⟩ := List.mem_map.mp hs
  exact h.okS z hz
def spFol (K : PySem.W.Frag) (C : Addr) : Sp := fun vs H Q _ => ∃ (x g : Addr) (tops : List Int) (rs : List Rl) (Ls : List (Addr × Sd)), vs = [.ref x, .ref g] ∧ Wnt K C H x g tops rs Ls ∧
  ∀ H' p lows highs, Same H H' → H p = none → BndAt H' p lows highs → Fol tops rs (· ∈ Ls.map (·.2)) lows highs → Q (.ref p) H'
abbrev a_follows : Stmt := topS 35
abbrev n_follows : List Str := ["plan", "want", "lows", "highs", "thing", "word", "place"]
theorem sc_follows : FnScope n_follows ["plan", "want"] (defScope a_follows) := ⟨rfl, rfl, rfl, by decide +kernel, rfl, by decide +kernel, by decide +kernel⟩
set_option maxHeartbeats 8000000 in
theorem ok_follows {f fRe : Addr} {fd fdRe : FuncData} {k : Nat} {C : Addr} (F : Fun K "follows" "follows" a_follows f fd) (Re : Kn P w K mg base 4 "reached" ["plan", "starts"] (spRea K C) fRe fdRe) (T : PlanTxt K mg C) (m_zip : mg "zip" = none) (m_len : mg "len" = none) (m_list : mg "list" = none) (m_max : mg "max" = none) (m_min : mg "min" = none) (m_tuple : mg "tuple" = none) : FnOk P w K mg base CX0 (k + 5) f fd ["plan", "want"] (spFol K C) := by
  refine F.ok sc_follows (fun vs H Q E h => ?_) (fun cdv A outer s H vs Q E hr h => ?_)
  · obtain ⟨x, g, tops, rs, Ls, rfl, _⟩ := h
    rfl
  · obtain ⟨x, g, tops, rs, Ls, rfl, W, q⟩ := h
    refine ⟨_, (pss_cons (ps_set (i := 2) sc_follows.nd rfl (.inl rfl) (pe_op op_rep (pe_lst (pa_cons pe_int pa_nil)) (pe_callB call_len_seq (by rfl) m_len (by decide +kernel) (pa_cons (pe_fld (pv 0) rfl) pa_nil))))
      (pss_cons (ps_set (i := 3) sc_follows.nd rfl (.inl rfl) (pe_callTy call_list_of (by rfl) m_list (by decide +kernel) (pa_cons (pe_fld (pv 0) rfl) pa_nil)))
      (pss_cons (ps_for PassesOwn.never rfl (pi_keys (pe_kn Re hr (by omega) (pa_cons (pv 0) (pa_cons (pv 1) pa_nil)))) (pg_tup rfl (pgs_cons (pg_name (i := 4) sc_follows.nd rfl (.inl rfl)) (pgs_cons (pg_name (i := 5) sc_follows.nd rfl (.inl rfl)) (pgs_cons (pg_name (i := 6) sc_follows.nd rfl (.inl rfl)) pgs_nil))))
        (pss_one (ps_if (pt_cmpR op_eq (pv 5) pe_str (nomark _)) (pss_one (ps_asg (pe_callB (call_max2 rfl) (by rfl) m_max (by decide +kernel) (pa_cons (pe_ix ix_list (pv 2) (pv 4) (fun _ _ => rfl)) (pa_cons (pv 6) pa_nil))) (pg_sub (pv 2) (pv 4) set_list))) (pss_one (ps_asg (pe_callB (call_min2 rfl) (by rfl) m_min (by decide +kernel) (pa_cons (pe_ix ix_list (pv 3) (pv 4) (fun _ _ => rfl)) (pa_cons (pv 6) pa_nil))) (pg_sub (pv 3) (pv 4) set_list))))))
      (pss_one (ps_ret (pe_tupZip rfl (by rfl) m_tuple (by rfl) m_zip (pa_cons (pv 2) (pa_cons (pv 3) pa_nil)))))))), ?_⟩
    have hp := W.hp
    have l12 := W.l12
    obtain ⟨dx, t, R, ex, et, hR⟩ := hp
    refine ⟨(show 1 ≤ sizeLine by decide), fun l0 nl0 => ?_⟩
    have s0 := same_new (o := HO.lst [V.int 0]) nl0
    refine ⟨.ref x, rfl, x, C, dx, _, _, rfl, s0 _ _ ex, T.cl, T.nT, look_tops _ _, t, _, rfl, .inr (.inl (.inl (s0 _ _ et))), l0, _, _, rfl, rfl, upd_same, by omega, by rw [List.length_map]; omega, ?_, fun lw nlw => ?_⟩
    · rw [List.length_map]
      exact Nat.le_of_lt (small1000 (by simp only [List.length_cons, List.length_nil]; omega))
    have s1 := s0.trans (same_new (o := HO.lst (List.replicate (((tops.map V.int).length : Int)).toNat [V.int 0]).flatten) nlw)
    have nlwH : H lw = none := s0.free nlw
    have elw : (upd (upd H l0 (.lst [V.int 0])) lw (.lst (List.replicate (((tops.map V.int).length : Int)).toNat [V.int 0]).flatten)) lw = some (.lst ((List.replicate tops.length (0 : Int)).map V.int)) := by
      rw [upd_same, rep_flat, List.length_map]
      simp
    generalize upd (upd H l0 (.lst [V.int 0])) lw (.lst (List.replicate (((tops.map V.int).length : Int)).toNat [V.int 0]).flatten) = H1 at s1 elw ⊢
    refine ⟨.ref x, rfl, x, C, dx, _, _, rfl, s1 _ _ ex, T.cl, T.nT, look_tops _ _, t, _, rfl, .inr (.inl (.inl (s1 _ _ et))), fun hg nhg => ?_⟩
    have sh := same_new (o := HO.lst (tops.map V.int)) nhg
    have s2 := s1.trans sh
    have nhgH : H hg = none := s1.free nhg
    have nlh : lw ≠ hg := ne_of_none elw nhg
    have elw2 := sh _ _ elw
    have ehg2 : (upd H1 hg (.lst (tops.map V.int))) hg = some (.lst (tops.map V.int)) := upd_same
    generalize upd H1 hg (.lst (tops.map V.int)) = H2 at s2 elw2 ehg2 ⊢
    have W2 := W.same s2
    refine ⟨.ref x, rfl, .ref g, rfl, x, g, tops, rs, Ls, rfl, W2.hp, W2.eg, W2.hL, W2.okS, W2.rok, W2.l40, W2.lS, fun H3 d od kvs E s3 nd ed aK A cl lE => ?_⟩
    have okR : ∀ s, s ∈ E.map (·.1) → SideOk tops s := fun s hs => ((A.mem cl).mp hs).ok W.rok W.ok
    refine ⟨d, od, rfl, .inr ⟨kvs, ed, for_it walk_keysT (fun i σ H' => (∃ u4 u5 u6, σ = [some (.ref x), some (.ref g), some (.ref lw), some (.ref hg), u4, u5, u6]) ∧ Same H H' ∧ H' d = some (.frz od (.dT kvs)) ∧ ∃ lows highs, H' lw = some (.lst (lows.map V.int)) ∧ H' hg = some (.lst (highs.map V.int)) ∧ FolP tops ((E.take i).map (·.1)) lows highs) ⟨⟨_, _, _, rfl⟩, s2.trans s3, ed, _, _, s3 _ _ elw2, s3 _ _ ehg2, FolP.init tops⟩ (fun i σ H' _ y => y.2.2.1) (fun i v σ H4 H4' hi y z => ?_) (fun σ H4 y => ?_)⟩⟩
    · obtain ⟨⟨u4, u5, u6, rfl⟩, s4, ed4, lows, highs, el4, eh4, F⟩ := y
      obtain ⟨rfl, k, v', qa, ekv, rfl, eqa⟩ := z
      obtain ⟨e, ee, ek, _⟩ := aK.get ekv
      have ek' : k = KS e.1 := ek
      subst ek'
      have hqa : SideAt H4' qa e.1 := eqa
      have ok := okR e.1 (List.mem_map.mpr ⟨e, List.mem_of_getElem? ee, rfl⟩)
      have tk : (E.take (i + 1)).map (·.1) = (E.take i).map (·.1) ++ [e.1] := by
        rw [List.take_add_one, ee, List.map_append]
        rfl
      have ndl : d ≠ lw := fun z => by
        rw [z, el4] at ed4
        cases ed4
      have ndh : d ≠ hg := fun z => by
        rw [z, eh4] at ed4
        cases ed4
      have li := ok.lt
      obtain ⟨⟨j, b, p⟩, o⟩ := e
      have li' : j < tops.length := li
      refine ⟨qa, _, rfl, .inl (.inl hqa), rfl, _, _, rfl, _, _, rfl, _, _, rfl, rfl, _, rfl, rfl, _, rfl, ?_⟩
      cases b with
      | true =>
        refine iteTr w_from ⟨.ref lw, rfl, _, rfl, lw, _, j, _, rfl, rfl, .inl (.inl el4), plc_at (by rw [F.ll]; exact li'), _, rfl, _, _, rfl, .ref lw, rfl, _, rfl, lw, _, j, j, rfl, rfl, el4, by rw [List.length_map, F.ll]; exact ixN_nat li', ⟨_, _, _, rfl⟩, same_over s4 nlwH, by rw [upd_ne ndl]; exact ed4, _, highs, by rw [upd_same, List.map_set], by rw [upd_ne (Ne.symm nlh)]; exact eh4, by rw [tk]; exact F.from' li'⟩
      | false =>
        refine iteFa w_to ⟨.ref hg, rfl, _, rfl, hg, _, j, _, rfl, rfl, .inl (.inl eh4), plc_at (by rw [F.lh]; exact li'), _, rfl, _, _, rfl, .ref hg, rfl, _, rfl, hg, _, j, j, rfl, rfl, eh4, by rw [List.length_map, F.lh]; exact ixN_nat li', ⟨_, _, _, rfl⟩, same_over s4 nhgH, by rw [upd_ne ndh]; exact ed4, lows, _, by rw [upd_ne nlh]; exact el4, by rw [upd_same, List.map_set], by rw [tk]; exact F.to' li'⟩
    · obtain ⟨⟨u4, u5, u6, rfl⟩, s4, ed4, lows, highs, el4, eh4, F⟩ := y
      rw [aK.len, List.take_length] at F
      refine ⟨.ref lw, rfl, .ref hg, rfl, lw, hg, _, _, rfl, .inl (.inl el4), .inl (.inl eh4), by rw [List.length_map, List.length_map, F.ll, F.lh], by rw [List.length_map, F.ll]; omega, fun H5 p Us s5 np ep lU aU => q H5 p lows highs (s4.trans s5) (s4.free np) ⟨Us, ep, by rw [lU, List.length_map], fun j T ej => ?_⟩ (F.fol fun s => A.mem cl)⟩
      obtain ⟨a, b, ea, eb, eT⟩ := aU j T ej
      obtain ⟨a', ea', rfl⟩ := mapGet ea
      obtain ⟨b', eb', rfl⟩ := mapGet eb
      have e1 : plc lows j = a' := by
        show lows.getD j 0 = a'
        rw [List.getD_eq_getElem?_getD, ea']
        rfl
      have e2 : plc highs j = b' := by
        show highs.getD j 0 = b'
        rw [List.getD_eq_getElem?_getD, eb']
        rfl
      rw [e1, e2]
      exact eT
def spPull (K : PySem.W.Frag) (C : Addr) : Sp := fun vs H Q _ => ∃ (x a g : Addr) (tops st : List Int) (rs : List Rl) (Ls : List (Addr × Sd)), vs = [.ref x, .ref a, .ref g] ∧ Wnt K C H x g tops rs Ls ∧ H a = some (.tup (st.map V.int)) ∧ st.length = tops.length ∧
  ∀ H' p lows highs, Same H H' → H' p = some (.tup ((pullF lows highs st).map V.int)) → Fol tops rs (· ∈ Ls.map (·.2)) lows highs → Q (.ref p) H'
theorem pull_take (lows highs st : List Int) (i : Nat) (h : i < st.length) : (pullF lows highs st).take (i + 1) = (pullF lows highs st).take i ++ [max (plc lows i) (min (plc st i) (plc highs i))] := by
  rw [List.take_add_one]
  congr 1
  unfold pullF
  rw [List.getElem?_map, List.getElem?_range h]
  rfl
abbrev a_pulled : Stmt := topS 43
abbrev n_pulled : List Str := ["plan", "standing", "want", "place", "low", "high"]
theorem sc_pulled : FnScope n_pulled ["plan", "standing", "want"] (defScope a_pulled) := ⟨rfl, rfl, rfl, by decide +kernel, rfl, by decide +kernel, by decide +kernel⟩
set_option maxHeartbeats 8000000 in
theorem ok_pulled {f fFl : Addr} {fd fdFl : FuncData} {k : Nat} {C : Addr} (F : Fun K "pulled" "pulled" a_pulled f fd) (Fl : Kn P w K mg base 5 "follows" ["plan", "want"] (spFol K C) fFl fdFl)  (m_max : mg "max" = none) (m_min : mg "min" = none) (m_tuple : mg "tuple" = none) (m_zip : mg "zip" = none) : FnOk P w K mg base CX0 (k + 6) f fd ["plan", "standing", "want"] (spPull K C) := by
  refine F.ok sc_pulled (fun vs H Q E h => ?_) (fun cdv A outer s H vs Q E hr h => ?_)
  · obtain ⟨x, a, g, tops, st, rs, Ls, rfl, _⟩ := h
    rfl
  · obtain ⟨x, a, g, tops, st, rs, Ls, rfl, W, ea, ls, q⟩ := h
    refine ⟨_, (pss_one (ps_ret (pe_callTy call_tuple_of (by rfl) m_tuple (by decide +kernel) (pa_cons (
        pe_lc (own := [("place", 3), ("low", 4), ("high", 5)]) (g := (gTup K 2 (gCons (gName 3) (gCons (gTup K 2 (gCons (gName 4) (gCons (gName 5) gNil))) gNil)))) (tt := tYes)  rfl sc_pulled.nd (RZ.pi_zipA (by rfl) m_zip (pa_cons (pv 1) (pa_cons (pe_kn Fl hr (by omega) (pa_cons (pv 0) (pa_cons (pv 2) pa_nil))) pa_nil))) (blkOk_by (N := n_pulled) (sc := defScope a_pulled) (by decide +kernel))
          (fun _ _ _ _ _ => (pg_tup rfl (pgs_cons (pg_name (i := 3) sc_pulled.nd rfl (.inl rfl) (hf := .inr rfl)) (pgs_cons (pg_tup rfl (pgs_cons (pg_name (i := 4) sc_pulled.nd rfl (.inl rfl) (hf := .inr rfl)) (pgs_cons (pg_name (i := 5) sc_pulled.nd rfl (.inl rfl) (hf := .inr rfl)) pgs_nil))) pgs_nil)))) (fun _ _ _ _ _ => pts_nil) (fun _ _ _ _ _ => (pe_callB (call_max2 rfl) (by rfl) m_max (by decide +kernel) (pa_cons (pv 4) (pa_cons (pe_callB (call_min2 rfl) (by rfl) m_min (by decide +kernel) (pa_cons (pv 3) (pa_cons (pv 5) pa_nil))) pa_nil))))) pa_nil)))), ?_⟩
    refine ⟨.ref a, rfl, .ref x, rfl, .ref g, rfl, x, g, tops, rs, Ls, rfl, W, fun H1 p lows highs s1 np hb F => ?_⟩
    obtain ⟨Us, ep, lU, aU⟩ := hb
    have l12 := W.l12
    have lU' : Us.length = st.length := by rw [lU, F.ll, ls]
    refine ⟨a, p, _, _, rfl, .inr ⟨.inl (.inl (s1 _ _ ea)), .inl (.inl ep), fun D nD => lc_it (walk_zipT (xs := st.map V.int) (ys := Us.map V.ref) (by rw [List.length_map, List.length_map, lU'])) (fun i H' => Same H1 H' ∧ H' D = some (.lst (((pullF lows highs st).take i).map V.int))) ⟨same_new nD, upd_same⟩ (fun i H' _ y => ⟨.inl (.inl (y.1 _ _ (s1 _ _ ea))), .inl (.inl (y.1 _ _ ep))⟩) (fun i v H2 H3 hi y z => ?_) (fun H2 y => ?_)⟩⟩
    · obtain ⟨s2, eD⟩ := y
      obtain ⟨T', x1, x2, rfl, nT, rfl, gx1, gx2⟩ := z
      obtain ⟨a1, e1, rfl⟩ := mapGet gx1
      obtain ⟨T, e2, rfl⟩ := mapGet gx2
      have hi' : i < st.length := by simpa using hi
      have eT := s2 _ _ (aU i T e2)
      have sT := same_new (o := HO.tup [V.int a1, V.ref T]) nT
      have ea1 : plc st i = a1 := by
        show st.getD i 0 = a1
        rw [List.getD_eq_getElem?_getD, e1]
        rfl
      refine ⟨T', _, rfl, .inl (.inl upd_same), rfl, _, _, rfl, _, _, rfl, T, _, rfl, .inl (.inl (sT _ _ eT)), rfl, _, _, rfl, _, _, rfl, rfl, rfl, ?_⟩
      refine ⟨rfl, _, rfl, _, rfl, _, rfl, _, _, rfl, _, _, rfl, _, sT _ _ eD, ?_, same_over (s2.trans sT) nD, ?_⟩
      · rw [List.length_map, List.length_take, pull_len]
        exact small1000 (by omega)
      · rw [upd_same, pull_take _ _ _ _ hi', List.map_append, ← ea1]
        have em : (if (if plc highs i < plc st i then plc highs i else plc st i) > plc lows i then (if plc highs i < plc st i then plc highs i else plc st i) else plc lows i) = max (plc lows i) (min (plc st i) (plc highs i)) := by
          repeat' split
          all_goals omega
        rw [em]
        rfl
    · obtain ⟨s2, eD⟩ := y
      rw [List.length_map, List.take_of_length_le (by rw [pull_len]; exact Nat.le_refl _)] at eD
      refine ⟨D, _, rfl, .inl ⟨.inl (.inl eD), fun r nr => q _ r lows highs ((s1.trans s2).trans (same_new nr)) upd_same F⟩⟩
end
end K18

set_option Elab.async false
set_option linter.all false
set_option maxRecDepth 100000
set_option maxHeartbeats 1000000
/-! Data of any kind: None, truths, whole numbers, texts, lists, tuples, dicts. -/
namespace NB
open PySem PySem.Spec PyProof.Rows L2

def kD : Key → PyData
  | .inl i => .int i
  | .inr x => .str x
mutual
/-- the value v is the data d; its lists stand apart from n -/
inductive Da (n : Addr) (H : Hp) : V → PyData → Prop
  | non : Da n H .non .none
  | bl (b : Bool) : Da n H (.bl b) (.bool b)
  | int (i : Int) : Da n H (.int i) (.int i)
  | str (x : Str) : Da n H (.str x) (.str x)
  | lst {a : Addr} {xs : List V} {ds : List PyData} : H a = some (.lst xs) → a ≠ sysModules → a ≠ n → DaAll n H xs ds → Da n H (.ref a) (.list ds)
  | tup {a : Addr} {xs : List V} {ds : List PyData} : H a = some (.tup xs) → DaAll n H xs ds → Da n H (.ref a) (.tuple ds)
  | dct {a : Addr} {kvs : List (Key × V)} {ds : List (PyData × PyData)} : H a = some (.dK kvs) → DaKv n H kvs ds → Da n H (.ref a) (.dict ds)
inductive DaAll (n : Addr) (H : Hp) : List V → List PyData → Prop
  | nil : DaAll n H [] []
  | cons {v : V} {vs : List V} {d : PyData} {ds : List PyData} : Da n H v d → DaAll n H vs ds → DaAll n H (v :: vs) (d :: ds)
inductive DaKv (n : Addr) (H : Hp) : List (Key × V) → List (PyData × PyData) → Prop
  | nil : DaKv n H [] []
  | cons {k : Key} {v : V} {kvs : List (Key × V)} {d : PyData} {ds : List (PyData × PyData)} : Da n H v d → DaKv n H kvs ds → DaKv n H ((k, v) :: kvs) ((kD k, d) :: ds)
end
mutual
theorem Da.keep {n : Addr} {H H' : Hp} (hn : ∃ zs, H n = some (.lst zs)) (k : ∀ b o, b ≠ n → H b = some o → H' b = some o) : ∀ (d : PyData) (v : V), Da n H v d → Da n H' v d
  | .none, _, h => by cases h; exact .non
  | .bool b, _, h => by cases h; exact .bl b
  | .int i, _, h => by cases h; exact .int i
  | .str x, _, h => by cases h; exact .str x
  | .list ds, _, h => by
    cases h with
    | lst e n1 n2 ha => exact .lst (k _ _ n2 e) n1 n2 (DaAll.keep hn k ds _ ha)
  | .tuple ds, _, h => by
    cases h with
    | tup e ha =>
      refine .tup (k _ _ (fun z => ?_) e) (DaAll.keep hn k ds _ ha)
      obtain ⟨zs, q⟩ := hn
      rw [z, q] at e
      cases e
  | .dict ds, _, h => by
    cases h with
    | dct e ha =>
      refine .dct (k _ _ (fun z => ?_) e) (DaKv.keep hn k ds _ ha)
      obtain ⟨zs, q⟩ := hn
      rw [z, q] at e
      cases e
theorem DaAll.keep {n : Addr} {H H' : Hp} (hn : ∃ zs, H n = some (.lst zs)) (k : ∀ b o, b ≠ n → H b = some o → H' b = some o) : ∀ (ds : List PyData) (vs : List V), DaAll n H vs ds → DaAll n H' vs ds
  | [], _, h => by cases h; exact .nil
  | d :: ds, _, h => by
    cases h with
    | cons h1 h2 => exact .cons (Da.keep hn k d _ h1) (DaAll.keep hn k ds _ h2)
theorem DaKv.keep {n : Addr} {H H' : Hp} (hn : ∃ zs, H n = some (.lst zs)) (k : ∀ b o, b ≠ n → H b = some o → H' b = some o) : ∀ (ds : List (PyData × PyData)) (kvs : List (Key × V)), DaKv n H kvs ds → DaKv n H' kvs ds
  | [], _, h => by cases h; exact .nil
  | (_, d) :: ds, _, h => by
    cases h with
    | cons h1 h2 => exact .cons (Da.keep hn k d _ h1) (DaKv.keep hn k ds _ h2)
end
mutual
theorem Da.sameD {n : Addr} {H H' : Hp} (k : Same H H') : ∀ (d : PyData) (v : V), Da n H v d → Da n H' v d
  | .none, _, h => by cases h; exact .non
  | .bool b, _, h => by cases h; exact .bl b
  | .int i, _, h => by cases h; exact .int i
  | .str x, _, h => by cases h; exact .str x
  | .list ds, _, h => by
    cases h with
    | lst e n1 n2 ha => exact .lst (k _ _ e) n1 n2 (DaAll.sameD k ds _ ha)
  | .tuple ds, _, h => by
    cases h with
    | tup e ha => exact .tup (k _ _ e) (DaAll.sameD k ds _ ha)
  | .dict ds, _, h => by
    cases h with
    | dct e ha => exact .dct (k _ _ e) (DaKv.sameD k ds _ ha)
theorem DaAll.sameD {n : Addr} {H H' : Hp} (k : Same H H') : ∀ (ds : List PyData) (vs : List V), DaAll n H vs ds → DaAll n H' vs ds
  | [], _, h => by cases h; exact .nil
  | d :: ds, _, h => by
    cases h with
    | cons h1 h2 => exact .cons (Da.sameD k d _ h1) (DaAll.sameD k ds _ h2)
theorem DaKv.sameD {n : Addr} {H H' : Hp} (k : Same H H') : ∀ (ds : List (PyData × PyData)) (kvs : List (Key × V)), DaKv n H kvs ds → DaKv n H' kvs ds
  | [], _, h => by cases h; exact .nil
  | (_, d) :: ds, _, h => by
    cases h with
    | cons h1 h2 => exact .cons (Da.sameD k d _ h1) (DaKv.sameD k ds _ h2)
end
theorem Da.same {n : Addr} {H H' : Hp} {v : V} {d : PyData} (h : Da n H v d) (k : Same H H') : Da n H' v d := Da.sameD k d v h
theorem DaAll.same {n : Addr} {H H' : Hp} {vs : List V} {ds : List PyData} (h : DaAll n H vs ds) (k : Same H H') : DaAll n H' vs ds := DaAll.sameD k ds vs h
theorem DaAll.len {n : Addr} {H : Hp} {vs : List V} {ds : List PyData} (h : DaAll n H vs ds) : vs.length = ds.length := by
  induction ds generalizing vs with
  | nil => cases h; rfl
  | cons d ds ih =>
    cases h with
    | cons h1 h2 => rw [List.length_cons, List.length_cons, ih h2]
theorem DaAll.get {n : Addr} {H : Hp} {vs : List V} {ds : List PyData} (h : DaAll n H vs ds) (i : Nat) (v : V) (e : vs[i]? = some v) : ∃ d, ds[i]? = some d ∧ Da n H v d := by
  induction ds generalizing vs i with
  | nil => cases h; simp at e
  | cons d ds ih =>
    cases h with
    | cons h1 h2 =>
      cases i with
      | zero => exact ⟨d, rfl, by cases e; exact h1⟩
      | succ i => exact ih h2 i e
theorem DaAll.mem {n : Addr} {H : Hp} {vs : List V} {ds : List PyData} (h : DaAll n H vs ds) {v : V} (hv : v ∈ vs) : ∃ d ∈ ds, Da n H v d := by
  obtain ⟨i, hi, e⟩ := List.getElem_of_mem hv
  obtain ⟨d, e1, e2⟩ := h.get i v (by rw [List.getElem?_eq_getElem hi, e])
  exact ⟨d, List.mem_of_getElem? e1, e2⟩
theorem DaAll.app {n : Addr} {H : Hp} {vs us : List V} {ds es : List PyData} (h : DaAll n H vs ds) (h' : DaAll n H us es) : DaAll n H (vs ++ us) (ds ++ es) := by
  induction ds generalizing vs with
  | nil => cases h; exact h'
  | cons d ds ih =>
    cases h with
    | cons h1 h2 => exact .cons h1 (ih h2)
theorem DaAll.take {n : Addr} {H : Hp} {vs : List V} {ds : List PyData} (h : DaAll n H vs ds) (i : Nat) : DaAll n H (vs.take i) (ds.take i) := by
  induction ds generalizing vs i with
  | nil => cases h; simp only [List.take_nil]; exact .nil
  | cons d ds ih =>
    cases h with
    | cons h1 h2 =>
      cases i with
      | zero => simp only [List.take_zero]; exact .nil
      | succ i => simp only [List.take_succ_cons]; exact .cons h1 (ih h2 i)
theorem DaAll.drop {n : Addr} {H : Hp} {vs : List V} {ds : List PyData} (h : DaAll n H vs ds) (i : Nat) : DaAll n H (vs.drop i) (ds.drop i) := by
  induction ds generalizing vs i with
  | nil => cases h; simp only [List.drop_nil]; exact .nil
  | cons d ds ih =>
    cases h with
    | cons h1 h2 =>
      cases i with
      | zero => simp only [List.drop_zero]; exact .cons h1 h2
      | succ i => simp only [List.drop_succ_cons]; exact ih h2 i
theorem DaAll.ints {n : Addr} {H : Hp} : ∀ xs : List Int, DaAll n H (xs.map V.int) (xs.map PyData.int)
  | [] => .nil
  | x :: xs => .cons (.int x) (DaAll.ints xs)
/-- of which kind it is -/
def tyD : PyData → String
  | .none => "NoneType"
  | .bool _ => "bool"
  | .int _ => "int"
  | .str _ => "str"
  | .list _ => "list"
  | .tuple _ => "tuple"
  | .dict _ => "dict"
theorem Da.ty {K : PySem.W.Frag} {n : Addr} {H : Hp} {v : V} {d : PyData} (h : Da n H v d) : TyX K H v (.type (tyD d)) := by
  cases h with
  | non => exact .base .non
  | bl b => exact .base (.bl b)
  | int i => exact .base (.int i)
  | str x => exact .base (.str x)
  | lst e _ _ _ => exact .base (.lst e)
  | tup e _ => exact .base (.tup e)
  | dct e _ => exact .base (.dK e)
def isTupD : PyData → Bool
  | .tuple _ => true
  | _ => false
def isIntD : PyData → Bool
  | .int _ => true
  | .bool _ => true
  | _ => false
def isBoolD : PyData → Bool
  | .bool _ => true
  | _ => false
def isStrD : PyData → Bool
  | .str _ => true
  | _ => false
theorem kit_tup (d : PyData) : kitB (tyD d) "tuple" = some (isTupD d) := by cases d <;> (simp only [tyD, isTupD, isIntD, isBoolD, isStrD]; decide +kernel)
theorem kit_int (d : PyData) : kitB (tyD d) "int" = some (isIntD d) := by cases d <;> (simp only [tyD, isTupD, isIntD, isBoolD, isStrD]; decide +kernel)
theorem kit_bool (d : PyData) : kitB (tyD d) "bool" = some (isBoolD d) := by cases d <;> (simp only [tyD, isTupD, isIntD, isBoolD, isStrD]; decide +kernel)
theorem kit_str (d : PyData) : kitB (tyD d) "str" = some (isStrD d) := by cases d <;> (simp only [tyD, isTupD, isIntD, isBoolD, isStrD]; decide +kernel)
section
variable {X : Cx} {pins : List (Addr × Obj)} {σ : L2.St} {H : Hp} {s : Shared}
theorem key_reads {h : Heap} {k : Key} {u : Value} (e : keyIs k u = true) : Reads h u (kD k) [] := by
  rcases keyIs_shape e with ⟨i, t, rfl, rfl⟩ | ⟨x, t, rfl, rfl⟩
  · exact .int i t
  · exact .str x t
mutual
theorem Da.reads {n : Addr} (I : Inv X pins σ H s) : ∀ (d : PyData) (v : V) (u : Value), Da n H v d → RelV v u → ∃ as, Reads s.heap u d as ∧ sysModules ∉ as
  | .none, _, _, h, r => by
    cases h
    cases r
    exact ⟨_, Reads.none, List.not_mem_nil⟩
  | .bool b, _, _, h, r => by
    cases h
    cases r
    exact ⟨_, Reads.bool b, List.not_mem_nil⟩
  | .int i, _, _, h, r => by
    cases h
    obtain ⟨t, rfl⟩ := r
    exact ⟨_, Reads.int i t, List.not_mem_nil⟩
  | .str x, _, _, h, r => by
    cases h
    obtain ⟨t, rfl⟩ := r
    exact ⟨_, Reads.str x t, List.not_mem_nil⟩
  | .list ds, _, _, h, r => by
    cases h with
    | lst e n1 n2 ha =>
      cases r
      obtain ⟨its, rv, ⟨o, m, ho, hc, _, hd⟩, _⟩ := I.list (.inl (.inl e))
      obtain ⟨as, hr, hm⟩ := Da.readsAll I ds _ its ha rv
      refine ⟨_, Reads.list ho hc hd hr, fun z => ?_⟩
      rcases List.mem_cons.mp z with q | q
      · exact n1 q.symm
      · exact hm q
  | .tuple ds, _, _, h, r => by
    cases h with
    | tup e ha =>
      cases r
      obtain ⟨its, rv, ⟨o, ho, hc, m, hd⟩, _⟩ := I.tuple (.inl (.inl e))
      obtain ⟨as, hr, hm⟩ := Da.readsAll I ds _ its ha rv
      exact ⟨_, Reads.tuple ho hc hd hr, hm⟩
  | .dict ds, _, _, h, r => by
    cases h with
    | dct e ha =>
      rename_i a kvs
      cases r
      obtain ⟨_, hsys, vs, rel, o, es, ep, h1, h2, h3, _, pr, _⟩ := (show ObjOk X.prog X.w H s.heap a (.dK kvs) from I.hok a _ e)
      obtain ⟨as, bs, q1, m1, q2, m2⟩ := Da.readsKv I ds kvs vs es.toList ha rel pr
      refine ⟨_, Reads.dict h1 h2.1 h3 q1 q2, fun z => ?_⟩
      rw [List.cons_append] at z
      rcases List.mem_cons.mp z with q | q
      · exact beq_eq_false_iff_ne.mp hsys q.symm
      · rcases List.mem_append.mp q with q | q
        · exact m1 q
        · exact m2 q
theorem Da.readsAll {n : Addr} (I : Inv X pins σ H s) : ∀ (ds : List PyData) (vs : List V) (us : List Value), DaAll n H vs ds → Vals vs us → ∃ as, ReadsAll s.heap us ds as ∧ sysModules ∉ as
  | [], _, _, h, r => by
    cases h
    cases r
    exact ⟨_, ReadsAll.nil, List.not_mem_nil⟩
  | d :: ds, _, _, h, r => by
    cases h with
    | cons h1 h2 =>
      cases r with
      | cons r1 r2 =>
        obtain ⟨as, q1, m1⟩ := Da.reads I d _ _ h1 r1
        obtain ⟨bs, q2, m2⟩ := Da.readsAll I ds _ _ h2 r2
        refine ⟨_, ReadsAll.cons q1 q2, fun z => ?_⟩
        rcases List.mem_append.mp z with q | q
        · exact m1 q
        · exact m2 q
theorem Da.readsKv {n : Addr} (I : Inv X pins σ H s) : ∀ (ds : List (PyData × PyData)) (kvs : List (Key × V)) (vs : List (Key × Value)) (es : List DictEntry), DaKv n H kvs ds → KV kvs vs → Pairs (mixKind X.prog X.w) es vs →
    ∃ as bs, ReadsAll s.heap (es.map (·.key)) (ds.map (·.1)) as ∧ sysModules ∉ as ∧ ReadsAll s.heap (es.map (·.val)) (ds.map (·.2)) bs ∧ sysModules ∉ bs
  | [], _, _, _, h, r, p => by
    cases h
    cases r
    cases p
    exact ⟨_, _, ReadsAll.nil, List.not_mem_nil, ReadsAll.nil, List.not_mem_nil⟩
  | (_, d) :: ds, _, _, _, h, r, p => by
    cases h with
    | cons h1 h2 =>
      cases r with
      | cons r1 r2 =>
        cases p with
        | cons p1 p2 p3 =>
          obtain ⟨as, bs, q1, m1, q2, m2⟩ := Da.readsKv I ds _ _ _ h2 r2 p3
          obtain ⟨cs, q3, m3⟩ := Da.reads I d _ _ h1 r1.2
          refine ⟨_, _, ReadsAll.cons (key_reads (by have e := r1.1; simp only at e; show keyIs _ _ = true; rw [e]; exact p1)) q1, ?_, ReadsAll.cons (by show Reads s.heap (DictEntry.val _) d _; rw [p2]; exact q3) q2, fun z => ?_⟩
          · rw [List.nil_append]
            exact m1
          · rcases List.mem_append.mp z with q | q
            · exact m3 q
            · exact m2 q
end
end
/-- data that repr writes: at most w by weight, nested at most k deep -/
structure Sm (d : PyData) (w k : Nat) : Prop where
  sh : d.showable = true
  dp : d.depth ≤ k
  lv : d.leavesShort 100 = true
  wt : d.weight ≤ w
theorem Sm.mono {d : PyData} {w v k m : Nat} (h : Sm d w k) (hw : w ≤ v) (hk : k ≤ m) : Sm d v m := ⟨h.sh, Nat.le_trans h.dp hk, h.lv, Nat.le_trans h.wt hw⟩
/-- each of them -/
def SmE (ds : List PyData) (k : Nat) : Prop := ∀ d ∈ ds, d.showable = true ∧ d.depth ≤ k ∧ d.leavesShort 100 = true
theorem smE_iff : ∀ (ds : List PyData) (k : Nat), SmE ds k ↔ PyData.showableAll ds = true ∧ PyData.depthAll ds ≤ k ∧ PyData.leavesShortAll 100 ds = true
  | [], k => by
    refine ⟨fun _ => ⟨rfl, Nat.zero_le _, rfl⟩, fun _ d h => absurd h List.not_mem_nil⟩
  | d :: ds, k => by
    have ih := smE_iff ds k
    constructor
    · intro h
      have h1 := h d List.mem_cons_self
      have h2 := ih.mp fun e he => h e (List.mem_cons_of_mem _ he)
      refine ⟨?_, ?_, ?_⟩
      · simp only [PyData.showableAll, h1.1, h2.1, Bool.and_self]
      · simp only [PyData.depthAll]
        omega
      · simp only [PyData.leavesShortAll, h1.2.2, h2.2.2, Bool.and_self]
    · rintro ⟨h1, h2, h3⟩ e he
      simp only [PyData.showableAll, Bool.and_eq_true] at h1
      simp only [PyData.depthAll] at h2
      simp only [PyData.leavesShortAll, Bool.and_eq_true] at h3
      rcases List.mem_cons.mp he with rfl | he
      · exact ⟨h1.1, by omega, h3.1⟩
      · exact ih.mpr ⟨h1.2, by omega, h3.2⟩ e he
theorem smE_iff_depth : ∀ (ds : List PyData) (k : Nat), PyData.depthAll ds ≤ k ↔ ∀ d ∈ ds, d.depth ≤ k
  | [], k => ⟨fun _ d h => absurd h List.not_mem_nil, fun _ => Nat.zero_le _⟩
  | d :: ds, k => by
    have ih := smE_iff_depth ds k
    simp only [PyData.depthAll]
    constructor
    · intro h e he
      rcases List.mem_cons.mp he with rfl | he
      · omega
      · exact ih.mp (by omega) e he
    · intro h
      have h1 := h d List.mem_cons_self
      have h2 := ih.mpr fun e he => h e (List.mem_cons_of_mem _ he)
      omega
theorem wt_app : ∀ xs ys : List PyData, PyData.weightAll (xs ++ ys) = PyData.weightAll xs + PyData.weightAll ys
  | [], ys => by simp [PyData.weightAll]
  | x :: xs, ys => by
    rw [List.cons_append]
    simp only [PyData.weightAll, wt_app xs ys]
    omega
theorem wt_len : ∀ xs : List PyData, xs.length ≤ PyData.weightAll xs
  | [] => by simp [PyData.weightAll]
  | x :: xs => by
    have := wt_len xs
    simp only [PyData.weightAll, List.length_cons]
    omega
theorem wt_mem : ∀ {xs : List PyData} {d : PyData}, d ∈ xs → d.weight + 1 ≤ PyData.weightAll xs
  | [], d, h => absurd h List.not_mem_nil
  | x :: xs, d, h => by
    simp only [PyData.weightAll]
    rcases List.mem_cons.mp h with rfl | h
    · omega
    · have := wt_mem h
      omega
theorem Sm.tup {ds : List PyData} {w k : Nat} (h : SmE ds k) (hw : PyData.weightAll ds ≤ w) : Sm (.tuple ds) w (k + 1) := by
  obtain ⟨a, b, c⟩ := (smE_iff ds k).mp h
  refine ⟨?_, ?_, ?_, ?_⟩
  · simpa only [PyData.showable] using a
  · simp only [PyData.depth]
    omega
  · simpa only [PyData.leavesShort] using c
  · simpa only [PyData.weight] using hw
theorem Sm.lst {ds : List PyData} {w k : Nat} (h : SmE ds k) (hw : PyData.weightAll ds ≤ w) : Sm (.list ds) w (k + 1) := by
  obtain ⟨a, b, c⟩ := (smE_iff ds k).mp h
  refine ⟨?_, ?_, ?_, ?_⟩
  · simpa only [PyData.showable] using a
  · simp only [PyData.depth]
    omega
  · simpa only [PyData.leavesShort] using c
  · simpa only [PyData.weight] using hw
theorem Sm.of_tup {ds : List PyData} {w k : Nat} (h : Sm (.tuple ds) w k) : ∃ j, k = j + 1 ∧ SmE ds j ∧ PyData.weightAll ds ≤ w := by
  obtain ⟨a, b, c, e⟩ := h
  simp only [PyData.showable] at a
  simp only [PyData.depth] at b
  simp only [PyData.leavesShort] at c
  simp only [PyData.weight] at e
  refine ⟨k - 1, by omega, (smE_iff ds _).mpr ⟨a, by omega, c⟩, e⟩
theorem Sm.int {i : Int} (h : i.natAbs < 10 ^ 90) : Sm (.int i) 310 0 := by
  have s := Small.int h
  exact ⟨s.sh, s.dp, s.lv, s.wt⟩
theorem Sm.bool (b : Bool) : Sm (.bool b) 0 0 := ⟨rfl, Nat.le_refl _, rfl, Nat.le_refl _⟩
theorem Sm.none : Sm .none 0 0 := ⟨rfl, Nat.le_refl _, rfl, Nat.le_refl _⟩
theorem Sm.e {d : PyData} {w k : Nat} (h : Sm d w k) : d.showable = true ∧ d.depth ≤ k ∧ d.leavesShort 100 = true := ⟨h.sh, h.dp, h.lv⟩
theorem Sm.dict0 : Sm (.dict []) 0 1 := ⟨rfl, by decide, rfl, Nat.le_refl _⟩
theorem Sm.dict1 {x : Str} {d : PyData} {w v k : Nat} (hx : Sm (.str x) v k) (h : Sm d w k) : Sm (.dict [(.str x, d)]) (v + w + 2) (k + 1) := by
  have a := hx.wt
  have b := h.wt
  have c := hx.dp
  have e := h.dp
  refine ⟨?_, ?_, ?_, ?_⟩
  · simp only [PyData.showable, PyData.showableKv, h.sh, Bool.and_self]
  · simp only [PyData.depth, PyData.depthKv]
    omega
  · have e1 := hx.lv
    simp only [PyData.leavesShort, PyData.leavesShortKv] at e1 ⊢
    rw [e1, h.lv]
    rfl
  · simp only [PyData.weight, PyData.weightKv] at a ⊢
    omega
theorem Sm.long {d : PyData} {w k : Nat} (h : Sm d w k) (hw : w ≤ 150000) : d.shown.length ≤ sizeLine := by
  have e := PyData.shown_le 100 (by decide) d h.lv
  have := h.wt
  rw [sizeLine_eq]
  have : (100 + 2) * d.weight ≤ (100 + 2) * 150000 := Nat.mul_le_mul_left _ (Nat.le_trans h.wt hw)
  omega
section
variable {X : Cx}
/-- isinstance(x, T), x data -/
theorem call_isiD : CallR X (.builtin "isinstance") (fun xs H Q => ∃ n v d T b, xs = [v, .ty T] ∧ Da n H v d ∧ kitB (tyD d) T = some b ∧ Q (.bl b) H) := by
  intro pins s σ H xs us Q I r h
  obtain ⟨n, v, d, T, b, rfl, hd, hk, q⟩ := h
  exact call_isi pins s σ H _ us Q I r ⟨v, .ty T, _, _, b, rfl, .ty T, hd.ty, kit_ty hk, q⟩
/-- repr(x), x data -/
theorem call_reprA (hG : X.A.guards = some []) (hu : X.A.units + 64 < cLine) : CallR X (.builtin "repr") (fun xs H Q => ∃ n v d w k, xs = [v] ∧ Da n H v d ∧ Sm d w k ∧ w ≤ 150000 ∧ k ≤ 60 ∧ Q (.str d.shown) H) := by
  intro pins s σ H xs us Q I r h
  obtain ⟨n, v, d, w, k, rfl, hd, S, hw, hk, q⟩ := h
  obtain ⟨u, rfl, ru⟩ := vals1 r
  have hz := S.long hw
  have hsh := S.sh
  cases v with
  | ref a =>
    obtain ⟨as, rd, nm⟩ := Da.reads I d _ u hd ru
    cases ru
    have hn := S.dp
    exact repr_of_reads' rd S.sh (fun _ => nm) hG (by omega) (fun _ _ z => z) (fun h' u tk hk => ⟨.str _, H, I.kept hk, ⟨_, rfl⟩, q⟩) hz
  | non =>
    cases hd
    cases ru
    exact P.repr_of_none ⟨.str "None", H, I.tok _, ⟨_, rfl⟩, q⟩
  | bl b =>
    cases hd
    cases ru
    exact P.repr_of_bool ⟨.str (if b then "True" else "False"), H, I.tok _, ⟨_, rfl⟩, q⟩
  | int i =>
    cases hd
    obtain ⟨t, rfl⟩ := ru
    simp only [PyData.showable, decide_eq_true_eq] at hsh
    exact P.repr_of_int hsh ⟨.str (toString i), H, I.tok _, ⟨_, rfl⟩, q⟩
  | str x =>
    cases hd
    obtain ⟨t, rfl⟩ := ru
    exact P.repr_of_str ⟨.str (reprText x), H, I.tok _, ⟨_, rfl⟩, q⟩ hz
  | _ => cases hd
/-- t == (), t any tuple -/
theorem op_eq0 (hu : X.A.units < cLine) : OpR X (compareOp .Eq) (fun x y H Q => ∃ a b xs, x = .ref a ∧ y = .ref b ∧ SqT X.K H a xs ∧ SqT X.K H b [] ∧ Q (.bl xs.isEmpty) H) := by
  intro pins s σ H x y v u Q I rx ry h
  obtain ⟨a, b, xs, rfl, rfl, ha, hb, q⟩ := h
  cases rx
  cases ry
  obtain ⟨i1, r1, p1, _⟩ := I.tuple ha
  obtain ⟨i2, r2, p2, _⟩ := I.tuple hb
  cases r2
  refine SeqAt.eq_tupleAt (e := fun _ => true) p1 p2 hu (fun j h1 h2 => absurd h2 (by simp)) ?_
  refine ⟨.bl xs.isEmpty, H, I, ?_, q⟩
  have e := r1.length
  cases xs with
  | nil =>
    cases r1
    rfl
  | cons z zs =>
    cases r1
    simp [L2.RelV]
/-- x is y, x is not y, of truths -/
theorem op_isB : OpR X (compareOp .Is) (fun x y H Q => ∃ a b, x = .bl a ∧ y = .bl b ∧ Q (.bl (a == b)) H) := by
  intro pins s σ H x y v u Q I rx ry h
  obtain ⟨a, b, rfl, rfl, q⟩ := h
  cases rx
  cases ry
  exact wpAny_pure ⟨.bl (a == b), H, I, by cases a <;> cases b <;> rfl, q⟩
theorem op_isnotB : OpR X (compareOp .IsNot) (fun x y H Q => ∃ a b, x = .bl a ∧ y = .bl b ∧ Q (.bl (!(a == b))) H) := by
  intro pins s σ H x y v u Q I rx ry h
  obtain ⟨a, b, rfl, rfl, q⟩ := h
  cases rx
  cases ry
  exact wpAny_pure ⟨.bl (!(a == b)), H, I, by cases a <;> cases b <;> rfl, q⟩
/-- t != (), t any tuple -/
theorem op_ne0 (hu : X.A.units < cLine) : OpR X (compareOp .NotEq) (fun x y H Q => ∃ a b xs, x = .ref a ∧ y = .ref b ∧ SqT X.K H a xs ∧ SqT X.K H b [] ∧ Q (.bl (!xs.isEmpty)) H) := by
  intro pins s σ H x y v u Q I rx ry h
  obtain ⟨a, b, xs, rfl, rfl, ha, hb, q⟩ := h
  cases rx
  cases ry
  obtain ⟨i1, r1, p1, _⟩ := I.tuple ha
  obtain ⟨i2, r2, p2, _⟩ := I.tuple hb
  cases r2
  refine SeqAt.RcNeAt.tuples (e := fun _ => true) p1 p2 hu (fun j h1 h2 => absurd h2 (by simp)) X.prog X.w X.xe _ ?_
  refine ⟨.bl (!xs.isEmpty), H, I, ?_, q⟩
  cases xs with
  | nil =>
    cases r1
    rfl
  | cons z zs =>
    cases r1
    simp [L2.RelV]
/-- a written list stands apart from what the machine keeps by itself -/
def tLstN (t : TA) : TE := fun σ H Q => t σ H fun xs H1 => xs.length ≤ sizeLine ∧ ∀ p, H1 p = none → p ≠ sysModules → Q (.ref p) (upd H1 p (.lst xs))
theorem pe_lstN {es : List Expr} {pos : Pos} {t : TA} (h : PA X es t) : PE X (.List es pos) (tLstN t) := by
  refine ⟨fun pins s σ H Q I hq => ?_⟩
  refine wpAny_List_spliced (thn (h.run pos pins s σ H _ I hq) fun us s1 ⟨xs, H1, I1, r, z, q⟩ => ⟨by rw [← r.length]; exact z, ?_⟩)
  have hf : H1 s1.heap.objs.size = none := I1.hok.fresh (Nat.le_refl _)
  refine ⟨.ref s1.heap.objs.size, upd H1 s1.heap.objs.size (.lst xs), I1.laid (t' := s1.toks) (fun b u e => Heap.get?_push_of_some _ e) (Nat.le_refl _) ?_, rfl, q _ hf (Nat.ne_of_gt I1.big)⟩
  exact ⟨z, us, 0, r, Heap.get?_push_size _ rfl⟩
/-- list(t), t a tuple -/
theorem call_list_ofN : CallR X (.type "list") (fun xs H Q => ∃ p ys, xs = [.ref p] ∧ SqT X.K H p ys ∧ ∀ l, H l = none → l ≠ sysModules → Q (.ref l) (upd H l (.lst ys))) := by
  intro pins s σ H xs us Q I r h
  obtain ⟨p, ys, rfl, hq, q⟩ := h
  obtain ⟨u, rfl, rx⟩ := vals1 r
  cases rx
  have fin : ∀ (its : List Value), Vals ys its → ys.length ≤ sizeLine → ∀ (h' : Heap) (c' : Nat), (∀ b o', s.heap.get? b = some o' → h'.get? b = some o') →
      h'.get? s.heap.objs.size = some { cls := .type "list", dict := none, data := .seq its.toArray c', slots := #[] } → EP X pins σ Q (.ref s.heap.objs.size) { s with heap := h' } := fun its r' hz h' c' kp e =>
    ⟨.ref s.heap.objs.size, _, I.laid (t' := s.toks) kp (Nat.le_refl _) (show ObjOk X.prog X.w _ h' _ (.lst ys) from ⟨hz, its, c', r', e⟩), rfl, q _ (I.hok.fresh (Nat.le_refl _)) (Nat.ne_of_gt I.big)⟩
  obtain ⟨its, r', pl, hz⟩ := I.tuple hq
  have hlen := r'.length
  obtain ⟨o, ho, hc, n, hd⟩ := pl
  exact call_list_seq p (.inr rfl) ho hc hd (fun h' c' kp e => fin its r' hz h' c' kp e) (by simp only [List.size_toArray] <;> omega)
end
/-- two ways that come to the same -/
theorem join2 {c : Bool} {A B : VK → Prop} {Q : VK} (R : V → Hp → Prop) (hA : ∀ Q' : VK, (∀ v H, R v H → Q' v H) → A Q') (hB : ∀ Q' : VK, (∀ v H, R v H → Q' v H) → B Q') (hQ : ∀ v H, R v H → Q v H) : if c = true then A Q else B Q := by
  cases c
  · exact iteF (hB Q hQ)
  · exact iteT (hA Q hQ)
theorem inV_int2 (i j k : Int) : inV (V.int i) [V.int j, V.int k] = (decide (i = j) || decide (i = k)) := by
  rw [Bool.eq_iff_iff]
  simp only [inV, eqV, List.any_cons, List.any_nil, Bool.or_false, Bool.or_eq_true, beq_iff_eq, decide_eq_true_eq]
  constructor
  · rintro (h | h)
    · exact .inl h.symm
    · exact .inr h.symm
  · rintro (h | h)
    · exact .inl h.symm
    · exact .inr h.symm
theorem inV_str2 (z x y : Str) : inV (V.str z) [V.str x, V.str y] = (decide (z = x) || decide (z = y)) := by
  rw [Bool.eq_iff_iff]
  simp only [inV, eqV, List.any_cons, List.any_nil, Bool.or_false, Bool.or_eq_true, beq_iff_eq, decide_eq_true_eq]
  constructor
  · rintro (h | h)
    · exact .inl h.symm
    · exact .inr h.symm
  · rintro (h | h)
    · exact .inl h.symm
    · exact .inr h.symm
theorem wipe1 {σ : L2.St} {k : Nat} {v : Option V} {n : Str} : wipe ((wipe σ ([(n, k)].map (·.2))).set k v) ([(n, k)].map (·.2)) = wipe σ ([(n, k)].map (·.2)) := by
  show ((σ.set k none).set k v).set k none = σ.set k none
  rw [List.set_set, List.set_set]
end NB

set_option Elab.async false
set_option linter.all false
set_option maxRecDepth 100000
namespace K18
open PySem PySem.Spec PyProof.Rows L2 NB

/-! ### wants that none has: the mathematics -/
section
variable {tops : List Int} {rs : List Rl}
/-- a want is had by a good standing, or one that follows from it bars a wanted one -/
theorem some_goodS (rok : ∀ q ∈ rs, RuleOk tops q) (pl : ∀ i, i < tops.length → 0 ≤ plc tops i) {st : List Int} (hg : st ∈ goods tops rs) {S : Sd → Prop} (hS : ∀ s, S s → SideOk tops s) : (∃ g ∈ goods tops rs, ∀ s, S s → inB g s = true) ∨ ∃ w z, S w ∧ Rea tops rs S z ∧ barsB tops z w = true := by
  obtain ⟨lows, highs, F⟩ := fol_ex rok pl hS
  by_cases c : ∀ i, i < tops.length → plc lows i ≤ plc highs i
  · obtain ⟨g, h⟩ := F.good rok hS c hg
    exact .inl ⟨_, g, fun s hs => h s (.base hs)⟩
  · obtain ⟨i, h⟩ := Classical.not_forall.mp c
    obtain ⟨hi, h⟩ := Classical.not_imp.mp h
    have p0 := pl i hi
    have a : Rea tops rs S (i, true, plc lows i) := (F.l0 i hi).resolve_left fun e => by
      rcases F.h0 i hi with h' | h'
      · omega
      · have := (h'.ok rok hS).bd
        have h2 : 0 ≤ plc highs i := this.1
        omega
    have b : Rea tops rs S (i, false, plc highs i) := (F.h0 i hi).resolve_left fun e => by
      have := (a.ok rok hS).bd
      have h2 : plc lows i ≤ plc tops i := this.2
      omega
    obtain ⟨w, hw, bw⟩ := b.one
    obtain ⟨z, hz, bz⟩ := bw.turn (a := (i, true, plc lows i)) (by
      rw [bars_iff]
      refine ⟨rfl, .inr ?_⟩
      show plc highs i < plc lows i
      omega)
    exact .inr ⟨w, z, hw, a.trans hz, bz⟩
theorem bar_none (rok : ∀ q ∈ rs, RuleOk tops q) {S : Sd → Prop} (hS : ∀ s, S s → SideOk tops s) {w z : Sd} (hw : S w) (hz : Rea tops rs S z) (b : barsB tops z w = true) : ¬ ∃ g ∈ goods tops rs, ∀ s, S s → inB g s = true := fun ⟨g, hg, h⟩ => by
  have := bars_out hg (hz.ok rok hS) (hS w hw) b (hz.in' rok hS hg h)
  rw [h w hw] at this
  cases this
end

/-! ### papers that are none, what is forced, bounds, rooms by their bounds -/
theorem Fol.iff {tops : List Int} {rs : List Rl} {S T : Sd → Prop} {lows highs : List Int} (F : Fol tops rs S lows highs) (h : ∀ s, S s ↔ T s) : Fol tops rs T lows highs := by
  have e : S = T := funext fun s => propext (h s)
  exact e ▸ F
theorem cto_tn {tops : List Int} {rs : List Rl} {s o : Sd} {cs : List Sd} (h : CTo tops rs [o] s cs) (eo : othS tops s = some o) : cs ≠ [] ↔ Tn tops rs s := by
  have one : ∀ {z}, Rea tops rs (· ∈ [o]) z ↔ Rea tops rs (· = o) z := fun {z} => ⟨fun r => r.mono fun s h => List.mem_singleton.mp h, fun r => r.mono fun s h => List.mem_singleton.mpr h⟩
  constructor
  · intro ne
    rcases h with ⟨e, _⟩ | ⟨R, z, rc, hd, wi, re, _⟩
    · exact absurd e ne
    · exact ⟨o, eo, z, one.mp re, wi⟩
  · rintro ⟨o', eo', z, re, wi⟩ e
    rw [eo] at eo'
    cases eo'
    rcases h with ⟨_, al⟩ | ⟨R, z', rc, hd, wi', re', h | h⟩
    · rw [al z (one.mpr re)] at wi
      cases wi
    · rw [h.2, List.reverse_eq_nil_iff] at e
      rw [e] at hd
      cases hd
    · rw [h.2] at e
      exact absurd e (by simp)
theorem oth_back {tops : List Int} {s o : Sd} (ok : SideOk tops s) (h : othS tops s = some o) : ∃ o', othS tops o = some o' := by
  have b := ok.bd
  rcases oth_cases h with ⟨_, c, rfl⟩ | ⟨_, c, rfl⟩
  · exact ⟨_, oth_to (by omega)⟩
  · exact ⟨_, oth_from (by omega)⟩
theorem any_false (n : Nat) : (List.replicate n false).any id = false := by simp
theorem more_false (n : Nat) : (List.replicate (n + 1) false).map V.bl = (List.replicate n false).map V.bl ++ [V.bl false] := by
  rw [List.replicate_succ', List.map_append]
  rfl
theorem cat_sq {K : PySem.W.Frag} {H : Hp} {a b : Addr} {xs ys : List V} {Q : VK} (ea : SqT K H a xs) (eb : SqT K H b ys) (hz : xs.length + ys.length ≤ 1000) (q : ∀ g H', Same H H' → SqT K H' g (xs ++ ys) → Q (.ref g) H') : rCatA K (.ref a) (.ref b) H Q := by
  refine ⟨a, b, xs, ys, rfl, rfl, ea, eb, Nat.le_of_lt (small1000 hz), fun e => ?_, fun _ e => ?_, fun _ _ p np => q p _ (same_new np) (.inl (.inl upd_same))⟩
  · subst e
    exact q b H (Same.refl H) eb
  · subst e
    refine q a H (Same.refl H) ?_
    rw [List.append_nil]
    exact ea
section
variable {P : Program} {w : World} {K : PySem.W.Frag} {mg : Str → Option Value} {base : Heap}
/-- a want that some good standing has -/
def Had (tops : List Int) (rs : List Rl) (Ls : List (Addr × Sd)) : Prop := ∃ st ∈ goods tops rs, ∀ s, s ∈ Ls.map (·.2) → inB st s = true
def spRs (C : Addr) : Sp := fun vs H Q _ => ∃ (x : Addr) (tops : List Int) (rs : List Rl), vs = [.ref x] ∧ PlanAt C H x tops rs ∧ (∀ q ∈ rs, RuleOk tops q) ∧ rs.length ≤ 40 ∧
  ∀ H' l L, Same H H' → H' l = some (.lst (sdR L)) → SdsAt H' L → (∀ s, s ∈ L.map (·.2) ↔ RuleSd rs s ∧ othS tops s ≠ none) → L.length ≤ 80 → Q (.ref l) H'
theorem ruleSd_take {rs : List Rl} {i : Nat} {q : Rl} (h : rs[i]? = some q) {s : Sd} : RuleSd (rs.take (i + 1)) s ↔ RuleSd (rs.take i) s ∨ s = q.1 ∨ s = q.2 := by
  unfold RuleSd
  rw [List.take_add_one, h]
  constructor
  · rintro ⟨r, hr, e⟩
    rcases List.mem_append.mp hr with h | h
    · exact .inl ⟨r, h, e⟩
    · have : r = q := by simpa using h
      rw [this] at e
      exact .inr e
  · rintro (⟨r, hr, e⟩ | e)
    · exact ⟨r, List.mem_append_left _ hr, e⟩
    · exact ⟨q, List.mem_append_right _ (by simp), e⟩
abbrev a_rule_sides : Stmt := topS 38
abbrev n_rule_sides : List Str := ["plan", "sides", "rule", "side"]
theorem sc_rule_sides : FnScope n_rule_sides ["plan"] (defScope a_rule_sides) := ⟨rfl, rfl, rfl, by decide +kernel, rfl, by decide +kernel, by decide +kernel⟩
set_option maxHeartbeats 8000000 in
theorem ok_rule_sides {f fOt : Addr} {fd fdOt : FuncData} {k : Nat} {C : Addr} (F : Fun K "rule_sides" "rule_sides" a_rule_sides f fd) (Ot : Kn P w K mg base 2 "other_side" ["plan", "side"] (spOth C) fOt fdOt) (T : PlanTxt K mg C)  : FnOk P w K mg base CX0 (k + 3) f fd ["plan"] (spRs C) := by
  refine F.ok sc_rule_sides (fun vs H Q E h => ?_) (fun cdv A outer s H vs Q E hr h => ?_)
  · obtain ⟨x, tops, rs, rfl, _⟩ := h
    rfl
  · obtain ⟨x, tops, rs, rfl, hp, rok, l40, q⟩ := h
    refine ⟨_, (pss_cons (ps_dc2T (i := 1) (own := [("rule", 2), ("side", 3)]) (vs1 := [3]) (g := (gName 2)) (wi1 := iTup K (tVar 2)) (g1 := (gName 3)) (tk := (tVar 3)) (tv := (tC (.bl true))) (Room.u1 hr) rfl sc_rule_sides.nd (pi_tup (pe_fld (pv 0) rfl)) (blkOk_by (N := n_rule_sides) (sc := defScope a_rule_sides) (by decide +kernel)) (by decide)
          (fun _ _ _ _ _ => (pg_name (i := 2) sc_rule_sides.nd rfl (.inl rfl) (hf := .inr rfl))) (fun _ _ _ _ _ => (pi_tup (pv 2))) (fun _ _ _ _ _ => (pg_name (i := 3) sc_rule_sides.nd rfl (.inl rfl) (hf := .inr rfl))) (fun _ _ _ _ _ => (pv 3)) (fun _ _ _ _ _ => pe_bl) rfl rfl (sw_dict rfl rfl rfl (by decide +kernel)))
      (pss_one (ps_ret (
        pe_lock (pe_lc (own := [("side", 3)]) (g := (gName 3)) (tt := (tTest (tOp rNotN (tCall (spOth C) [] E0 (tCons (tVar 0) (tCons (tVar 3) tNil))) (tC .non)))) (te := (tVar 3)) rfl sc_rule_sides.nd (pi_keys (pv 1)) (blkOk_by (N := n_rule_sides) (sc := defScope a_rule_sides) (by decide +kernel))
          (fun _ _ _ _ _ => (pg_name (i := 3) sc_rule_sides.nd rfl (.inl rfl) (hf := .inr rfl))) (fun _ _ _ _ _ => pts_one (pt_cmpR op_notN1 (pe_kn Ot hr (by omega) (pa_cons (pv 0) (pa_cons (pv 3) pa_nil))) pe_non (nomark _))) (fun _ _ _ _ _ => (pv 3))))))), ?_⟩
    have hp' := hp
    obtain ⟨dx, t, R, ex, et, as, eR, la, ha⟩ := hp'
    refine ⟨.ref x, rfl, x, C, dx, _, _, rfl, ex, T.cl, T.nR, look_rules _ _, R, rfl, ⟨_, .inl (.inl eR)⟩, fun D nD => stp_it (walk_tup (xs := as.map V.ref)) (fun i H' => Same H H' ∧ ∃ L : List Sd, H' D = some (.dT (L.map fun t => (KS t, V.bl true))) ∧ (∀ s, s ∈ L ↔ RuleSd (rs.take i) s) ∧ L.length ≤ 2 * i) ⟨same_new nD, [], upd_same, (fun s => by simp [RuleSd]), Nat.le_refl _⟩ (fun i H' _ y => .inl (.inl (y.1 _ _ eR))) (fun i v H1 H2 hi y z => ?_) (fun H1 y => ?_)⟩
    · obtain ⟨s1, L, eD, mL, lL⟩ := y
      obtain ⟨rfl, gv⟩ := z
      obtain ⟨r, er, rfl⟩ := mapGet gv
      have hi' : i < as.length := by simpa using hi
      have eq : rs[i]? = some rs[i] := List.getElem?_eq_getElem (by omega)
      obtain ⟨p1, p2, eR1, h1, h2⟩ := (ha i r _ er eq).keep (.same s1)
      have nDr : r ≠ D := fun e => by
        rw [e, eD] at eR1
        cases eR1
      refine ⟨rfl, .ref r, rfl, r, rfl, ⟨_, .inl (.inl eR1)⟩, stp_it (walk_tup (xs := [V.ref p1, V.ref p2])) (fun j H' => Same H H' ∧ KT H2 H' ∧ ∃ L : List Sd, H' D = some (.dT (L.map fun t => (KS t, V.bl true))) ∧ (∀ s, s ∈ L ↔ RuleSd (rs.take i) s ∨ s ∈ [rs[i].1, rs[i].2].take j) ∧ L.length ≤ 2 * i + j) ⟨s1, KT.refl _, L, eD, (fun s => by simp [mL s]), by omega⟩ (fun j H' _ y => .inl (.inl (y.2.1 _ _ eR1))) (fun j v H3 H4 hj y z => ?_) (fun H3 y => ?_)⟩
      · obtain ⟨s3, k3, L3, eD3, mL3, lL3⟩ := y
        obtain ⟨rfl, gv⟩ := z
        have hj2 : j < 2 := hj
        obtain ⟨pj, sj, ev, hj', ej⟩ : ∃ (pj : Addr) (sj : Sd), v = .ref pj ∧ SideAt H4 pj sj ∧ [rs[i].1, rs[i].2][j]? = some sj := by
          have : j = 0 ∨ j = 1 := by omega
          rcases this with rfl | rfl
          · exact ⟨p1, rs[i].1, (Option.some.inj gv).symm, h1.kt k3, rfl⟩
          · exact ⟨p2, rs[i].2, (Option.some.inj gv).symm, h2.kt k3, rfl⟩
        subst ev
        refine ⟨wipe_one (n := "side"), .ref pj, rfl, _, KS sj, pj, rfl, hj', eD3, by rw [List.length_map]; exact small1000 (by omega), same_over s3 nD, k3.trans (KT.upd eD3 (fun xs e => nomatch e)), insS L3 sj, by rw [upd_same, put_const], fun s => ?_, Nat.le_trans (ins_len L3 sj) (by omega)⟩
        rw [ins_mem, mL3 s, List.take_add_one, ej, List.mem_append, or_assoc]
        simp
      · obtain ⟨s3, k3, L3, eD3, mL3, lL3⟩ := y
        refine ⟨s3, L3, eD3, fun s => ?_, ?_⟩
        · rw [mL3 s, ruleSd_take eq]
          simp
        · have : L3.length ≤ 2 * i + 2 := lL3
          omega
    obtain ⟨s1, L, eD, mL, lL⟩ := y
    rw [List.length_map, la] at mL lL
    rw [List.take_length] at mL
    refine ⟨D, _, eD, trivial, fun od => ?_⟩
    have sF : Same H (upd H1 D (.frz od (.dT (L.map fun t => (KS t, V.bl true))))) := same_over s1 nD
    have eF : (upd H1 D (.frz od (.dT (L.map fun t => (KS t, V.bl true))))) D = some (.frz od (.dT (L.map fun t => (KS t, V.bl true)))) := upd_same
    generalize upd H1 D (.frz od (.dT (L.map fun t => (KS t, V.bl true)))) = HF at sF eF ⊢
    refine ⟨.ref D, rfl, D, od, rfl, .inr ⟨_, eF, fun D2 nD2 => lc_it walk_keysT (fun i H' => Same HF H' ∧ ∃ L', H' D2 = some (.lst (sdR L')) ∧ SdsAt H' L' ∧ (∀ s, s ∈ L'.map (·.2) ↔ s ∈ L.take i ∧ othS tops s ≠ none) ∧ L'.length ≤ i) ⟨same_new nD2, [], upd_same, (fun _ h => absurd h List.not_mem_nil), (fun s => by simp), Nat.le_refl _⟩ (fun i H' _ y => y.1 _ _ eF) (fun i v H2 H3 hi y z => ?_) (fun H2 y => ?_)⟩⟩
    · obtain ⟨s2, L', eD2, hL', mL', lL'⟩ := y
      obtain ⟨rfl, k, v', qa, ekv, rfl, eqa⟩ := z
      obtain ⟨sd, esd, ekk⟩ := mapGet ekv
      injection ekk with ek _
      subst ek
      have hqa : SideAt H3 qa sd := eqa
      have oks : SideOk tops sd := by
        obtain ⟨q', hq', h⟩ := (mL sd).mp (List.mem_of_getElem? esd)
        rcases h with rfl | rfl
        · exact (rok q' hq').1
        · exact (rok q' hq').2
      have tk : ∀ s, s ∈ L.take (i + 1) ↔ s ∈ L.take i ∨ s = sd := fun s => by
        rw [List.take_add_one, esd, List.mem_append]
        simp
      refine ⟨wipe_one, .ref x, rfl, .ref qa, rfl, x, qa, tops, rs, sd, rfl, hp.keep (.same (sF.trans s2)), hqa, oks, fun H4 v s4 ho => ⟨rfl, _, rfl, ?_⟩⟩
      cases eo : othS tops sd with
      | none =>
        rw [eo] at ho
        cases (show v = .non from ho)
        refine iteFa rfl ⟨s2.trans s4, L', s4 _ _ eD2, hL'.keep (.same s4), fun s => ?_, by omega⟩
        rw [mL' s, tk s]
        constructor
        · rintro ⟨h1, h2⟩
          exact ⟨.inl h1, h2⟩
        · rintro ⟨h1 | h1, h2⟩
          · exact ⟨h1, h2⟩
          · exact absurd (h1 ▸ eo) h2
      | some o =>
        rw [eo] at ho
        obtain ⟨go, rfl, _⟩ := ho
        have eD4 := s4 _ _ eD2
        have lw : i < L.length := by simpa using hi
        refine iteTr rfl ⟨_, rfl, _, eD4, by rw [List.length_map]; exact small1000 (by omega), same_over (s2.trans s4) nD2, L' ++ [(qa, sd)], by rw [upd_same]; simp [sdR], ((hL'.keep (.same s4)).keep (Keep.upd eD4)).snoc ((hqa.keep (.same s4)).keep (Keep.upd eD4)), fun s => ?_, by rw [List.length_append]; simp only [List.length_cons, List.length_nil]; omega⟩
        rw [List.map_append, List.mem_append, mL' s, tk s]
        constructor
        · rintro (⟨h1, h2⟩ | h)
          · exact ⟨.inl h1, h2⟩
          · have : s = sd := by simpa using h
            exact ⟨.inr this, by rw [this, eo]; simp⟩
        · rintro ⟨h1 | h1, h2⟩
          · exact .inl ⟨h1, h2⟩
          · exact .inr (by simp [h1])
    · obtain ⟨s2, L', eD2, hL', mL', lL'⟩ := y
      rw [List.length_map] at mL' lL'
      rw [List.take_length] at mL'
      refine ⟨s2 _ _ eF, ?_⟩
      have nDD : D2 ≠ D := fun e => by
        rw [e, eF] at nD2
        cases nD2
      have kD : KT H2 (upd H2 D (.dT (L.map fun t => (KS t, V.bl true)))) := KT.upd (s2 _ _ eF) (fun xs e => nomatch e)
      exact q _ D2 L' (same_over (sF.trans s2) nD) (by rw [upd_ne nDD]; exact eD2) (hL'.kt kD) (fun s => by rw [mL' s, mL s]) (by omega)
end

/-! ### barred papers, of any want -/
section
variable {P : Program} {w : World} {K : PySem.W.Frag} {mg : Str → Option Value} {base : Heap}
def spBarG (K : PySem.W.Frag) (C : Addr) : Sp := fun vs H Q _ => ∃ (x g : Addr) (tops : List Int) (rs : List Rl) (Ls : List (Addr × Sd)), vs = [.ref x, .ref g] ∧ Wnt K C H x g tops rs Ls ∧
  (∀ H', Same H H' → (∀ s w, Rea tops rs (· ∈ Ls.map (·.2)) s → w ∈ Ls.map (·.2) → barsB tops s w = false) → Q .non H') ∧
  ∀ H' h c L R s w, Same H H' → H' h = some (.tup [.str "barred", .ref c]) → H' c = some (.tup (sdR L)) → SdsAt H' L → L.map (·.2) = R.reverse → RCh tops rs (Ls.map (·.2)) R → R.head? = some s → R.length ≤ 280 → Rea tops rs (· ∈ Ls.map (·.2)) s → w ∈ Ls.map (·.2) → barsB tops s w = true → Q (.ref h) H'
abbrev a_barred_paper : Stmt := topS 37
abbrev n_barred_paper : List Str := ["plan", "want", "ahead", "side", "wanted"]
theorem sc_barred_paper : FnScope n_barred_paper ["plan", "want"] (defScope a_barred_paper) := ⟨rfl, rfl, rfl, by decide +kernel, rfl, by decide +kernel, by decide +kernel⟩
set_option maxHeartbeats 8000000 in
theorem ok_barred_paper {f fRe fBr fCi : Addr} {fd fdRe fdBr fdCi : FuncData} {k : Nat} {C : Addr} (F : Fun K "barred_paper" "barred_paper" a_barred_paper f fd) (Re : Kn P w K mg base 4 "reached" ["plan", "starts"] (spRea K C) fRe fdRe) (Br : Kn P w K mg base 2 "bars" ["plan", "one", "other"] (spTwo C barsB) fBr fdBr) (Ci : Kn P w K mg base 1 "chain_in" ["ahead", "side"] spCin fCi fdCi)  (m_any : mg "any" = none) : FnOk P w K mg base CX0 (k + 5) f fd ["plan", "want"] (spBarG K C) := by
  refine F.ok sc_barred_paper (fun vs H Q E h => ?_) (fun cdv A outer s H vs Q E hr h => ?_)
  · obtain ⟨x, g, tops, rs, Ls, rfl, _⟩ := h
    rfl
  · obtain ⟨x, g, tops, rs, Ls, rfl, W, q0, q1⟩ := h
    refine ⟨_, (pss_cons (ps_set (i := 2) sc_barred_paper.nd rfl (.inl rfl) (pe_kn Re hr (by omega) (pa_cons (pv 0) (pa_cons (pv 1) pa_nil))))
      (pss_cons (ps_for PassesOwn.never rfl (pi_keys (pv 2)) (pg_name (i := 3) sc_barred_paper.nd rfl (.inr rfl))
        (pss_one (ps_if (pt_val (pe_callB (cr_any rfl) (by rfl) m_any (by decide +kernel) (pa_cons (
        pe_lc (own := [("wanted", 4)]) (g := (gName 4)) (tt := tYes) (te := (tCall (spTwo C barsB) [] E0 (tCons (tVar 0) (tCons (tVar 3) (tCons (tVar 4) tNil))))) rfl sc_barred_paper.nd (pi_tup (pv 1)) (blkOk_by (N := n_barred_paper) (sc := defScope a_barred_paper) (by decide +kernel))
          (fun _ _ _ _ _ => (pg_name (i := 4) sc_barred_paper.nd rfl (.inl rfl) (hf := .inr rfl))) (fun _ _ _ _ _ => pts_nil) (fun _ _ _ _ _ => (pe_kn Br hr (by omega) (pa_cons (pv 0) (pa_cons (pv 3) (pa_cons (pv 4) pa_nil)))))) pa_nil))) (pss_one (ps_ret (pe_tup (pa_cons pe_str (pa_cons (pe_kn Ci hr (by omega) (pa_cons (pv 2) (pa_cons (pv 3) pa_nil))) pa_nil))))) pss_nil)))
      (pss_one (ps_ret pe_non)))), ?_⟩
    have lS := W.lS
    refine ⟨.ref x, rfl, .ref g, rfl, x, g, tops, rs, Ls, rfl, W.hp, W.eg, W.hL, W.okS, W.rok, W.l40, W.lS, fun H1 d od kvs E s1 nd ed aK A cl lE => ?_⟩
    refine ⟨.ref d, rfl, d, od, rfl, .inr ⟨kvs, ed, for_it walk_keysT (fun i σ H' => (∃ u3, σ = [some (.ref x), some (.ref g), some (.ref d), u3, none]) ∧ Same H1 H' ∧ ∀ z ∈ (E.take i).map (·.1), ∀ w ∈ Ls.map (·.2), barsB tops z w = false) ⟨⟨_, rfl⟩, Same.refl _, (fun z h => absurd h (by simp))⟩ (fun i σ H' _ y => y.2.1 _ _ ed) (fun i v σ H2' H2 hi y z => ?_) (fun σ H2 y => ?_)⟩⟩
    · obtain ⟨⟨u3, rfl⟩, s2, al⟩ := y
      obtain ⟨rfl, k, v', qa, ekv, rfl, eqa⟩ := z
      obtain ⟨e, ee, ek, _⟩ := aK.get ekv
      have ek' : k = KS e.1 := ek
      subst ek'
      have hqa : SideAt H2 qa e.1 := eqa
      have me : e.1 ∈ E.map (·.1) := List.mem_map.mpr ⟨e, List.mem_of_getElem? ee, rfl⟩
      have re := (A.mem cl).mp me
      have oke := re.ok W.rok W.ok
      have s02 := s1.trans s2
      have W2 := W.same s02
      refine ⟨.ref g, rfl, g, rfl, ⟨_, W2.eg⟩, fun D nD => lc_it (walk_tup (xs := sdR Ls)) (fun j H' => Same H2 H' ∧ H' D = some (.lst (((Ls.take j).map fun z => barsB tops e.1 z.2).map V.bl))) ⟨same_new nD, upd_same⟩ (fun j H' _ y => sameT y.1 W2.eg) (fun j v H4 H3 hj y z => ?_) (fun H3 y => ?_)⟩
      · obtain ⟨s3, eD⟩ := y
        obtain ⟨rfl, gv⟩ := z
        obtain ⟨zz, ez, rfl⟩ := mapGet gv
        have hz := List.mem_of_getElem? ez
        refine ⟨wipe_one, .ref x, rfl, .ref qa, rfl, .ref zz.1, rfl, x, qa, zz.1, tops, rs, e.1, zz.2, rfl, W2.hp.keep (.same s3), hqa.keep (.same s3), (W2.hL zz hz).keep (.same s3), oke, W.okS zz hz, fun H5 s5 => ?_⟩
        refine ⟨_, s5 _ _ eD, ?_, same_over (s3.trans s5) nD, ?_⟩
        · rw [List.length_map, List.length_map, List.length_take]
          exact small1000 (by omega)
        · rw [upd_same, List.take_add_one, ez, List.map_append, List.map_append]
          rfl
      · obtain ⟨s3, eD⟩ := y
        have lr : (sdR Ls).length = Ls.length := List.length_map _
        rw [lr, List.take_length] at eD
        refine ⟨D, _, rfl, .inl (.inl eD), _, rfl, ite2 (fun c => ?_) (fun c => ?_)⟩
        · rw [List.any_map] at c
          obtain ⟨zz, hz, bz⟩ := List.any_eq_true.mp c
          refine ⟨.ref d, rfl, .ref qa, rfl, d, qa, od, kvs, E, tops, rs, Ls.map (·.2), e.1, rfl, (s2.trans s3) _ _ ed, aK.kt (KT.same (s2.trans s3)), A, lE, hqa.keep (.same s3), me, fun H4 cc L R s4 nc ec hL eL rc hd lR => ⟨(show 2 ≤ sizeLine by decide), fun h nh => ?_⟩⟩
          have sh := same_new (o := HO.tup [V.str "barred", V.ref cc]) nh
          exact q1 _ h cc L R e.1 zz.2 (((s02.trans s3).trans s4).trans sh) upd_same (sh _ _ ec) (hL.keep (.same sh)) eL rc hd lR re (List.mem_map.mpr ⟨zz, hz, rfl⟩) bz
        · refine ⟨⟨_, rfl⟩, s2.trans s3, fun z hz w hw => ?_⟩
          rw [List.take_add_one, ee, List.map_append] at hz
          rcases List.mem_append.mp hz with h | h
          · exact al z h w hw
          · have ez : z = e.1 := by simpa using h
            subst ez
            obtain ⟨zz, hzz, rfl⟩ := List.mem_map.mp hw
            cases b : barsB tops e.1 zz.2 with
            | false => rfl
            | true =>
              refine absurd ?_ c
              rw [List.any_map]
              exact List.any_eq_true.mpr ⟨zz, hzz, b⟩
    · obtain ⟨⟨u3, rfl⟩, s2, al⟩ := y
      refine q0 H2 (s1.trans s2) fun s w hs hw => al s ?_ w hw
      have lk := aK.length
      rw [lk, List.take_length]
      exact (A.mem cl).mpr hs
end
end K18

set_option Elab.async false
set_option linter.all false
set_option maxRecDepth 100000
namespace K18
open PySem PySem.Spec PyProof.Rows L2 NB

/-! ### turning, rings, what is forced, bounds -/
def rNe0 (K : PySem.W.Frag) : R2 := fun x y H Q => ∃ a b xs, x = .ref a ∧ y = .ref b ∧ SqT K H a xs ∧ SqT K H b [] ∧ Q (.bl (!xs.isEmpty)) H
theorem op_ne0R {X : Cx} (hu : X.A.units < cLine) : OpR X (compareOp .NotEq) (rNe0 X.K) := op_ne0 hu
section
variable {P : Program} {w : World} {K : PySem.W.Frag} {mg : Str → Option Value} {base : Heap}
def spTurn (C : Addr) : Sp := fun vs H Q _ => ∃ (x p : Addr) (tops : List Int) (rs : List Rl) (s o : Sd), vs = [.ref x, .ref p] ∧ PlanAt C H x tops rs ∧ (∀ q ∈ rs, RuleOk tops q) ∧ rs.length ≤ 40 ∧ SideAt H p s ∧ SideOk tops s ∧ othS tops s = some o ∧
  ∀ H' c L, Same H H' → H' c = some (.tup (sdR L)) → SdsAt H' L → CTo tops rs [o] s (L.map (·.2)) → L.length ≤ 281 → Q (.ref c) H'
abbrev a_turning : Stmt := topS 39
abbrev n_turning : List Str := ["plan", "side"]
theorem sc_turning : FnScope n_turning ["plan", "side"] (defScope a_turning) := ⟨rfl, rfl, rfl, by decide +kernel, rfl, by decide +kernel, by decide +kernel⟩
set_option maxHeartbeats 8000000 in
theorem ok_turning {f fCt fOt : Addr} {fd fdCt fdOt : FuncData} {k : Nat} {C : Addr} (F : Fun K "turning" "turning" a_turning f fd) (Ct : Kn P w K mg base 5 "chain_to" ["plan", "starts", "goal"] (spCto K C) fCt fdCt) (Ot : Kn P w K mg base 2 "other_side" ["plan", "side"] (spOth C) fOt fdOt)   : FnOk P w K mg base CX0 (k + 6) f fd ["plan", "side"] (spTurn C) := by
  refine F.ok sc_turning (fun vs H Q E h => ?_) (fun cdv A outer s H vs Q E hr h => ?_)
  · obtain ⟨x, p, tops, rs, s', o, rfl, _⟩ := h
    rfl
  · obtain ⟨x, p, tops, rs, s', o, rfl, hp, rok, l40, hs, ok, eo, q⟩ := h
    refine ⟨_, (pss_one (ps_ret (pe_kn Ct hr (by omega) (pa_cons (pv 0) (pa_cons (pe_tup (pa_cons (pe_kn Ot hr (by omega) (pa_cons (pv 0) (pa_cons (pv 1) pa_nil))) pa_nil)) (pa_cons (pv 1) pa_nil)))))), ?_⟩
    refine ⟨.ref x, rfl, .ref x, rfl, .ref p, rfl, x, p, tops, rs, s', rfl, hp, hs, ok, fun H1 v s1 ho => ?_⟩
    rw [eo] at ho
    obtain ⟨g, rfl, hg⟩ := ho
    refine ⟨(show 1 ≤ sizeLine by decide), fun t nt => ?_⟩
    have st := same_new (o := HO.tup [V.ref g]) nt
    have s2 := s1.trans st
    refine ⟨.ref p, rfl, x, t, p, tops, rs, [(g, o)], s', rfl, hp.keep (.same s2), .inl (.inl upd_same), fun z hz => ?_, fun z hz => ?_, rok, l40, by simp, hs.keep (.same s2), ok, fun H3 c L s3 ec hL ct lL => q H3 c L (s2.trans s3) ec hL ct lL⟩
    · rw [List.mem_singleton.mp hz]
      exact hg.keep (.same st)
    · rw [List.mem_singleton.mp hz]
      exact oth_ok ok eo
def spNon1 (C : Addr) : Sp := fun vs H Q _ => ∃ (x : Addr) (tops : List Int) (rs : List Rl), vs = [.ref x] ∧ PlanAt C H x tops rs ∧ (∀ q ∈ rs, RuleOk tops q) ∧ rs.length ≤ 40 ∧ (∃ st, st ∈ goods tops rs) ∧ ∀ H', Same H H' → Q .non H'
abbrev a_ring_paper : Stmt := topS 40
abbrev n_ring_paper : List Str := ["plan", "side", "back", "there"]
theorem sc_ring_paper : FnScope n_ring_paper ["plan"] (defScope a_ring_paper) := ⟨rfl, rfl, rfl, by decide +kernel, rfl, by decide +kernel, by decide +kernel⟩
set_option maxHeartbeats 8000000 in
theorem ok_ring_paper {f fRs fTu fOt : Addr} {fd fdRs fdTu fdOt : FuncData} {k : Nat} {C : Addr} (F : Fun K "ring_paper" "ring_paper" a_ring_paper f fd) (Rs : Kn P w K mg base 3 "rule_sides" ["plan"] (spRs C) fRs fdRs) (Tu : Kn P w K mg base 6 "turning" ["plan", "side"] (spTurn C) fTu fdTu) (Ot : Kn P w K mg base 2 "other_side" ["plan", "side"] (spOth C) fOt fdOt)   : FnOk P w K mg base CX0 (k + 7) f fd ["plan"] (spNon1 C) := by
  refine F.ok sc_ring_paper (fun vs H Q E h => ?_) (fun cdv A outer s H vs Q E hr h => ?_)
  · obtain ⟨x, tops, rs, rfl, _⟩ := h
    rfl
  · obtain ⟨x, tops, rs, rfl, hp, rok, l40, had, q⟩ := h
    refine ⟨_, (pss_cons (ps_for PassesOwn.never rfl (pi_list (pe_kn Rs hr (by omega) (pa_cons (pv 0) pa_nil))) (pg_name (i := 1) sc_ring_paper.nd rfl (.inl rfl))
        (pss_cons (ps_set (i := 2) sc_ring_paper.nd rfl (.inl rfl) (pe_kn Tu hr (by omega) (pa_cons (pv 0) (pa_cons (pv 1) pa_nil))))
      (pss_cons (ps_set (i := 3) sc_ring_paper.nd rfl (.inl rfl) (pe_ifExp (pt_cmpR (op_ne0 hr.units0) (pv 2) (pe_tup pa_nil) (nomark _)) (pe_kn Tu hr (by omega) (pa_cons (pv 0) (pa_cons (pe_kn Ot hr (by omega) (pa_cons (pv 0) (pa_cons (pv 1) pa_nil))) pa_nil))) (pe_tup pa_nil)))
      (pss_one (ps_if (pt_cmpR (op_ne0 hr.units0) (pv 3) (pe_tup pa_nil) (nomark _)) (pss_one (ps_ret (pe_tup (pa_cons pe_str (pa_cons (pv 3) (pa_cons (pv 2) pa_nil)))))) pss_nil)))))
      (pss_one (ps_ret pe_non))), ?_⟩
    obtain ⟨st, hst⟩ := had
    refine ⟨.ref x, rfl, x, tops, rs, rfl, hp, rok, l40, fun H1 l L s1 el hL mL lL => ⟨l, rfl, ⟨_, .inl (.inl el)⟩, ?_⟩⟩
    refine for_it (walk_list (xs := sdR L)) (fun i σ H' => (∃ u1 u2 u3, σ = [some (.ref x), u1, u2, u3]) ∧ Same H1 H') ⟨⟨_, _, _, rfl⟩, Same.refl _⟩ (fun i σ H' _ y => .inl (.inl (y.2 _ _ el))) (fun i v σ H2 H2' hi y z => ?_) (fun σ H2 y => q H2 (s1.trans y.2))
    obtain ⟨⟨u1, u2, u3, rfl⟩, s2⟩ := y
    obtain ⟨rfl, gv⟩ := z
    obtain ⟨zz, ez, rfl⟩ := mapGet gv
    have hz := List.mem_of_getElem? ez
    obtain ⟨hr1, hr2⟩ := (mL zz.2).mp (List.mem_map.mpr ⟨zz, hz, rfl⟩)
    have ok : SideOk tops zz.2 := by
      obtain ⟨q', hq', h⟩ := hr1
      rcases h with e | e
      · rw [e]; exact (rok q' hq').1
      · rw [e]; exact (rok q' hq').2
    obtain ⟨o, eo⟩ := Option.ne_none_iff_exists'.mp hr2
    have s02 := s1.trans s2
    refine ⟨.ref x, rfl, .ref zz.1, rfl, x, zz.1, tops, rs, zz.2, o, rfl, hp.keep (.same s02), rok, l40, (hL zz hz).keep (.same s2), ok, eo, fun H3 c L3 s3 ec hL3 ct lL3 => ?_⟩
    refine ⟨.ref c, rfl, Nat.zero_le _, fun z0 nz0 => ?_⟩
    have sz := same_new (o := HO.tup []) nz0
    have s24 := (s2.trans s3).trans sz
    refine ⟨c, z0, _, rfl, rfl, .inl (.inl (sz _ _ ec)), .inl (.inl upd_same), _, rfl, ?_⟩
    cases hc : (sdR L3).isEmpty with
    | true =>
      refine iteFa rfl ⟨Nat.zero_le _, fun t nt => ?_⟩
      have st' := same_new (o := HO.tup []) nt
      refine ⟨.ref t, rfl, Nat.zero_le _, fun z1 nz1 => ?_⟩
      have s1' := same_new (o := HO.tup []) nz1
      exact ⟨t, z1, [], rfl, rfl, .inl (.inl (s1' _ _ upd_same)), .inl (.inl upd_same), _, rfl, iteFa rfl ⟨⟨_, _, _, rfl⟩, (s24.trans st').trans s1'⟩⟩
    | false =>
      have tn : Tn tops rs zz.2 := (cto_tn ct eo).mp fun e => by
        have e' : L3 = [] := List.map_eq_nil_iff.mp e
        rw [e'] at hc
        cases hc
      have is := tn.in' rok hst ok
      have s14 := s1.trans s24
      refine iteTr rfl ⟨.ref x, rfl, .ref x, rfl, .ref zz.1, rfl, x, zz.1, tops, rs, zz.2, rfl, hp.keep (.same s14), (hL zz hz).keep (.same s24), ok, fun H5 v s5 ho => ?_⟩
      rw [eo] at ho
      obtain ⟨g, rfl, hg⟩ := ho
      have oko := oth_ok ok eo
      obtain ⟨o', eo'⟩ := oth_back ok eo
      refine ⟨x, g, tops, rs, o, o', rfl, hp.keep (.same (s14.trans s5)), rok, l40, hg, oko, eo', fun H6 c6 L6 s6 ec6 hL6 ct6 lL6 => ?_⟩
      have e6 : L6 = [] := by
        by_cases ce : L6.map (·.2) = []
        · exact List.map_eq_nil_iff.mp ce
        · have io := ((cto_tn ct6 eo').mp ce).in' rok hst oko
          rw [oth_in hst ok eo, is] at io
          cases io
      subst e6
      refine ⟨.ref c6, rfl, Nat.zero_le _, fun z1 nz1 => ?_⟩
      have s1' := same_new (o := HO.tup []) nz1
      exact ⟨c6, z1, [], rfl, rfl, .inl (.inl (s1' _ _ ec6)), .inl (.inl upd_same), _, rfl, iteFa rfl ⟨⟨_, _, _, rfl⟩, ((s24.trans s5).trans s6).trans s1'⟩⟩
/-- the paper that a want is barred -/
structure BarAt (H : Hp) (h : Addr) (tops : List Int) (rs : List Rl) (Ls : List (Addr × Sd)) : Prop where
  ex : ∃ (c : Addr) (L : List (Addr × Sd)) (R : List Sd) (s w : Sd), H h = some (.tup [.str "barred", .ref c]) ∧ H c = some (.tup (sdR L)) ∧ SdsAt H L ∧ L.map (·.2) = R.reverse ∧ RCh tops rs (Ls.map (·.2)) R ∧ R.head? = some s ∧ R.length ≤ 280 ∧ Rea tops rs (· ∈ Ls.map (·.2)) s ∧ w ∈ Ls.map (·.2) ∧ barsB tops s w = true
theorem BarAt.same {H H' : Hp} {h : Addr} {tops : List Int} {rs : List Rl} {Ls : List (Addr × Sd)} (b : BarAt H h tops rs Ls) (s : Same H H') : BarAt H' h tops rs Ls := by
  obtain ⟨c, L, R, s', w, e1, e2, e3, e4⟩ := b.ex
  exact ⟨c, L, R, s', w, s _ _ e1, s _ _ e2, e3.keep (.same s), e4⟩
def spNoneG (K : PySem.W.Frag) (C : Addr) : Sp := fun vs H Q _ => ∃ (x g : Addr) (tops : List Int) (rs : List Rl) (Ls : List (Addr × Sd)), vs = [.ref x, .ref g] ∧ Wnt K C H x g tops rs Ls ∧ (∃ st, st ∈ goods tops rs) ∧ (∀ H', Same H H' → Had tops rs Ls → Q .non H') ∧ ∀ H' h, Same H H' → BarAt H' h tops rs Ls → ¬ Had tops rs Ls → Q (.ref h) H'
abbrev a_none_paper : Stmt := topS 41
abbrev n_none_paper : List Str := ["plan", "want", "paper"]
theorem sc_none_paper : FnScope n_none_paper ["plan", "want"] (defScope a_none_paper) := ⟨rfl, rfl, rfl, by decide +kernel, rfl, by decide +kernel, by decide +kernel⟩
set_option maxHeartbeats 8000000 in
theorem ok_none_paper {f fBp fRp : Addr} {fd fdBp fdRp : FuncData} {k : Nat} {C : Addr} (F : Fun K "none_paper" "none_paper" a_none_paper f fd) (Bp : Kn P w K mg base 5 "barred_paper" ["plan", "want"] (spBarG K C) fBp fdBp) (Rp : Kn P w K mg base 7 "ring_paper" ["plan"] (spNon1 C) fRp fdRp)   : FnOk P w K mg base CX0 (k + 8) f fd ["plan", "want"] (spNoneG K C) := by
  refine F.ok sc_none_paper (fun vs H Q E h => ?_) (fun cdv A outer s H vs Q E hr h => ?_)
  · obtain ⟨x, g, tops, rs, Ls, rfl, _⟩ := h
    rfl
  · obtain ⟨x, g, tops, rs, Ls, rfl, W, hs, q0, q1⟩ := h
    refine ⟨_, (pss_cons (ps_set (i := 2) sc_none_paper.nd rfl (.inl rfl) (pe_kn Bp hr (by omega) (pa_cons (pv 0) (pa_cons (pv 1) pa_nil))))
      (pss_cons (ps_if (pt_cmpR op_isN (pv 2) pe_non (nomark _)) (pss_one (ps_set (i := 2) sc_none_paper.nd rfl (.inl rfl) (pe_kn Rp hr (by omega) (pa_cons (pv 0) pa_nil)))) pss_nil)
      (pss_one (ps_ret (pv 2))))), ?_⟩
    obtain ⟨st, hst⟩ := hs
    refine ⟨.ref x, rfl, .ref g, rfl, x, g, tops, rs, Ls, rfl, W, fun H1 s1 nb => ?_, fun H1 h c L R s w s1 eh ec hL eL rc hd lR re hw b => ?_⟩
    · have had : Had tops rs Ls := (some_goodS W.rok W.pl hst W.ok).resolve_right fun ⟨w, z, hw, hz, b⟩ => by
        rw [nb z w hz hw] at b
        cases b
      exact ⟨_, rfl, rfl, _, rfl, iteTr rfl ⟨.ref x, rfl, x, tops, rs, rfl, W.hp.keep (.same s1), W.rok, W.l40, ⟨st, hst⟩, fun H2 s2 => ⟨_, rfl, q0 H2 (s1.trans s2) had⟩⟩⟩
    · exact ⟨_, rfl, rfl, _, rfl, iteFa rfl ⟨_, rfl, q1 H1 h s1 ⟨c, L, R, s, w, eh, ec, hL, eL, rc, hd, lR, re, hw, b⟩ (bar_none W.rok W.ok hw re b)⟩⟩
/-- of wants that are had -/
def spNone (K : PySem.W.Frag) (C : Addr) : Sp := fun vs H Q _ => ∃ (x g : Addr) (tops : List Int) (rs : List Rl) (Ls : List (Addr × Sd)), vs = [.ref x, .ref g] ∧ Wnt K C H x g tops rs Ls ∧ Had tops rs Ls ∧ ∀ H', Same H H' → Q .non H'
theorem none_of {vs : List V} {H : Hp} {Q : VK} {E : XK} {C : Addr} (h : spNone K C vs H Q E) : spNoneG K C vs H Q E := by
  obtain ⟨x, g, tops, rs, Ls, e, W, had, q⟩ := h
  have had' := had
  obtain ⟨st, hst, _⟩ := had'
  exact ⟨x, g, tops, rs, Ls, e, W, ⟨st, hst⟩, fun H' s _ => q H' s, fun H' h s b n => absurd had n⟩
end
end K18

set_option Elab.async false
set_option linter.all false
set_option maxRecDepth 100000
namespace K18
open PySem PySem.Spec PyProof.Rows L2 NB

/-! ### wants had, the nearest that has one, whether a way leads -/
/-- the good standing that has a want and lies between -/
structure Nrst (tops : List Int) (rs : List Rl) (W : List Sd) (st n : List Int) : Prop where
  good : n ∈ goods tops rs
  has : ∀ s ∈ W, inB n s = true
  btw : ∀ g ∈ goods tops rs, (∀ s ∈ W, inB g s = true) → ∀ i, i < tops.length → Btw (plc st i) (plc n i) (plc g i)
theorem Fol.nrst {tops : List Int} {rs : List Rl} (rok : ∀ q ∈ rs, RuleOk tops q) {W : List Sd} (ok : ∀ s, s ∈ W → SideOk tops s) {lows highs st g0 : List Int} (F : Fol tops rs (· ∈ W) lows highs) (hst : st ∈ goods tops rs) (hg0 : g0 ∈ goods tops rs) (i0 : ∀ s ∈ W, inB g0 s = true) : Nrst tops rs W st (pullF lows highs st) := by
  have cr := F.cross rok ok hg0 i0
  obtain ⟨h1, h2⟩ := F.good rok ok cr hst
  refine ⟨h1, fun s hs => h2 s (.base hs), fun g hg ig i hi => ?_⟩
  have sd := F.sound rok ok hg ig hi
  have ls := goods_len hst
  rw [plc_pull (by omega)]
  unfold Btw
  omega
section
variable {P : Program} {w : World} {K : PySem.W.Frag} {mg : Str → Option Value} {base : Heap}
def spNear (K : PySem.W.Frag) (C : Addr) : Sp := fun vs H Q _ => ∃ (x a g : Addr) (tops st : List Int) (rs : List Rl) (Ls : List (Addr × Sd)), vs = [.ref x, .ref a, .ref g] ∧ Wnt K C H x g tops rs Ls ∧ Had tops rs Ls ∧ H a = some (.tup (st.map V.int)) ∧ st ∈ goods tops rs ∧
  ∀ H' p n, Same H H' → H' p = some (.tup (n.map V.int)) → Nrst tops rs (Ls.map (·.2)) st n → Q (.ref p) H'
abbrev a_nearest : Stmt := topS 44
abbrev n_nearest : List Str := ["plan", "standing", "want", "paper"]
theorem sc_nearest : FnScope n_nearest ["plan", "standing", "want"] (defScope a_nearest) := ⟨rfl, rfl, rfl, by decide +kernel, rfl, by decide +kernel, by decide +kernel⟩
set_option maxHeartbeats 8000000 in
theorem ok_nearest {f fNp fPu : Addr} {fd fdNp fdPu : FuncData} {k : Nat} {C : Addr} (F : Fun K "nearest" "nearest" a_nearest f fd) (Np : Kn P w K mg base 8 "none_paper" ["plan", "want"] (spNoneG K C) fNp fdNp) (Pu : Kn P w K mg base 6 "pulled" ["plan", "standing", "want"] (spPull K C) fPu fdPu)   : FnOk P w K mg base CX0 (k + 9) f fd ["plan", "standing", "want"] (spNear K C) := by
  refine F.ok sc_nearest (fun vs H Q E h => ?_) (fun cdv A outer s H vs Q E hr h => ?_)
  · obtain ⟨x, a, g, tops, st, rs, Ls, rfl, _⟩ := h
    rfl
  · obtain ⟨x, a, g, tops, st, rs, Ls, rfl, W, had, ea, hst, q⟩ := h
    refine ⟨_, (pss_cons (ps_set (i := 3) sc_nearest.nd rfl (.inl rfl) (pe_kn Np hr (by omega) (pa_cons (pv 0) (pa_cons (pv 2) pa_nil))))
      (pss_cons (ps_if (pt_cmpR op_notN (pv 3) pe_non (nomark _)) (pss_one (ps_never)) pss_nil)
      (pss_one (ps_ret (pe_kn Pu hr (by omega) (pa_cons (pv 0) (pa_cons (pv 1) (pa_cons (pv 2) pa_nil)))))))), ?_⟩
    have had' := had
    obtain ⟨g0, hg0, i0⟩ := had'
    refine ⟨.ref x, rfl, .ref g, rfl, x, g, tops, rs, Ls, rfl, W, ⟨g0, hg0⟩, fun H1 s1 _ => ?_, fun H1 h s1 b n => absurd had n⟩
    refine ⟨_, rfl, rfl, _, rfl, iteFa rfl ⟨.ref x, rfl, .ref a, rfl, .ref g, rfl, x, a, g, tops, st, rs, Ls, rfl, W.same s1, s1 _ _ ea, goods_len hst, fun H2 p lows highs s2 ep F => q H2 p _ (s1.trans s2) ep (F.nrst W.rok W.ok hst hg0 i0)⟩⟩
end

/-! ### all standings, all good ones -/
/-- a list of standings -/
def LsAt (H : Hp) (ps : List (Addr × List Int)) : Prop := ∀ z ∈ ps, H z.1 = some (.tup (z.2.map V.int))
theorem LsAt.same {H H' : Hp} {ps : List (Addr × List Int)} (h : LsAt H ps) (s : Same H H') : LsAt H' ps := fun z hz => s _ _ (h z hz)
theorem LsAt.keep {H H' : Hp} {ps : List (Addr × List Int)} (h : LsAt H ps) (k : Keep H H') : LsAt H' ps := fun z hz => k.tup (h z hz)
theorem LsAt.app {H : Hp} {ps qs : List (Addr × List Int)} (h : LsAt H ps) (h' : LsAt H qs) : LsAt H (ps ++ qs) := fun z hz => by
  rcases List.mem_append.mp hz with q | q
  · exact h z q
  · exact h' z q
end K18

set_option Elab.async false
set_option linter.all false
set_option maxRecDepth 100000
namespace K18
open PySem PySem.Spec PyProof.Rows L2 NB

/-! ### lists of standings as data -/
theorem Room.u65 {k : Nat} {A : Around} (r : Room k A) : A.units + 65 < cLine := by have := r.un; omega
theorem not_diff {a b : V} (e : a = b) {P Q : Prop} (h : Q) : if (!decide (a = b)) = true then P else Q := by
  rw [decide_eq_true e]
  exact h
def lsD (ps : List (Addr × List Int)) : List PyData := ps.map fun z => .tuple (z.2.map PyData.int)
theorem lsD_dp {K : PySem.W.Frag} {H : Hp} : ∀ {ps : List (Addr × List Int)}, LsAt H ps → DpAll K H (refs ps) (lsD ps)
  | [], _ => .nil
  | z :: ps, h => .cons (dpt (h z List.mem_cons_self)) (lsD_dp fun y hy => h y (List.mem_cons_of_mem _ hy))
theorem lsD_lay : ∀ ps : List (Addr × List Int), PyData.canLayAll0 (lsD ps) = true
  | [] => rfl
  | z :: ps => by
    show PyData.canLayAll0 (PyData.tuple (z.2.map PyData.int) :: lsD ps) = true
    simp only [PyData.canLayAll0, PyData.canLay0, lay_ints, lsD_lay ps, Bool.and_self]
theorem lsD_depth : ∀ ps : List (Addr × List Int), PyData.depthAll (lsD ps) ≤ 1
  | [] => Nat.zero_le _
  | z :: ps => by
    show PyData.depthAll (PyData.tuple (z.2.map PyData.int) :: lsD ps) ≤ 1
    have := lsD_depth ps
    simp only [PyData.depthAll, PyData.depth, depth_ints]
    omega
theorem lsD_shaped (ps : List (Addr × List Int)) : SeqAt.shaped (.list (lsD ps)) = true := by
  have := lsD_depth ps
  unfold SeqAt.shaped
  rw [Bool.and_eq_true, decide_eq_true_eq]
  simp only [PyData.canLay0, lsD_lay, PyData.depth, true_and]
  omega
theorem lsD_in {ps : List (Addr × List Int)} {s : List Int} (h : s ∈ ps.map (·.2)) : ((lsD ps).any fun z => PyData.eqv z (.tuple (s.map PyData.int))) = true := by
  obtain ⟨z, hz, e⟩ := List.mem_map.mp h
  rw [List.any_eq_true]
  refine ⟨.tuple (z.2.map PyData.int), List.mem_map.mpr ⟨z, hz, rfl⟩, ?_⟩
  simp only [PyData.eqv]
  rw [eqv_ints, e, decide_eq_true rfl]
theorem eqv_same (s : List Int) : PyData.eqv (.tuple (s.map PyData.int)) (.tuple (s.map PyData.int)) = true := by
  simp only [PyData.eqv]
  rw [eqv_ints, decide_eq_true rfl]
theorem show_bd {s : List Int} (h : TS.Bd 4 s) (l : s.length ≤ 12) : Showable (.tuple (s.map PyData.int)) :=
  (Small.tuple (SmallAll.ints fun x hx => Nat.lt_of_lt_of_le (show x.natAbs < 4 by have := h x hx; omega) (by decide))).ok (by omega) (by decide)

/-! ### wiped slots -/
theorem wipe_get (σ : L2.St) : ∀ (vs : List Nat) (j : Nat), (wipe σ vs)[j]? = if j ∈ vs then σ[j]?.map (fun _ => none) else σ[j]?
  | [], j => by rw [if_neg List.not_mem_nil]; rfl
  | v :: vs, j => by
    show ((wipe σ vs).set v none)[j]? = _
    rw [List.getElem?_set, wipe_get σ vs j, wipe_length]
    by_cases c : v = j
    · subst c
      rw [if_pos rfl, if_pos List.mem_cons_self]
      by_cases d : v < σ.length
      · rw [if_pos d, List.getElem?_eq_getElem d]
        rfl
      · rw [if_neg d, List.getElem?_eq_none (by omega)]
        rfl
    · rw [if_neg c]
      have : j ∈ v :: vs ↔ j ∈ vs := by rw [List.mem_cons]; exact ⟨fun h => h.elim (fun e => absurd e.symm c) id, .inr⟩
      by_cases d : j ∈ vs
      · rw [if_pos d, if_pos (this.mpr d)]
      · rw [if_neg d, if_neg (fun h => d (this.mp h))]
theorem wipe_any {σ τ : L2.St} {vs : List Nat} (l : τ.length = σ.length) (h : ∀ j, j ∉ vs → τ[j]? = σ[j]?) : wipe τ vs = wipe σ vs := by
  refine List.ext_getElem? fun j => ?_
  rw [wipe_get, wipe_get]
  by_cases d : j ∈ vs
  · rw [if_pos d, if_pos d]
    by_cases e : j < σ.length
    · rw [List.getElem?_eq_getElem e, List.getElem?_eq_getElem (by omega)]
      rfl
    · rw [List.getElem?_eq_none (by omega), List.getElem?_eq_none (by omega)]
  · rw [if_neg d, if_neg d, h j d]

theorem wipe_two {σ : L2.St} {i j : Nat} {a b : Option V} {m n : Str} : wipe (((wipe σ ([(m, i), (n, j)].map (·.2))).set i a).set j b) ([(m, i), (n, j)].map (·.2)) = wipe σ ([(m, i), (n, j)].map (·.2)) := by
  refine wipe_any (by rw [List.length_set, List.length_set, wipe_length]) fun k hk => ?_
  have h1 : i ≠ k := fun e => hk (by simp [e])
  have h2 : j ≠ k := fun e => hk (by simp [e])
  rw [List.getElem?_set_ne h2, List.getElem?_set_ne h1, wipe_get, if_neg hk]
theorem wipe_three {σ : L2.St} {i j l : Nat} {a b c : Option V} {m n o : Str} : wipe ((((wipe σ ([(o, l), (m, i), (n, j)].map (·.2))).set i a).set j b).set l c) ([(o, l), (m, i), (n, j)].map (·.2)) = wipe σ ([(o, l), (m, i), (n, j)].map (·.2)) := by
  refine wipe_any (by rw [List.length_set, List.length_set, List.length_set, wipe_length]) fun k hk => ?_
  have h1 : i ≠ k := fun e => hk (by simp [e])
  have h2 : j ≠ k := fun e => hk (by simp [e])
  have h3 : l ≠ k := fun e => hk (by simp [e])
  rw [List.getElem?_set_ne h3, List.getElem?_set_ne h2, List.getElem?_set_ne h1, wipe_get, if_neg hk]
theorem wipe_seq3 {σ : L2.St} {i j l : Nat} {a b c : Option V} {m n o : Str} : wipe ((((wipe σ ([(m, i), (n, j), (o, l)].map (·.2))).set i a).set j b).set l c) ([(m, i), (n, j), (o, l)].map (·.2)) = wipe σ ([(m, i), (n, j), (o, l)].map (·.2)) := by
  refine wipe_any (by rw [List.length_set, List.length_set, List.length_set, wipe_length]) fun k hk => ?_
  have h1 : i ≠ k := fun e => hk (by simp [e])
  have h2 : j ≠ k := fun e => hk (by simp [e])
  have h3 : l ≠ k := fun e => hk (by simp [e])
  rw [List.getElem?_set_ne h3, List.getElem?_set_ne h2, List.getElem?_set_ne h1, wipe_get, if_neg hk]

/-! ### sides that bar others -/
section
variable {tops : List Int} {rs : List Rl}
theorem bars_to {i : Nat} {l : Int} {z : Sd} (oz : SideOk tops z) (l0 : 0 ≤ l) (b : barsB tops z (i, false, l) = true) : ∃ q, z = (i, true, q) ∧ l < q := by
  obtain ⟨b1, b2⟩ := bars_iff.mp b
  have bd := oz.bd
  obtain ⟨j, c, q⟩ := z
  have e : j = i := b1
  subst e
  have bd' : 0 ≤ q ∧ q ≤ plc tops j := bd
  cases c with
  | true =>
    have b2' : plc tops j < 0 ∨ l < q := b2
    exact ⟨q, rfl, by omega⟩
  | false =>
    have b2' : q < 0 ∨ l < 0 := b2
    omega
theorem bars_from {i : Nat} {l : Int} {z : Sd} (oz : SideOk tops z) (ol : 0 ≤ l ∧ l ≤ plc tops i) (b : barsB tops z (i, true, l) = true) : ∃ q, z = (i, false, q) ∧ q < l := by
  obtain ⟨b1, b2⟩ := bars_iff.mp b
  have bd := oz.bd
  obtain ⟨j, c, q⟩ := z
  have e : j = i := b1
  subst e
  have bd' : 0 ≤ q ∧ q ≤ plc tops j := bd
  cases c with
  | false =>
    have b2' : q < l ∨ plc tops j < 0 := b2
    exact ⟨q, rfl, by omega⟩
  | true =>
    have b2' : plc tops j < l ∨ plc tops j < q := b2
    omega
theorem bar_tf {i : Nat} {p q : Int} (h : p < q) : barsB tops (i, false, p) (i, true, q) = true := bars_iff.mpr ⟨rfl, .inl h⟩
theorem bar_ft {i : Nat} {p q : Int} (h : p < q) : barsB tops (i, true, q) (i, false, p) = true := bars_iff.mpr ⟨rfl, .inr h⟩
end
theorem fol_stand {tops : List Int} {rs : List Rl} {S : Sd → Prop} (rok : ∀ q ∈ rs, RuleOk tops q) {lows highs : List Int} (F : Fol tops rs S lows highs) (e : ∀ i, i < tops.length → plc lows i = plc highs i) : lows ∈ goods tops rs := by
  have ll := F.ll
  refine goods_mem.mpr ⟨⟨ll, fun j hj => ⟨F.lz j hj, by have := F.hz j hj; have := e j hj; omega⟩⟩, fun q hq => ?_⟩
  have key : ∀ {a b : Sd}, SideOk tops a → SideOk tops b → (∀ t, barsB tops t a = true → b ∈ ledL tops rs t) → inB lows a = true ∨ inB lows b = true := fun {a b} oa ob hl => by
    by_cases c : inB lows a = true
    · exact .inl c
    · right
      have lt := oa.lt
      have bd := oa.bd
      have ei := e a.1 lt
      have hb : Rea tops rs S b := by
        obtain ⟨i, w, p⟩ := a
        have lt' : i < tops.length := lt
        have bd' : 0 ≤ p ∧ p ≤ plc tops i := bd
        have ei' : plc lows i = plc highs i := ei
        cases w with
        | true =>
          have c' : ¬ p ≤ plc lows i := fun h => c ((inFr (by omega)).mpr h)
          rcases F.h0 i lt' with h | h
          · omega
          · exact Rea.step h (hl _ (bar_tf (by omega)))
        | false =>
          have c' : ¬ plc lows i ≤ p := fun h => c ((inTo (by omega)).mpr h)
          rcases F.l0 i lt' with h | h
          · omega
          · exact Rea.step h (hl _ (bar_ft (by omega)))
      have lb := ob.lt
      exact F.has (by omega) hb ⟨Int.le_refl _, by have := e b.1 lb; omega⟩
  have ok := rok q hq
  have := key ok.1 ok.2 fun t ht => led_iff.mpr ⟨q, hq, .inl ⟨ht, rfl⟩⟩
  unfold kept
  rcases this with h | h <;> rw [h] <;> simp

/-! ### the law itself -/
theorem std_goods {tops st : List Int} {rs : List Rl} {H : Hp} {o : Addr} (S : Std tops H o st) (k : ∀ q ∈ rs, kept st q = true) : st ∈ goods tops rs := by
  refine goods_mem.mpr ⟨⟨S.len, fun j hj => ?_⟩, k⟩
  have l := S.len
  have hj' : j < st.length := by omega
  refine ⟨?_, S.le j _ _ (by rw [plc_get hj']; exact List.getElem?_eq_getElem hj') (by rw [plc_get hj]; exact List.getElem?_eq_getElem hj)⟩
  rw [plc_get hj']
  exact (S.pl _ (List.getElem_mem hj')).1
end K18

set_option Elab.async false
set_option linter.all false
set_option maxRecDepth 100000
namespace K18
open PySem PySem.Spec PyProof.Rows L2 NB

/-! ### chains looked at -/
theorem walk_zipS {K : PySem.W.Frag} {a b : Addr} {xs ys : List V} (h2 : ys.length ≤ xs.length) :
    Walk (RZ.ItzT K a b) ys.length (fun H => SqT K H a xs ∧ SqT K H b ys) (YPair (fun i => xs[i]?) (fun i => ys[i]?)) := by
  refine ⟨fun i _ hi q => ?_, fun _ q => ⟨xs, ys, q.1, q.2, .inr (Nat.le_refl _)⟩, fun i H v H' _ q y => ?_⟩
  · exact ⟨xs, ys, xs[i]'(by omega), ys[i], q.1, q.2, List.getElem?_eq_getElem (by omega), List.getElem?_eq_getElem hi⟩
  · obtain ⟨T, x, u, e1, e2, e3, f1, f2⟩ := y
    exact ⟨T, x, u, e1, e2, e3, f1 xs q.1, f2 ys q.2⟩
def ldsB (tops : List Int) (rs : List Rl) (a b : Sd) : Bool := withinB tops a b || decide (b ∈ ledL tops rs a)
def chB (tops : List Int) (rs : List Rl) (l : List Sd) : Bool := (l.zip l.tail).all fun p => ldsB tops rs p.1 p.2
theorem chB_cons {tops : List Int} {rs : List Rl} {a b : Sd} {l : List Sd} : chB tops rs (a :: b :: l) = (ldsB tops rs a b && chB tops rs (b :: l)) := rfl
theorem chB_snoc {tops : List Int} {rs : List Rl} {a b : Sd} : ∀ {l : List Sd}, chB tops rs (l ++ [a]) = true → ldsB tops rs a b = true → chB tops rs (l ++ [a] ++ [b]) = true
  | [], _, h => by
    show chB tops rs [a, b] = true
    rw [chB_cons, h]
    rfl
  | [c], h, h' => by
    have h1 : chB tops rs [c, a] = true := h
    rw [chB_cons, Bool.and_eq_true] at h1
    show chB tops rs [c, a, b] = true
    rw [chB_cons, chB_cons, h1.1, h']
    rfl
  | c :: d :: l, h, h' => by
    have h1 : chB tops rs (c :: d :: (l ++ [a])) = true := h
    rw [chB_cons, Bool.and_eq_true] at h1
    show chB tops rs (c :: d :: (l ++ [a] ++ [b])) = true
    rw [chB_cons, Bool.and_eq_true]
    exact ⟨h1.1, chB_snoc (l := d :: l) h1.2 h'⟩
theorem RCh.chain {tops : List Int} {rs : List Rl} {S : List Sd} : ∀ {R : List Sd}, RCh tops rs S R → chB tops rs R.reverse = true ∧ (∃ s ∈ S, R.reverse.head? = some s) ∧ R ≠ []
  | _, .one hs => ⟨rfl, ⟨_, hs, rfl⟩, List.cons_ne_nil _ _⟩
  | _, .cons (a := a) (b := b) (t := t) h m => by
    obtain ⟨h1, ⟨s, hs, h2⟩, _⟩ := RCh.chain h
    have e : (a :: t).reverse = t.reverse ++ [a] := List.reverse_cons
    refine ⟨?_, ⟨s, hs, ?_⟩, List.cons_ne_nil _ _⟩
    · rw [List.reverse_cons, e]
      rw [e] at h1
      exact chB_snoc h1 (by unfold ldsB; rw [decide_eq_true m, Bool.or_true])
    · rw [List.reverse_cons, List.head?_append, h2]
      rfl
/-- what chain_to tells, where a chain leads there -/
theorem CTo.chain {tops : List Int} {rs : List Rl} {S : List Sd} {s : Sd} {cs : List Sd} (h : CTo tops rs S s cs) (ne : ∃ z, Rea tops rs (· ∈ S) z ∧ withinB tops z s = true) : chB tops rs cs = true ∧ (∃ w ∈ S, cs.head? = some w) ∧ cs.getLast? = some s := by
  rcases h with ⟨_, h⟩ | ⟨R, z, rc, hd, wi, _, h⟩
  · obtain ⟨z, hz, w⟩ := ne
    rw [h z hz] at w
    cases w
  · obtain ⟨h1, ⟨w, hw, h2⟩, ne⟩ := rc.chain
    rcases h with ⟨rfl, rfl⟩ | ⟨_, rfl⟩
    · refine ⟨h1, ⟨w, hw, h2⟩, ?_⟩
      rw [List.getLast?_reverse]
      exact hd
    · obtain ⟨a, t, rfl⟩ := List.exists_cons_of_ne_nil ne
      cases (Option.some.inj hd : a = z)
      refine ⟨?_, ⟨w, hw, by rw [List.head?_append, h2]; rfl⟩, List.getLast?_concat⟩
      rw [List.reverse_cons] at h1 ⊢
      exact chB_snoc h1 (by unfold ldsB; rw [wi, Bool.true_or])
def sdsD (L : List (Addr × Sd)) : List PyData := L.map fun z => sdD z.2
theorem dp_sds {K : PySem.W.Frag} {H : Hp} : ∀ {L : List (Addr × Sd)}, SdsAt H L → DpAll K H (sdR L) (sdsD L)
  | [], _ => .nil
  | z :: L, h => .cons (dp_sd (h z List.mem_cons_self)) (dp_sds fun y hy => h y (List.mem_cons_of_mem _ hy))
theorem sds_any (L : List (Addr × Sd)) (s : Sd) : ((sdsD L).any fun z => PyData.eqv z (sdD s)) = decide (s ∈ L.map (·.2)) := by
  rw [Bool.eq_iff_iff, List.any_eq_true, decide_eq_true_eq]
  constructor
  · rintro ⟨d, hd, e⟩
    obtain ⟨z, hz, rfl⟩ := List.mem_map.mp hd
    rw [eqv_sd] at e
    rw [← of_decide_eq_true e]
    exact List.mem_map.mpr ⟨z, hz, rfl⟩
  · intro h
    obtain ⟨z, hz, e⟩ := List.mem_map.mp h
    exact ⟨_, List.mem_map.mpr ⟨z, hz, rfl⟩, by rw [eqv_sd]; exact decide_eq_true e⟩
theorem sds_lay : ∀ L : List (Addr × Sd), PyData.canLayAll0 (sdsD L) = true ∧ PyData.depthAll (sdsD L) ≤ 1
  | [] => ⟨rfl, Nat.zero_le _⟩
  | z :: L => by
    obtain ⟨h1, h2⟩ := sds_lay L
    have a : PyData.canLay0 (sdD z.2) = true ∧ PyData.depth (sdD z.2) ≤ 1 := by
      have w : ∀ b, PyData.strOk (word b) = true := fun b => by cases b <;> decide +kernel
      unfold sdD
      refine ⟨by simp only [PyData.canLayAll0, PyData.canLay0, w, Bool.and_self], by simp [PyData.depthAll, PyData.depth]⟩
    show PyData.canLayAll0 (sdD z.2 :: sdsD L) = true ∧ PyData.depthAll (sdD z.2 :: sdsD L) ≤ 1
    simp only [PyData.canLayAll0, PyData.depthAll, a.1, h1, Bool.and_self, true_and]
    omega
theorem shaped_sdsL (L : List (Addr × Sd)) : SeqAt.shaped (.list (sdsD L)) = true := by
  obtain ⟨h1, h2⟩ := sds_lay L
  unfold SeqAt.shaped
  rw [Bool.and_eq_true, decide_eq_true_eq]
  simp only [PyData.canLay0, h1, PyData.depth, true_and]
  omega
theorem shaped_sdsT (L : List (Addr × Sd)) : SeqAt.shaped (.tuple (sdsD L)) = true := by
  obtain ⟨h1, h2⟩ := sds_lay L
  unfold SeqAt.shaped
  rw [Bool.and_eq_true, decide_eq_true_eq]
  simp only [PyData.canLay0, h1, PyData.depth, true_and]
  omega
theorem ledL_len (tops : List Int) (rs : List Rl) (s : Sd) : (ledL tops rs s).length ≤ 2 * rs.length := led_len tops s rs
section
variable {P : Program} {w : World} {K : PySem.W.Frag} {mg : Str → Option Value} {base : Heap}
def spSidesL (K : PySem.W.Frag) : Sp := fun vs H Q _ => ∃ (t r : Addr) (tops : List Int) (as : List Addr), vs = [.ref t, .ref r] ∧ H t = some (.tup (tops.map V.int)) ∧ H r = some (.tup (as.map V.ref)) ∧ as.length ≤ 900 ∧ (∀ p ∈ as, ∃ sd, SideAt H p sd ∧ SideOk tops sd) ∧ ∀ H', Same H H' → Q (.bl true) H'
abbrev a_are_sides_of : Stmt := topS 13
abbrev n_are_sides_of : List Str := ["tops", "thing", "side"]
theorem sc_are_sides_of : FnScope n_are_sides_of ["tops", "thing"] (defScope a_are_sides_of) := ⟨rfl, rfl, rfl, by decide +kernel, rfl, by decide +kernel, by decide +kernel⟩
set_option maxHeartbeats 8000000 in
theorem ok_are_sides_of {f fSi : Addr} {fd fdSi : FuncData} {k : Nat}  (F : Fun K "are_sides_of" "are_sides_of" a_are_sides_of f fd) (Si : Kn P w K mg base 3 "is_side_of" ["tops", "thing"] (spSide K) fSi fdSi)  (m_all : mg "all" = none) (m_isinstance : mg "isinstance" = none) (m_tuple : mg "tuple" = none) : FnOk P w K mg base CX0 (k + 4) f fd ["tops", "thing"] (spSidesL K) := by
  refine F.ok sc_are_sides_of (fun vs H Q E h => ?_) (fun cdv A outer s H vs Q E hr h => ?_)
  · obtain ⟨t, r, tops, as, rfl, _⟩ := h
    rfl
  · obtain ⟨t, r, tops, as, rfl, et, er, l, ok, q⟩ := h
    refine ⟨_, (pss_one (ps_ret (pe_and (pe_callB call_isi (by rfl) m_isinstance (by decide +kernel) (pa_cons (pv 1) (pa_cons (pe_bltn (v := .ty "tuple") (u := .type "tuple") (by rfl) m_tuple (by decide +kernel) rfl) pa_nil))) (pe_one (pe_callB (cr_all rfl) (by rfl) m_all (by decide +kernel) (pa_cons (
        pe_lc (own := [("side", 2)]) (g := (gName 2)) (tt := tYes) (te := (tCall (spSide K) [] E0 (tCons (tVar 0) (tCons (tVar 2) tNil)))) rfl sc_are_sides_of.nd (pi_tup (pv 1)) (blkOk_by (N := n_are_sides_of) (sc := defScope a_are_sides_of) (by decide +kernel))
          (fun _ _ _ _ _ => (pg_name (i := 2) sc_are_sides_of.nd rfl (.inl rfl) (hf := .inr rfl))) (fun _ _ _ _ _ => pts_nil) (fun _ _ _ _ _ => (pe_kn Si hr (by omega) (pa_cons (pv 0) (pa_cons (pv 2) pa_nil))))) pa_nil)))))), ?_⟩
    refine ⟨.ref r, rfl, _, _, _, _, true, rfl, .ty "tuple", .base (.tup er), kit_ty (by decide +kernel), true, rfl, iteT ?_⟩
    refine ⟨.ref r, rfl, r, rfl, ⟨_, .inl (.inl er)⟩, fun D nD => lc_it (walk_tup (xs := as.map V.ref)) (fun i H' => Same H H' ∧ H' D = some (.lst ((List.replicate i true).map V.bl))) ⟨same_new nD, upd_same⟩ (fun i H' _ p => .inl (.inl (p.1 _ _ er))) (fun i v H1 H2 hi p y => ?_) (fun H' p => ?_)⟩
    · obtain ⟨sm, eD⟩ := p
      obtain ⟨rfl, gv⟩ := y
      obtain ⟨x, ex, rfl⟩ := mapGet gv
      have hi' : i < as.length := by simpa using hi
      obtain ⟨sd, a1, a2⟩ := ok x (List.mem_of_getElem? ex)
      refine ⟨rfl, .ref t, rfl, .ref x, rfl, t, x, tops, sd, rfl, sm _ _ et, a1.keep (.same sm), a2, _, eD, by rw [List.length_map, List.length_replicate]; exact small1000 (by omega), same_over sm nD, ?_⟩
      rw [upd_same, more_true]
    · obtain ⟨sm, eD⟩ := p
      refine ⟨D, _, rfl, .inl (.inl eD), ?_⟩
      rw [all_true]
      exact q H' sm
def spLeads (C : Addr) : Sp := fun vs H Q _ => ∃ (x p r : Addr) (tops : List Int) (rs : List Rl) (a b : Sd), vs = [.ref x, .ref p, .ref r] ∧ PlanAt C H x tops rs ∧ SideAt H p a ∧ SideAt H r b ∧ SideOk tops a ∧ SideOk tops b ∧ (∀ q ∈ rs, RuleOk tops q) ∧ rs.length ≤ 40 ∧
  ∀ H', Same H H' → Q (.bl (ldsB tops rs a b)) H'
abbrev a_leads : Stmt := topS 22
abbrev n_leads : List Str := ["plan", "one", "other"]
theorem sc_leads : FnScope n_leads ["plan", "one", "other"] (defScope a_leads) := ⟨rfl, rfl, rfl, by decide +kernel, rfl, by decide +kernel, by decide +kernel⟩
set_option maxHeartbeats 8000000 in
theorem ok_leads {f fWi fLr : Addr} {fd fdWi fdLr : FuncData} {k : Nat} {C : Addr} (F : Fun K "leads" "leads" a_leads f fd) (Wi : Kn P w K mg base 2 "is_within" ["plan", "one", "other"] (spTwo C withinB) fWi fdWi) (Lr : Kn P w K mg base 3 "led_by_rules" ["plan", "side"] (spLed C) fLr fdLr)   : FnOk P w K mg base CX0 (k + 4) f fd ["plan", "one", "other"] (spLeads C) := by
  refine F.ok sc_leads (fun vs H Q E h => ?_) (fun cdv A outer s H vs Q E hr h => ?_)
  · obtain ⟨x, p, r, tops, rs, a, b, rfl, _⟩ := h
    rfl
  · obtain ⟨x, p, r, tops, rs, a, b, rfl, hp, hs, ht, oa, ob, rok, l40, q⟩ := h
    refine ⟨_, (pss_one (ps_ret (pe_or (pe_kn Wi hr (by omega) (pa_cons (pv 0) (pa_cons (pv 1) (pa_cons (pv 2) pa_nil)))) (pe_one (pe_cmpR (op_inD (Room.u65 hr)) (pv 2) (pe_kn Lr hr (by omega) (pa_cons (pv 0) (pa_cons (pv 1) pa_nil))) (by rfl)))))), ?_⟩
    refine ⟨.ref x, rfl, .ref p, rfl, .ref r, rfl, x, p, r, tops, rs, a, b, rfl, hp, hs, ht, oa, ob, fun H1 s1 => ⟨_, rfl, ?_⟩⟩
    cases c : withinB tops a b with
    | true =>
      refine iteT ?_
      have e : ldsB tops rs a b = true := by
        unfold ldsB
        rw [c, Bool.true_or]
      rw [← e]
      exact q H1 s1
    | false =>
      refine iteF ⟨.ref r, rfl, .ref x, rfl, .ref p, rfl, x, p, tops, rs, a, rfl, hp.keep (.same s1), hs.keep (.same s1), oa, rok, l40, fun H2 l L s2 nl el hL eL => ?_⟩
      refine ⟨_, _, dp_sd (ht.keep (.same (s1.trans s2))), .lst (.inl (.inl el)) (dp_sds hL), shaped_sd _, shaped_sdsL _, ?_⟩
      rw [sds_any, eL]
      have e : ldsB tops rs a b = decide (b ∈ ledL tops rs a) := by
        unfold ldsB
        rw [c, Bool.false_or]
      rw [← e]
      exact q H2 (s1.trans s2)
def spChn (K : PySem.W.Frag) (C : Addr) : Sp := fun vs H Q _ => ∃ (x c : Addr) (tops : List Int) (rs : List Rl) (L : List (Addr × Sd)), vs = [.ref x, .ref c] ∧ PlanAt C H x tops rs ∧ H c = some (.tup (sdR L)) ∧ SdsAt H L ∧ (∀ z ∈ L, SideOk tops z.2) ∧ (∀ q ∈ rs, RuleOk tops q) ∧ rs.length ≤ 40 ∧ L.length ≤ 400 ∧
  ∀ H', Same H H' → Q (.bl (!L.isEmpty && chB tops rs (L.map (·.2)))) H'
theorem cut_one {K : PySem.W.Frag} {H : Hp} {p : Addr} {xs : List V} {Q : VK} (e : SqT K H p xs) (h : 1 ≤ xs.length) (q : ∀ g H', Same H H' → H' g = some (.tup (xs.drop 1)) → Q (.ref g) H') : rSlA K (.ref p) (some 1) none H Q := by
  have e1 : HT.sIx xs.length 0 (some (1 : Int)) = 1 := by
    have := HT.sIx_nat xs.length 0 1
    have e : ((1 : Nat) : Int) = 1 := rfl
    rw [e] at this
    omega
  refine ⟨p, _, rfl, e, fun w => by rw [e1] at w; omega, fun _ g ng => q g _ (same_new ng) ?_⟩
  rw [upd_same]
  unfold cutV
  rw [e1, HT.sIx_none, List.take_of_length_le (by rw [List.length_drop]; exact Nat.le_refl _)]
abbrev a_is_chain : Stmt := topS 23
abbrev n_is_chain : List Str := ["plan", "thing", "one", "other"]
theorem sc_is_chain : FnScope n_is_chain ["plan", "thing"] (defScope a_is_chain) := ⟨rfl, rfl, rfl, by decide +kernel, rfl, by decide +kernel, by decide +kernel⟩
set_option maxHeartbeats 8000000 in
theorem ok_is_chain {f fSs fLd : Addr} {fd fdSs fdLd : FuncData} {k : Nat} {C : Addr} (F : Fun K "is_chain" "is_chain" a_is_chain f fd) (Ss : Kn P w K mg base 4 "are_sides_of" ["tops", "thing"] (spSidesL K) fSs fdSs) (Ld : Kn P w K mg base 4 "leads" ["plan", "one", "other"] (spLeads C) fLd fdLd) (T : PlanTxt K mg C) (m_zip : mg "zip" = none) (m_all : mg "all" = none) (m_zip : mg "zip" = none) : FnOk P w K mg base CX0 (k + 5) f fd ["plan", "thing"] (spChn K C) := by
  refine F.ok sc_is_chain (fun vs H Q E h => ?_) (fun cdv A outer s H vs Q E hr h => ?_)
  · obtain ⟨x, c, tops, rs, L, rfl, _⟩ := h
    rfl
  · obtain ⟨x, c, tops, rs, L, rfl, hp, ec, hL, okL, rok, l40, l400, q⟩ := h
    refine ⟨_, (pss_cons (ps_if (PW.pt (pw_or (pt_not (pt_val (pe_kn Ss hr (by omega) (pa_cons (pe_fld (pv 0) rfl) (pa_cons (pv 1) pa_nil))))) (pw_or1 (pt_cmpR (op_eq0 hr.units0) (pv 1) (pe_tup pa_nil) (nomark _))))) (pss_one (ps_ret pe_bl)) pss_nil)
      (pss_one (ps_ret (pe_callB (cr_all rfl) (by rfl) m_all (by decide +kernel) (pa_cons (
        pe_lc (own := [("one", 2), ("other", 3)]) (g := (gTup K 2 (gCons (gName 2) (gCons (gName 3) gNil)))) (tt := tYes) (te := (tCall (spLeads C) [] E0 (tCons (tVar 0) (tCons (tVar 2) (tCons (tVar 3) tNil))))) rfl sc_is_chain.nd (RZ.pi_zipA (by rfl) m_zip (pa_cons (pv 1) (pa_cons (pe_slice (r := rSlA K) sl_tupA (pv 1) (po_some pe_int) po_none) pa_nil))) (blkOk_by (N := n_is_chain) (sc := defScope a_is_chain) (by decide +kernel))
          (fun _ _ _ _ _ => (pg_tup rfl (pgs_cons (pg_name (i := 2) sc_is_chain.nd rfl (.inl rfl) (hf := .inr rfl)) (pgs_cons (pg_name (i := 3) sc_is_chain.nd rfl (.inl rfl) (hf := .inr rfl)) pgs_nil)))) (fun _ _ _ _ _ => pts_nil) (fun _ _ _ _ _ => (pe_kn Ld hr (by omega) (pa_cons (pv 0) (pa_cons (pv 2) (pa_cons (pv 3) pa_nil)))))) pa_nil))))), ?_⟩
    obtain ⟨dx, t, R, ex, et, hR⟩ := id hp
    have eas : sdR L = (L.map (·.1)).map V.ref := by
      rw [List.map_map]
      rfl
    refine ⟨.ref x, rfl, x, C, dx, _, _, rfl, ex, T.cl, T.nT, look_tops _ _, .ref c, rfl, t, c, tops, L.map (·.1), rfl, et, by rw [← eas]; exact ec, by rw [List.length_map]; omega, fun p hp' => ?_, fun H1 s1 => ⟨_, rfl, iteF ?_⟩⟩
    · obtain ⟨z, hz, rfl⟩ := List.mem_map.mp hp'
      exact ⟨z.2, hL z hz, okL z hz⟩
    have ec1 : SqT K H1 c _ := .inl (.inl (s1 _ _ ec))
    refine ⟨.ref c, rfl, Nat.zero_le _, fun e ne => ⟨c, e, _, rfl, rfl, sameT (same_new ne) ec1, .inl (.inl upd_same), _, rfl, ?_⟩⟩
    have se := same_new (o := HO.tup []) ne
    have s2 := s1.trans se
    cases L with
    | nil => exact iteT (q _ s2)
    | cons z0 L0 =>
      refine iteF ?_
      have ec2 := sameT se ec1
      generalize upd H1 e (.tup []) = H2 at s2 ec2 ⊢
      refine ⟨.ref c, rfl, .ref c, rfl, ?_⟩
      refine ⟨1, rfl, ?_⟩
      show tNoPart _ _ _
      unfold tNoPart
      refine cut_one ec2 (by show 1 ≤ _ + 1; omega) fun g H3 s3 eg => ?_
      have eg' : H3 g = some (.tup (sdR L0)) := eg
      have ec3 := sameT s3 ec2
      have hp3 := hp.keep (.same (s2.trans s3))
      have hL3 := hL.keep (.same (s2.trans s3))
      have ll : (sdR L0).length ≤ (sdR (z0 :: L0)).length := by
        show (L0.map fun z => V.ref z.1).length ≤ ((z0 :: L0).map fun z => V.ref z.1).length
        rw [List.length_map, List.length_map, List.length_cons]
        omega
      refine ⟨c, g, _, _, rfl, .inr ⟨ec3, .inl (.inl eg'), fun D nD => lc_it (walk_zipS (xs := sdR (z0 :: L0)) (ys := sdR L0) ll) (fun i H' => Same H3 H' ∧ H' D = some (.lst ((((((z0 :: L0).map (·.2)).zip (L0.map (·.2))).take i).map fun p => ldsB tops rs p.1 p.2).map V.bl))) ⟨same_new nD, upd_same⟩ (fun i H' _ y => ⟨sameT y.1 ec3, .inl (.inl (y.1 _ _ eg'))⟩) (fun i v H4 H5 hi y z => ?_) (fun H4 y => ?_)⟩⟩
      · obtain ⟨s4, eD⟩ := y
        obtain ⟨T', v1, v2, rfl, nT, rfl, g1, g2⟩ := z
        obtain ⟨a, ea, rfl⟩ := mapGet g1
        obtain ⟨b, eb, rfl⟩ := mapGet g2
        have sT := same_new (o := HO.tup [V.ref a.1, V.ref b.1]) nT
        have s34 := s4.trans sT
        have ma := List.mem_of_getElem? ea
        have mb : b ∈ z0 :: L0 := List.mem_cons_of_mem _ (List.mem_of_getElem? eb)
        have hi' : i < L0.length := (List.getElem?_eq_some_iff.mp eb).1
        have ez : (((z0 :: L0).map (·.2)).zip (L0.map (·.2)))[i]? = some (a.2, b.2) := by
          rw [List.getElem?_zip_eq_some]
          exact ⟨by rw [List.getElem?_map, ea]; rfl, by rw [List.getElem?_map, eb]; rfl⟩
        refine ⟨T', _, rfl, .inl (.inl upd_same), rfl, _, _, rfl, _, _, rfl, rfl, wipe_two, .ref x, rfl, .ref a.1, rfl, .ref b.1, rfl, x, a.1, b.1, tops, rs, a.2, b.2, rfl, hp3.keep (.same s34), (hL3 a ma).keep (.same s34), (hL3 b mb).keep (.same s34), okL a ma, okL b mb, rok, l40, fun H6 s6 => ?_⟩
        refine ⟨_, (sT.trans s6) _ _ eD, ?_, same_over (s34.trans s6) nD, ?_⟩
        · rw [List.length_map, List.length_map, List.length_take]
          have : (z0 :: L0).length ≤ 400 := l400
          rw [List.length_cons] at this
          exact small1000 (by omega)
        · rw [upd_same, List.take_add_one, ez, List.map_append, List.map_append]
          rfl
      · obtain ⟨s4, eD⟩ := y
        have lz : (((z0 :: L0).map (·.2)).zip (L0.map (·.2))).length = (sdR L0).length := by
          rw [List.length_zip, List.length_map, List.length_map, List.length_map, List.length_cons]
          omega
        rw [← lz, List.take_length] at eD
        refine ⟨D, _, rfl, .inl (.inl eD), ?_⟩
        have e : (((((z0 :: L0).map (·.2)).zip (L0.map (·.2))).map fun p => ldsB tops rs p.1 p.2).all id) = (!(z0 :: L0).isEmpty && chB tops rs ((z0 :: L0).map (·.2))) := by
          rw [List.all_map]
          rfl
        rw [e]
        exact q _ ((s2.trans s3).trans s4)
end
end K18

set_option Elab.async false
set_option linter.all false
set_option maxRecDepth 100000
set_option maxHeartbeats 1000000
/-! enumerate of a zip of two tuples. -/
namespace NB
open PySem PySem.Spec PyProof.Rows L2
open PySem.Sem (wp)

section
variable {prog : Program} {w : World} {A : Around} {E : Value → Shared → Prop} {s : Shared} {z ti to i1 i2 l1 l2 : Addr} {a a1 a2 : Value} {f : Bool} {xs ys : Array Value} {i : Nat}
abbrev St2z (h : Heap) (i1 i2 l1 l2 : Addr) (xs ys : Array Value) (i : Nat) : Prop :=
  (h.IsTupleIter i1 l1 i ∧ h.IsTuple l1 xs) ∧ (h.IsTupleIter i2 l2 i ∧ h.IsTuple l2 ys)
structure Far2z (z ti to i1 i2 l1 l2 : Addr) : Prop where
  tiz : ti ≠ z
  toz : to ≠ z
  tito : ti ≠ to
  ti1 : ti ≠ i1
  ti2 : ti ≠ i2
  to1 : to ≠ i1
  to2 : to ≠ i2
  z1 : i1 ≠ z
  z2 : i2 ≠ z
  n12 : i1 ≠ i2
  l1n : l1 ≠ z ∧ l1 ≠ to ∧ l1 ≠ i1 ∧ l1 ≠ i2
  l2n : l2 ≠ z ∧ l2 ≠ to ∧ l2 ≠ i1 ∧ l2 ≠ i2
theorem next2z {x1 x2 : Value} {Q : Value → Shared → Prop} (D : Far2z z ti to i1 i2 l1 l2) (ho : Out a) (hz : Zat s.heap z ti to a (.bool f))
    (hI : IsTupOf2 s.heap ti (.ref i1) (.ref i2)) (hO : IsTupOf2 s.heap to a1 a2) (st : St2z s.heap i1 i2 l1 l2 xs ys i)
    (hx : xs[i]? = some x1) (hy : ys[i]? = some x2)
    (hQ : ∀ (h' : Heap) (a' : Value) (g : Bool) (b1 b2 : Value), Out a' → Zat h' z ti to a' (.bool g) → IsTupOf2 h' to b1 b2 → St2z h' i1 i2 l1 l2 xs ys (i + 1) → IsTupOf2 h' s.heap.objs.size x1 x2 → h'.objs.size = s.heap.objs.size + 1 →
      (∀ c o, c ≠ z → c ≠ to → c ≠ i1 → c ≠ i2 → s.heap.get? c = some o → h'.get? c = some o) → Q (.ref s.heap.objs.size) { s with heap := h' }) :
    wpAny (model prog w) A (Builtin.«zip.__next__» ⟨[.ref z], []⟩) (fun fin s' => ∃ v, fin = .done (.ret v) ∧ Q v s') E s := by
  obtain ⟨hp, gg, dd, tk, os⟩ := s
  show wpAny _ _ (field (.ref z) 2 >>= _) _ _ _
  refine wpAny_bind (wpAny_field hz rfl (x := .bool false) rfl ?_)
  show wpAny _ _ (field (.ref z) 3 >>= _) _ _ _
  refine wpAny_bind (wpAny_field hz rfl (x := .ref ti) rfl ?_)
  refine wpAny_bind (wpAny_seqItems hI rfl ?_)
  show wpAny _ _ (Builtin.SmallTypes.ownedTupleIsFree (.ref z) >>= _) _ _ _
  refine wpAny_bind (freeOr ho hz fun b h1 f1 hz1 hs1 => ?_)
  replace hs1 : Heap.SameBut z hp h1 := hs1
  obtain ⟨sa, sb⟩ := st
  have sa1 := keepIt sa hs1 D.z1 D.l1n.1
  have sb1 := keepIt sb hs1 D.z2 D.l2n.1
  have hO1 : IsTupOf2 h1 to a1 a2 := hs1.extBut _ _ D.toz hO
  cases b with
  | false =>
    simp only [Bool.false_eq_true, if_false]
    refine wpAny_bind ?_
    rw [← Array.forIn_toList]
    simp only [List.forIn_cons, List.forIn_nil]
    refine wpAny_bind (wpAny_bind (wpAny_holding ?_))
    show wpAny _ _ (Builtin.SmallTypes.nextOf (.ref i1) >>= _) _ _ ⟨h1, gg, dd, tk, os⟩
    refine wpAny_bind (drawT (s := ⟨h1, gg, dd, tk, os⟩) sa1 D.l1n.2.2.1 hx fun h2 sa2 hs2 => wpAny_pure (wpAny_pure ?_))
    replace hs2 : Heap.SameBut i1 h1 h2 := hs2
    have sb2 := keepIt sb1 hs2 D.n12.symm D.l2n.2.2.1
    refine wpAny_bind (wpAny_bind (wpAny_holding ?_))
    show wpAny _ _ (Builtin.SmallTypes.nextOf (.ref i2) >>= _) _ _ ⟨h2, gg, dd, tk, os⟩
    refine wpAny_bind (drawT (s := ⟨h2, gg, dd, tk, os⟩) sb2 D.l2n.2.2.2 hy fun h3 sb3 hs3 => wpAny_pure (wpAny_pure (wpAny_pure ?_)))
    replace hs3 : Heap.SameBut i2 h2 h3 := hs3
    have sa3 := keepIt sa2 hs3 D.n12 D.l1n.2.2.2
    show wpAny _ _ (newTuple [x1, x2] >>= _) _ _ ⟨h3, gg, dd, tk, os⟩
    refine wpAny_bind (wpAny_newTuple (wpAny_pure ⟨_, rfl, ?_⟩))
    have sz : h3.objs.size = hp.objs.size := by rw [hs3.1, hs2.1, hs1.1]
    have kk : ∀ c o, c ≠ z → c ≠ i1 → c ≠ i2 → hp.get? c = some o → h3.get? c = some o := fun c o c0 c1 c2 e =>
      hs3.extBut _ _ c2 (hs2.extBut _ _ c1 (hs1.extBut _ _ c0 e))
    have hz3 : Zat h3 z ti to a (.bool f1) := hs3.extBut _ _ D.z2.symm (hs2.extBut _ _ D.z1.symm hz1)
    have hO3 : IsTupOf2 h3 to a1 a2 := kk _ _ D.toz D.to1 D.to2 hO
    have up : ∀ c o, h3.get? c = some o → (h3.push { cls := .type "tuple", data := .seq #[x1, x2] }).get? c = some o := fun c o e => Heap.get?_push_of_some _ e
    have nw : IsTupOf2 (h3.push { cls := .type "tuple", data := .seq #[x1, x2] }) h3.objs.size x1 x2 := Heap.get?_push_size _ rfl
    have zw : (h3.push { cls := .type "tuple", data := .seq #[x1, x2] }).objs.size = h3.objs.size + 1 := Heap.size_push ..
    show Q (.ref h3.objs.size) _
    rw [sz] at nw zw ⊢
    exact hQ _ a f1 a1 a2 ho (up _ _ hz3) (up _ _ hO3)
      ⟨⟨sa3.1.at fun o e => up _ o e, sa3.2.push _⟩, ⟨sb3.1.at fun o e => up _ o e, sb3.2.push _⟩⟩ nw zw
      fun c o c0 _ c1 c2 e => up c o (kk c o c0 c1 c2 e)
  | true =>
    simp only [if_true]
    refine wpAny_bind (wpAny_rule ?_)
    refine wpAny_bind (wpAny_field (s := ⟨h1, gg, dd, tk, os⟩) hz1 rfl (x := .ref to) rfl ?_)
    refine wpAny_bind (wpAny_setField_rec (s := ⟨h1, gg, dd, tk, os⟩) hz1 (by simp) fun g0 z0 s0 => ?_)
    replace z0 : Zat g0 z ti to .ellipsis (.bool f1) := z0
    replace s0 : Heap.SameBut z h1 g0 := s0
    have ta0 := keepIt sa1 s0 D.z1 D.l1n.1
    have tb0 := keepIt sb1 s0 D.z2 D.l2n.1
    have o0 : IsTupOf2 g0 to a1 a2 := s0.extBut _ _ D.toz hO1
    refine wpAny_bind ?_
    simp only [List.zipIdx_cons, List.zipIdx_nil, List.forIn_cons, List.forIn_nil]
    refine wpAny_bind (wpAny_bind (wpAny_onRaise ?_))
    show wpAny _ _ (Builtin.SmallTypes.nextOf (.ref i1) >>= _) _ _ ⟨g0, gg, dd, tk, os⟩
    refine wpAny_bind (drawT (s := ⟨g0, gg, dd, tk, os⟩) ta0 D.l1n.2.2.1 hx fun p1 ta1 s1 => wpAny_pure ?_)
    replace s1 : Heap.SameBut i1 g0 p1 := s1
    have o1 : IsTupOf2 p1 to a1 a2 := s1.extBut _ _ D.to1 o0
    refine wpAny_bind (wpAny_seqItems (s := ⟨p1, gg, dd, tk, os⟩) o1 rfl ?_)
    refine wpAny_bind (updateSeq_IsTupOf2 (s := ⟨p1, gg, dd, tk, os⟩) o1 fun q1 u1 r1 => wpAny_bind (wpAny_letGo (wpAny_pure ?_)))
    replace u1 : IsTupOf2 q1 to x1 a2 := u1
    replace r1 : Heap.SameBut to p1 q1 := r1
    have ta2 := keepIt ta1 r1 D.to1.symm D.l1n.2.1
    have tb2 := keepIt (keepIt tb0 s1 D.n12.symm D.l2n.2.2.1) r1 D.to2.symm D.l2n.2.1
    refine wpAny_bind (wpAny_bind (wpAny_onRaise ?_))
    show wpAny _ _ (Builtin.SmallTypes.nextOf (.ref i2) >>= _) _ _ ⟨q1, gg, dd, tk, os⟩
    refine wpAny_bind (drawT (s := ⟨q1, gg, dd, tk, os⟩) tb2 D.l2n.2.2.2 hy fun p2 tb3 s2 => wpAny_pure ?_)
    replace s2 : Heap.SameBut i2 q1 p2 := s2
    have o2 : IsTupOf2 p2 to x1 a2 := s2.extBut _ _ D.to2 u1
    refine wpAny_bind (wpAny_seqItems (s := ⟨p2, gg, dd, tk, os⟩) o2 rfl ?_)
    refine wpAny_bind (updateSeq_IsTupOf2 (s := ⟨p2, gg, dd, tk, os⟩) o2 fun q2 u2 r2 => wpAny_bind (wpAny_letGo (wpAny_pure (wpAny_pure ?_))))
    replace u2 : IsTupOf2 q2 to x1 x2 := u2
    replace r2 : Heap.SameBut to p2 q2 := r2
    have ta4 := keepIt (keepIt ta2 s2 D.n12 D.l1n.2.2.2) r2 D.to1.symm D.l1n.2.1
    have tb4 := keepIt tb3 r2 D.to2.symm D.l2n.2.1
    refine wpAny_bind (wpAny_seqItems (s := ⟨q2, gg, dd, tk, os⟩) u2 rfl (wpAny_bind (wpAny_newTuple ?_)))
    have sz : q2.objs.size = hp.objs.size := by rw [r2.1, s2.1, r1.1, s1.1, s0.1, hs1.1]
    have hz3 : Zat q2 z ti to .ellipsis (.bool f1) := r2.extBut _ _ D.toz.symm (s2.extBut _ _ D.z2.symm (r1.extBut _ _ D.toz.symm (s1.extBut _ _ D.z1.symm z0)))
    have kk : ∀ c o, c ≠ z → c ≠ to → c ≠ i1 → c ≠ i2 → hp.get? c = some o → q2.get? c = some o := fun c o c0 ct c1 c2 e =>
      r2.extBut _ _ ct (s2.extBut _ _ c2 (r1.extBut _ _ ct (s1.extBut _ _ c1 (s0.extBut _ _ c0 (hs1.extBut _ _ c0 e)))))
    have zlt : z < q2.objs.size := Heap.lt_size hz3
    show wpAny _ _ (Builtin.SmallTypes.ownedTupleHandOut (.ref z) (.ref q2.objs.size) >>= _) _ _ ⟨q2.push { cls := .type "tuple", data := .seq #[x1, x2] }, gg, dd, tk, os⟩
    refine wpAny_bind ?_
    unfold Builtin.SmallTypes.ownedTupleHandOut
    have z5 : Zat (q2.push { cls := .type "tuple", data := .seq #[x1, x2] }) z ti to .ellipsis (.bool f1) := Heap.get?_push_of_some _ hz3
    refine wpAny_bind (wpAny_setField_rec z5 (by simp) fun h7 z7 s7 => ?_)
    replace z7 : Zat h7 z ti to (rawInt q2.objs.size) (.bool f1) := z7
    replace s7 : Heap.SameBut z (q2.push { cls := .type "tuple", data := .seq #[x1, x2] }) h7 := s7
    refine wpAny_setField_rec z7 (by simp) fun h8 z8 s8 => ?_
    replace z8 : Zat h8 z ti to (rawInt q2.objs.size) (.bool false) := z8
    replace s8 : Heap.SameBut z h7 h8 := s8
    have up : ∀ c o, c ≠ z → q2.get? c = some o → h8.get? c = some o := fun c o c1 e => s8.extBut _ _ c1 (s7.extBut _ _ c1 (Heap.get?_push_of_some _ e))
    have nw : IsTupOf2 h8 q2.objs.size x1 x2 := s8.extBut _ _ (Nat.ne_of_gt zlt) (s7.extBut _ _ (Nat.ne_of_gt zlt) (Heap.get?_push_size _ rfl))
    have zw : h8.objs.size = q2.objs.size + 1 := by rw [s8.1, s7.1, Heap.size_push]
    have fin : ∀ {it l : Addr} {k : Nat} {vs : Array Value}, (q2.IsTupleIter it l k ∧ q2.IsTuple l vs) → it ≠ z → l ≠ z → h8.IsTupleIter it l k ∧ h8.IsTuple l vs := fun {it l k vs} st n1 n2 =>
      keepIt (keepIt ⟨st.1.at fun o e => Heap.get?_push_of_some _ e, st.2.push _⟩ s7 n1 n2) s8 n1 n2
    refine wpAny_pure ⟨_, rfl, ?_⟩
    show Q (.ref q2.objs.size) _
    rw [sz] at nw zw z8 ⊢
    exact hQ h8 _ false x1 x2 (.inr ⟨_, rfl⟩) z8 (up _ _ D.toz u2) ⟨fin ta4 D.z1 D.l1n.1, fin tb4 D.z2 D.l2n.1⟩ nw zw
      fun c o c0 ct c1 c2 e => up c o c0 (kk c o c0 ct c1 c2 e)
theorem end2z {Q : Fin → Shared → Prop} (hh : A.handled = none) (D : Far2z z ti to i1 i2 l1 l2) (ho : Out a) (hz : Zat s.heap z ti to a (.bool f))
    (hI : IsTupOf2 s.heap ti (.ref i1) (.ref i2)) (st : s.heap.IsTupleIter i1 l1 i ∧ s.heap.IsTuple l1 xs) (hx : xs[i]? = none)
    (hE : ∀ h' e, (∀ c o, c ≠ z → c ≠ to → c ≠ i1 → c ≠ i2 → s.heap.get? c = some o → h'.get? c = some o) → (∃ o, h'.get? e = some o ∧ o.cls = .type "StopIteration") → E (.ref e) { s with heap := h' }) :
    wpAny (model prog w) A (Builtin.«zip.__next__» ⟨[.ref z], []⟩) Q E s := by
  obtain ⟨hp, gg, dd, tk, os⟩ := s
  show wpAny _ _ (field (.ref z) 2 >>= _) _ _ _
  refine wpAny_bind (wpAny_field hz rfl (x := .bool false) rfl ?_)
  show wpAny _ _ (field (.ref z) 3 >>= _) _ _ _
  refine wpAny_bind (wpAny_field hz rfl (x := .ref ti) rfl ?_)
  refine wpAny_bind (wpAny_seqItems hI rfl ?_)
  show wpAny _ _ (Builtin.SmallTypes.ownedTupleIsFree (.ref z) >>= _) _ _ _
  refine wpAny_bind (freeOr ho hz fun b h1 f1 hz1 hs1 => ?_)
  replace hs1 : Heap.SameBut z hp h1 := hs1
  have sa1 := keepIt st hs1 D.z1 D.l1n.1
  cases b with
  | false =>
    simp only [Bool.false_eq_true, if_false]
    refine wpAny_bind ?_
    rw [← Array.forIn_toList]
    simp only [List.forIn_cons, List.forIn_nil]
    refine wpAny_bind (wpAny_bind (wpAny_holding ?_))
    show wpAny _ _ (Builtin.SmallTypes.nextOf (.ref i1) >>= _) _ _ ⟨h1, gg, dd, tk, os⟩
    refine wpAny_bind (RZ.nextOf_tuple_end (s := ⟨h1, gg, dd, tk, os⟩) hh sa1.1 sa1.2 hx fun h2 e hs2 he => ?_)
    exact hE h2 e (fun c o c0 _ c1 _ q => hs2 _ _ c1 (hs1.extBut _ _ c0 q)) he
  | true =>
    simp only [if_true]
    refine wpAny_bind (wpAny_rule ?_)
    refine wpAny_bind (wpAny_field (s := ⟨h1, gg, dd, tk, os⟩) hz1 rfl (x := .ref to) rfl ?_)
    refine wpAny_bind (wpAny_setField_rec (s := ⟨h1, gg, dd, tk, os⟩) hz1 (by simp) fun g0 z0 s0 => ?_)
    replace z0 : Zat g0 z ti to .ellipsis (.bool f1) := z0
    replace s0 : Heap.SameBut z h1 g0 := s0
    have ta0 := keepIt sa1 s0 D.z1 D.l1n.1
    refine wpAny_bind ?_
    simp only [List.zipIdx_cons, List.zipIdx_nil, List.forIn_cons, List.forIn_nil]
    refine wpAny_bind (wpAny_bind (wpAny_onRaise ?_))
    show wpAny _ _ (Builtin.SmallTypes.nextOf (.ref i1) >>= _) _ _ ⟨g0, gg, dd, tk, os⟩
    refine wpAny_bind (RZ.nextOf_tuple_end (s := ⟨g0, gg, dd, tk, os⟩) hh ta0.1 ta0.2 hx fun h2 e hs2 he => ?_)
    obtain ⟨oe, hoe, hce⟩ := he
    replace hs2 : Heap.ExtBut i1 g0 h2 := hs2
    replace hoe : h2.get? e = some oe := hoe
    have z2 : Zat h2 z ti to .ellipsis (.bool f1) := hs2 _ _ D.z1.symm z0
    have ne : e ≠ z := fun q => by subst q; rw [z2] at hoe; cases hoe; simp at hce
    refine wpAny_setField_rec (s := ⟨h2, gg, dd, tk, os⟩) z2 (by simp) fun h3 _ s3 => ?_
    replace s3 : Heap.SameBut z h2 h3 := s3
    exact hE h3 e (fun c o c0 _ c1 _ q => s3.extBut _ _ c0 (hs2 _ _ c1 (s0.extBut _ _ c0 (hs1.extBut _ _ c0 q)))) ⟨oe, s3.extBut _ _ ne hoe, hce⟩
theorem nextOfZ {x1 x2 : Value} {Q : Value → Shared → Prop} (D : Far2z z ti to i1 i2 l1 l2) (ho : Out a) (hz : Zat s.heap z ti to a (.bool f))
    (hI : IsTupOf2 s.heap ti (.ref i1) (.ref i2)) (hO : IsTupOf2 s.heap to a1 a2) (st : St2z s.heap i1 i2 l1 l2 xs ys i)
    (hx : xs[i]? = some x1) (hy : ys[i]? = some x2)
    (hQ : ∀ (h' : Heap) (a' : Value) (g : Bool) (b1 b2 : Value), Out a' → Zat h' z ti to a' (.bool g) → IsTupOf2 h' to b1 b2 → St2z h' i1 i2 l1 l2 xs ys (i + 1) → IsTupOf2 h' s.heap.objs.size x1 x2 → h'.objs.size = s.heap.objs.size + 1 →
      (∀ c o, c ≠ z → c ≠ to → c ≠ i1 → c ≠ i2 → s.heap.get? c = some o → h'.get? c = some o) → Q (.ref s.heap.objs.size) { s with heap := h' }) :
    wpAny (model prog w) A (Builtin.SmallTypes.nextOf (.ref z)) Q E s := by
  have ty : s.TypeIs (.ref z) "zip" := ⟨_, hz, rfl⟩
  unfold Builtin.SmallTypes.nextOf
  refine wpAny_bind (wpAny_callSpecial?_slot (name := Str.ofString "__next__") ty F.slot_zip_next (wpAny_call_entry F.slot_zip_next ty F.entry_zip_next ?_ (F.args_zip_next_1 _)))
  exact next2z D ho hz hI hO st hx hy fun h' a' g b1 b2 c1 c2 c3 c4 c5 c6 c7 => wpAny_pure (hQ h' a' g b1 b2 c1 c2 c3 c4 c5 c6 c7)
theorem nextOfZ_end {Q : Value → Shared → Prop} (hh : A.handled = none) (D : Far2z z ti to i1 i2 l1 l2) (ho : Out a) (hz : Zat s.heap z ti to a (.bool f))
    (hI : IsTupOf2 s.heap ti (.ref i1) (.ref i2)) (st : s.heap.IsTupleIter i1 l1 i ∧ s.heap.IsTuple l1 xs) (hx : xs[i]? = none)
    (hE : ∀ h' e, (∀ c o, c ≠ z → c ≠ to → c ≠ i1 → c ≠ i2 → s.heap.get? c = some o → h'.get? c = some o) → (∃ o, h'.get? e = some o ∧ o.cls = .type "StopIteration") → E (.ref e) { s with heap := h' }) :
    wpAny (model prog w) A (Builtin.SmallTypes.nextOf (.ref z)) Q E s := by
  have ty : s.TypeIs (.ref z) "zip" := ⟨_, hz, rfl⟩
  unfold Builtin.SmallTypes.nextOf
  refine wpAny_bind (wpAny_callSpecial?_slot (name := Str.ofString "__next__") ty F.slot_zip_next (wpAny_call_entry F.slot_zip_next ty F.entry_zip_next ?_ (F.args_zip_next_1 _)))
  exact end2z hh D ho hz hI st hx hE
end

section
variable {prog : Program} {w : World} {A : Around} {E : Value → Shared → Prop} {s : Shared} {e z ti to i1 i2 l1 l2 : Addr} {a a1 a2 old : Value} {f : Bool} {xs ys : Array Value} {i : Nat} {c : Int}
/-- the enumerate's next over a zip: h₁ is the heap behind the zip's own next -/
theorem enumZ_next {x1 x2 : Value} {Q : Value → Shared → Prop} (D : Far2z z ti to i1 i2 l1 l2) (he : IsEnum s.heap e z c old) (n1 : e ≠ z) (n2 : e ≠ to) (n3 : e ≠ i1) (n4 : e ≠ i2)
    (ho : Out a) (hz : Zat s.heap z ti to a (.bool f)) (hI : IsTupOf2 s.heap ti (.ref i1) (.ref i2)) (hO : IsTupOf2 s.heap to a1 a2) (st : St2z s.heap i1 i2 l1 l2 xs ys i) (hx : xs[i]? = some x1) (hy : ys[i]? = some x2)
    (hQ : ∀ (h₁ : Heap) (a' : Value) (g : Bool) (b1 b2 : Value), Out a' → Zat h₁ z ti to a' (.bool g) → IsTupOf2 h₁ to b1 b2 → St2z h₁ i1 i2 l1 l2 xs ys (i + 1) → IsTupOf2 h₁ s.heap.objs.size x1 x2 → h₁.objs.size = s.heap.objs.size + 1 →
      (∀ c o, c ≠ z → c ≠ to → c ≠ i1 → c ≠ i2 → s.heap.get? c = some o → h₁.get? c = some o) → IsEnum h₁ e z c old →
      ∀ h', IsEnumOut h' e z (c + 1) (.ref s.heap.objs.size) h₁.objs.size → h'.get? h₁.objs.size = some { cls := .type "tuple", data := .seq #[.int c s.toks, .ref s.heap.objs.size] } → (∀ b o, b ≠ e → h₁.get? b = some o → h'.get? b = some o) →
      Q (.ref h₁.objs.size) { s with heap := h', toks := s.toks + 1 }) :
    wpAny (model prog w) A (Builtin.«enumerate.__next__» ⟨[.ref e], []⟩) (fun fin s' => ∃ v, fin = .done (.ret v) ∧ Q v s') E s := by
  obtain ⟨hp, g, d, tk, os⟩ := s
  show wpAny _ _ (field (.ref e) 2 >>= _) _ _ _
  refine wpAny_bind (wpAny_field he rfl (x := .ref z) rfl ?_)
  refine wpAny_bind (nextOfZ D ho hz hI hO st hx hy fun h₁ a' g' b1 b2 ho' hz' hO' st' hT hsz hk => ?_)
  have he₁ : IsEnum h₁ e z c old := hk _ _ n1 n2 n3 n4 he
  have hq := hQ h₁ a' g' b1 b2 ho' hz' hO' st' hT hsz hk he₁
  clear hQ
  generalize hx' : Value.ref (Shared.heap ⟨hp, g, d, tk, os⟩).objs.size = x at hq ⊢
  show wpAny _ _ (field (.ref e) 3 >>= _) _ _ ⟨h₁, g, d, tk, os⟩
  refine wpAny_bind (wpAny_field he₁ rfl (x := rawInt c) rfl ?_)
  show wpAny _ _ (field (.ref e) 4 >>= _) _ _ ⟨h₁, g, d, tk, os⟩
  refine wpAny_bind (wpAny_field he₁ rfl (x := .none) rfl ?_)
  show wpAny _ _ (mkInt c >>= _) _ _ ⟨h₁, g, d, tk, os⟩
  refine wpAny_bind (wpAny_mkInt ?_)
  show wpAny _ _ (setField (.ref e) 3 (rawInt (c + 1)) >>= _) _ _ ⟨h₁, g, d, tk + 1, os⟩
  refine wpAny_bind (wpAny_setField_rec he₁ (by simp) fun h₂ he₂ hs₂ => ?_)
  replace hs₂ : Heap.SameBut e h₁ h₂ := hs₂
  replace he₂ : IsEnum h₂ e z (c + 1) old := he₂
  show wpAny _ _ (setField (.ref e) 4 .none >>= _) _ _ ⟨h₂, g, d, tk + 1, os⟩
  refine wpAny_bind (wpAny_setField_rec he₂ (by simp) fun h₃ he₃ hs₃ => ?_)
  replace hs₃ : Heap.SameBut e h₂ h₃ := hs₃
  replace he₃ : IsEnum h₃ e z (c + 1) old := he₃
  show wpAny _ _ (newTuple [.int c tk, x] >>= _) _ _ ⟨h₃, g, d, tk + 1, os⟩
  refine wpAny_bind (wpAny_newTuple ?_)
  have he₄ : IsEnum (h₃.push { cls := .type "tuple", data := .seq #[.int c tk, x] }) e z (c + 1) old := Heap.get?_push_of_some _ he₃
  generalize hh₄ : h₃.push { cls := .type "tuple", data := .seq #[.int c tk, x] } = h₄ at he₄
  have hsz3 : h₃.objs.size = h₁.objs.size := by rw [hs₃.1, hs₂.1]
  have hel : e < h₁.objs.size := Heap.lt_size he₁
  have ht₄ : h₄.get? h₁.objs.size = some { cls := .type "tuple", data := .seq #[.int c tk, x] } := by rw [← hh₄, ← hsz3]; exact Heap.get?_push_size _ rfl
  have hk₄ : ∀ b o, b ≠ e → h₁.get? b = some o → h₄.get? b = some o := fun b o hbe hb => by
    rw [← hh₄]; exact Heap.get?_push_of_some _ (hs₃.extBut b o hbe (hs₂.extBut b o hbe hb))
  show wpAny _ _ (Builtin.SmallTypes.ownedTupleIsFree (.ref e) >>= _) _ _ ⟨h₄, g, d, tk + 1, os⟩
  rw [hsz3]
  clear hh₄ he₃ hs₃ he₂ hs₂ hsz3 h₃ h₂
  refine wpAny_bind ?_
  · unfold Builtin.SmallTypes.ownedTupleIsFree
    refine wpAny_bind (wpAny_field he₄ rfl (x := .none) rfl (wpAny_pure ?_))
    simp only [if_true]
    refine wpAny_bind (wpAny_rule ?_)
    refine wpAny_bind (wpAny_field he₄ rfl (x := old) rfl ?_)
    refine wpAny_bind (wpAny_setField_rec he₄ (by simp) fun h₅ he₅ hs₅ => ?_)
    replace hs₅ : Heap.SameBut e h₄ h₅ := hs₅
    replace he₅ : IsEnum h₅ e z (c + 1) x := he₅
    show wpAny _ _ (Builtin.SmallTypes.ownedTupleHandOut (.ref e) (.ref h₁.objs.size) >>= _) _ _ ⟨h₅, g, d, tk + 1, os⟩
    refine wpAny_bind ?_
    · unfold Builtin.SmallTypes.ownedTupleHandOut
      refine wpAny_bind (wpAny_setField_rec he₅ (by simp) fun h₆ he₆ hs₆ => ?_)
      replace hs₆ : Heap.SameBut e h₅ h₆ := hs₆
      replace he₆ : IsEnumOut h₆ e z (c + 1) x h₁.objs.size := he₆
      refine wpAny_setField_rec he₆ (by simp) fun h₇ he₇ hs₇ => ?_
      replace hs₇ : Heap.SameBut e h₆ h₇ := hs₇
      replace he₇ : IsEnumOut h₇ e z (c + 1) x h₁.objs.size := he₇
      refine wpAny_bind (wpAny_letGo (wpAny_pure ⟨_, rfl, hq h₇ he₇ ?_ ?_⟩))
      · exact hs₇.extBut _ _ (Nat.ne_of_gt hel) (hs₆.extBut _ _ (Nat.ne_of_gt hel) (hs₅.extBut _ _ (Nat.ne_of_gt hel) ht₄))
      · exact fun b o hbe hb => hs₇.extBut b o hbe (hs₆.extBut b o hbe (hs₅.extBut b o hbe (hk₄ b o hbe hb)))
theorem enumZ_end {Q : Option Value → Shared → Prop} (hh : A.in1.handled = none) (D : Far2z z ti to i1 i2 l1 l2) (he : IsEnum s.heap e z c old)
    (ho : Out a) (hz : Zat s.heap z ti to a (.bool f)) (hI : IsTupOf2 s.heap ti (.ref i1) (.ref i2)) (st : s.heap.IsTupleIter i1 l1 i ∧ s.heap.IsTuple l1 xs) (hx : xs[i]? = none)
    (hQ : ∀ h', (∀ c o, c ≠ z → c ≠ to → c ≠ i1 → c ≠ i2 → s.heap.get? c = some o → h'.get? c = some o) → Q none { s with heap := h' }) : wpAny (model prog w) A (pyNext (.ref e)) Q E s := by
  have hT : s.TypeIs (.ref e) "enumerate" := ⟨_, he, rfl⟩
  unfold pyNext
  refine wpAny_bind (wpAny_attempt (wpAny_callSpecial?_slot (name := Str.ofString "__next__") hT F.slot_enumerate_next
    (wpAny_call_entry F.slot_enumerate_next hT F.entry_enumerate_next ?_ (F.args_enumerate_next_1 _))))
  show wpAny _ _ (field (.ref e) 2 >>= _) _ _ _
  refine wpAny_bind (wpAny_field he rfl (x := .ref z) rfl ?_)
  refine wpAny_bind (nextOfZ_end hh D ho hz hI st hx fun h' x hk hx' => ?_)
  obtain ⟨o, ho', hc⟩ := hx'
  refine wpAny_bind (wpAny_isInstance (T := "StopIteration") (b := true) ⟨o, ho', hc⟩ isSubtype_stop ?_)
  exact wpAny_pure (hQ _ hk)
end

theorem enumNewZ (z : Addr) : Meets (Builtin.«enumerate.__new__» ⟨[.type "enumerate", .ref z], []⟩) (fun _ R s => (∃ ti to, IsZip s.heap z ti to .none) ∧
      R (.ok (.ret (.ref s.heap.objs.size))) { s with heap := s.heap.push { cls := .type "enumerate", data := .fields #[.none, .bool false, .ref z, rawInt 0, .none, .none] } }) :=
  .of_wp fun prog w A R s h => by
    obtain ⟨hp, g, d, tk, os⟩ := s
    obtain ⟨⟨ti, to, hl⟩, h⟩ := h
    have hsub := sub_enumerate
    have hL : IsZip (Shared.heap ⟨hp, g, d, tk, os⟩) z ti to .none := hl
    wp_walk
    refine wpAny_stack_any fun st => wpAny_pure ?_
    split
    · rename_i c _ _ _ _ _
      cases (c == Value.type "enumerate")
      · wp_walk using wpAny_pyIter_zip hL
        exact ⟨_, rfl, h⟩
      · wp_walk using wpAny_pyIter_zip hL
        exact ⟨_, rfl, h⟩
    · wp_walk using wpAny_pyIter_zip hL
      exact ⟨_, rfl, h⟩
section
variable {prog : Program} {w : World} {A : Around} {E : Value → Shared → Prop} {s : Shared}
theorem enumZ {z ti to : Addr} {Q : Value → Shared → Prop} (hz : IsZip s.heap z ti to .none)
    (h : ∀ h', IsEnum h' s.heap.objs.size z 0 .none → (∀ b o, s.heap.get? b = some o → h'.get? b = some o) → Q (.ref s.heap.objs.size) { s with heap := h' }) :
    wpAny (model prog w) A (call (.type "enumerate") [.ref z]) Q E s := by
  refine callType_new F.called_enumerate (by decide) (F.typeCall_enumerate_1 _) (F.newCall_enumerate_1 _) (fun obj => F.args_object_init_2 obj _) F.entry_enumerate_new (enumNewZ z) ⟨⟨ti, to, hz⟩, ?_⟩
  have he := Heap.get?_push_size s.heap (o := { cls := .type "enumerate", data := .fields #[.none, .bool false, .ref z, rawInt 0, .none, .none] }) rfl
  exact ⟨⟨_, he, rfl⟩, h _ he fun b o x => Heap.get?_push_of_some _ x⟩
end
section
variable {prog : Program} {w : World} {A : Around} {E : Value → Shared → Prop} {s : Shared} {e z ti to i1 i2 l1 l2 : Addr} {a a1 a2 old : Value} {f : Bool} {xs ys : Array Value} {i : Nat} {c : Int}
theorem pyNextEZ {x1 x2 : Value} {Q : Option Value → Shared → Prop} (D : Far2z z ti to i1 i2 l1 l2) (he : IsEnum s.heap e z c old) (n1 : e ≠ z) (n2 : e ≠ to) (n3 : e ≠ i1) (n4 : e ≠ i2)
    (ho : Out a) (hz : Zat s.heap z ti to a (.bool f)) (hI : IsTupOf2 s.heap ti (.ref i1) (.ref i2)) (hO : IsTupOf2 s.heap to a1 a2) (st : St2z s.heap i1 i2 l1 l2 xs ys i) (hx : xs[i]? = some x1) (hy : ys[i]? = some x2)
    (hQ : ∀ (h₁ : Heap) (a' : Value) (g : Bool) (b1 b2 : Value), Out a' → Zat h₁ z ti to a' (.bool g) → IsTupOf2 h₁ to b1 b2 → St2z h₁ i1 i2 l1 l2 xs ys (i + 1) → IsTupOf2 h₁ s.heap.objs.size x1 x2 → h₁.objs.size = s.heap.objs.size + 1 →
      (∀ c o, c ≠ z → c ≠ to → c ≠ i1 → c ≠ i2 → s.heap.get? c = some o → h₁.get? c = some o) → IsEnum h₁ e z c old →
      ∀ h', IsEnumOut h' e z (c + 1) (.ref s.heap.objs.size) h₁.objs.size → h'.get? h₁.objs.size = some { cls := .type "tuple", data := .seq #[.int c s.toks, .ref s.heap.objs.size] } → (∀ b o, b ≠ e → h₁.get? b = some o → h'.get? b = some o) →
      Q (some (.ref h₁.objs.size)) { s with heap := h', toks := s.toks + 1 }) :
    wpAny (model prog w) A (pyNext (.ref e)) Q E s := by
  have ty : s.TypeIs (.ref e) "enumerate" := ⟨_, he, rfl⟩
  unfold pyNext
  refine wpAny_bind (wpAny_attempt (wpAny_callSpecial?_slot (name := Str.ofString "__next__") ty F.slot_enumerate_next ?_))
  refine wpAny_call_entry F.slot_enumerate_next ty F.entry_enumerate_next ?_ (F.args_enumerate_next_1 _)
  exact enumZ_next D he n1 n2 n3 n4 ho hz hI hO st hx hy fun h₁ a' g b1 b2 c1 c2 c3 c4 c5 c6 c7 c8 h' c9 c10 c11 => wpAny_pure (hQ h₁ a' g b1 b2 c1 c2 c3 c4 c5 c6 c7 c8 h' c9 c10 c11)
end
/-- numbers and the pairs of two tuples of one length, side by side -/
def ItEz (K : PySem.W.Frag) (a b : Addr) : It :=
  ⟨fun i H => ∃ (xs ys : List V) (x y : V), SqT K H a xs ∧ SqT K H b ys ∧ xs[i]? = some x ∧ ys[i]? = some y,
    fun i H v H' => ∃ T U x y, v = .ref T ∧ H U = none ∧ upd H U (.tup [x, y]) T = none ∧ H' = upd (upd H U (.tup [x, y])) T (.tup [.int (i : Nat), .ref U]) ∧ (∀ xs, SqT K H a xs → xs[i]? = some x) ∧ ∀ ys, SqT K H b ys → ys[i]? = some y,
    fun i H => ∃ xs : List V, SqT K H a xs ∧ xs.length ≤ i⟩
structure FarE (e z ti to i1 i2 a b : Addr) : Prop where
  D : Far2z z ti to i1 i2 a b
  ez : e ≠ z
  et : e ≠ ti
  eo : e ≠ to
  e1 : e ≠ i1
  e2 : e ≠ i2
  ea : a ≠ e
  eb : b ≠ e
theorem turnEz {P : Program} {w : World} {K : PySem.W.Frag} {elts : List Expr} {kk : Nat} {tpos : Pos} {e z ti to i1 i2 a b : Addr} (F : FarE e z ti to i1 i2 a b) :
    Turn P w K (.Tuple elts kk tpos) (ItEz K a b) [e, z, ti, to, i1, i2] e (fun i h => (∃ old, IsEnum h e z ((i : Nat) : Int) old) ∧ (∃ v f, Out v ∧ Zat h z ti to v (.bool f)) ∧ IsTupOf2 h ti (.ref i1) (.ref i2) ∧ (∃ b1 b2, IsTupOf2 h to b1 b2) ∧
      h.IsTupleIter i1 a i ∧ h.IsTupleIter i2 b i) where
  mem := by simp
  obj := fun i h st q hq => by
    obtain ⟨⟨old, he⟩, ⟨v, f, _, hz⟩, hI, ⟨b1, b2, hO⟩, ⟨o1, e1, _, d1⟩, ⟨o2, e2, _, d2⟩⟩ := st
    have e' : q = e ∨ q = z ∨ q = ti ∨ q = to ∨ q = i1 ∨ q = i2 := by simpa using hq
    rcases e' with r | r | r | r | r | r
    · rw [r]; exact ⟨_, he, fun v q => nomatch q⟩
    · rw [r]; exact ⟨_, hz, fun v q => nomatch q⟩
    · rw [r]; exact ⟨_, hI, fun v q => nomatch q⟩
    · rw [r]; exact ⟨_, hO, fun v q => nomatch q⟩
    · rw [r]; exact ⟨o1, e1, fun v q => by rw [d1] at q; cases q⟩
    · rw [r]; exact ⟨o2, e2, fun v q => by rw [d2] at q; cases q⟩
  keep := fun i h h' st k => by
    obtain ⟨⟨old, he⟩, ⟨v, f, ho, hz⟩, hI, ⟨b1, b2, hO⟩, h1, h2⟩ := st
    exact ⟨⟨old, k e (by simp) _ he⟩, ⟨v, f, ho, k z (by simp) _ hz⟩, k ti (by simp) _ hI, ⟨b1, b2, k to (by simp) _ hO⟩, h1.at fun o q => k i1 (by simp) o q, h2.at fun o q => k i2 (by simp) o q⟩
  item := by
    intro X hP hw hK hc i pins s σ H E I hf st hg
    subst hP hw hK
    obtain ⟨⟨old, he⟩, ⟨v, f, ho, hz⟩, hI, ⟨b1, b2, hO⟩, h1, h2⟩ := st
    obtain ⟨xs, ys, x, y, qx, qy, hx, hy⟩ := hg
    obtain ⟨t1, r1, p1, _⟩ := I.tuple qx
    obtain ⟨t2, r2, p2, _⟩ := I.tuple qy
    obtain ⟨v1, g1, rv1⟩ := r1.get hx
    obtain ⟨v2, g2, rv2⟩ := r2.get hy
    have D := F.D
    have lts : ∀ q ∈ [e, z, ti, to, i1, i2], q < s.heap.objs.size := fun q hq => by
      have e' : q = e ∨ q = z ∨ q = ti ∨ q = to ∨ q = i1 ∨ q = i2 := by simpa using hq
      rcases e' with r | r | r | r | r | r
      · rw [r]; exact Heap.lt_size he
      · rw [r]; exact Heap.lt_size hz
      · rw [r]; exact Heap.lt_size hI
      · rw [r]; exact Heap.lt_size hO
      · rw [r]; obtain ⟨_, e1, _⟩ := h1; exact Heap.lt_size e1
      · rw [r]; obtain ⟨_, e1, _⟩ := h2; exact Heap.lt_size e1
    refine pyNextEZ D he F.ez F.eo F.e1 F.e2 ho hz hI hO ⟨⟨h1, p1⟩, ⟨h2, p2⟩⟩ (x1 := v1) (x2 := v2) (by simpa using g1) (by simpa using g2) fun m a' g c1 c2 ho' hz' hO' st' hT hsz hk he1 h' heo hTT hk' => ?_
    refine ⟨_, rfl, wpAny_letOwnedTupleGo_enum (s := { s with heap := h', toks := s.toks + 1 }) heo fun h'' he' sb => ?_⟩
    replace sb : Heap.SameBut e h' h'' := sb
    have el := lts e (by simp)
    have kk2 : ∀ q o, q ≠ e → m.get? q = some o → h''.get? q = some o := fun q o ne hq => (sb.2 q ne).trans (hk' q o ne hq)
    have new : ObjOk X.prog X.w (upd H s.heap.objs.size (.tup [x, y])) m s.heap.objs.size (.tup [x, y]) :=
      ⟨by show 2 ≤ sizeLine; decide, [v1, v2], .cons rv1 (.cons rv2 .nil), ⟨_, hT, rfl, _, rfl⟩⟩
    have I1 : Inv X pins σ (upd H s.heap.objs.size (.tup [x, y])) { s with heap := m } :=
      I.turnedNew (t' := s.toks) (ch := [e, z, ti, to, i1, i2]) (fun q o hb e => hk q o (fun q' => hb (by simp [q'])) (fun q' => hb (by simp [q'])) (fun q' => hb (by simp [q'])) (fun q' => hb (by simp [q'])) e) hf (Nat.le_refl _) new
    have zl : m.objs.size = s.heap.objs.size + 1 := hsz
    have nT : upd H s.heap.objs.size (.tup [x, y]) m.objs.size = none := I1.hok.fresh (Nat.le_refl _)
    have hT2 : h''.get? m.objs.size = some { cls := .type "tuple", data := .seq #[.int i s.toks, .ref s.heap.objs.size] } := (sb.2 _ (by rw [zl]; exact Nat.ne_of_gt (Nat.lt_succ_of_lt el))).trans hTT
    have new2 : ObjOk X.prog X.w (upd (upd H s.heap.objs.size (.tup [x, y])) m.objs.size (.tup [.int (i : Nat), .ref s.heap.objs.size])) h'' m.objs.size (.tup [.int (i : Nat), .ref s.heap.objs.size]) :=
      ⟨by show 2 ≤ sizeLine; decide, [.int i s.toks, .ref s.heap.objs.size], .cons ⟨_, rfl⟩ (.cons rfl .nil), ⟨_, hT2, rfl, _, rfl⟩⟩
    have I2 : Inv X pins σ (upd (upd H s.heap.objs.size (.tup [x, y])) m.objs.size (.tup [.int (i : Nat), .ref s.heap.objs.size])) { s with heap := h'', toks := s.toks + 1 } :=
      I1.turnedNew (t' := s.toks + 1) (ch := [e]) (fun q o hb hq => kk2 q o (fun q' => hb (by simp [q'])) hq) (fun q hq => by
        have hq' := List.mem_singleton.mp hq
        subst hq'
        have h0 := hf q (by simp)
        exact ⟨by rw [upd_ne (Nat.ne_of_lt el)]; exact h0.1, h0.2⟩) (Nat.le_refl _) new2
    refine ⟨.ref m.objs.size, _, I2, rfl, ⟨m.objs.size, s.heap.objs.size, x, y, rfl, I.hok.fresh (Nat.le_refl _), nT, rfl, fun l hl => by rw [I.tuple_inj hl qx]; exact hx, fun l hl => by rw [I.tuple_inj hl qy]; exact hy⟩, ⟨⟨.ref s.heap.objs.size, ?_⟩, ⟨a', g, ho', kk2 _ _ F.ez.symm hz'⟩, ?_, ⟨c1, c2, kk2 _ _ F.eo.symm hO'⟩, st'.1.1.at fun o q => kk2 _ _ F.e1.symm q, st'.2.1.at fun o q => kk2 _ _ F.e2.symm q⟩, fun q hq => ?_⟩
    · rw [show ((i + 1 : Nat) : Int) = (i : Int) + 1 by omega]
      exact he'
    · exact kk2 _ _ F.et.symm (hk _ _ D.tiz D.tito D.ti1 D.ti2 hI)
    · have lt := lts q hq
      have lt' : q < s.heap.objs.size := lt
      rw [upd_ne (by rw [zl]; exact Nat.ne_of_lt (Nat.lt_succ_of_lt lt')), upd_ne (Nat.ne_of_lt lt')]
      exact (hf q hq).1
  done := by
    intro X hP hw hK hc i pins s σ H E I hf st hg
    subst hP hw hK
    obtain ⟨⟨old, he⟩, ⟨v, f, ho, hz⟩, hI, ⟨b1, b2, hO⟩, h1, h2⟩ := st
    obtain ⟨xs, qx, hlen⟩ := hg
    obtain ⟨t1, r1, p1, _⟩ := I.tuple qx
    have le := r1.length
    refine enumZ_end (I.ok.hd hc) F.D he ho hz hI ⟨h1, p1⟩ (by simp; omega) fun h' hk => ⟨rfl, I.turnedL (t' := s.toks) (ch := [e, z, ti, to, i1, i2]) (fun q o hb e => ?_) hf⟩
    exact hk q o (fun q' => hb (by simp [q'])) (fun q' => hb (by simp [q'])) (fun q' => hb (by simp [q'])) (fun q' => hb (by simp [q'])) e
  self := fun A i s Q E st h => by
    obtain ⟨⟨_, he⟩, _⟩ := st
    exact wpAny_pyIter_enum he h
theorem farE_at (n a b : Nat) (ha : a < n) (hb : b < n) : FarE (n + 5) (n + 4) (n + 2) (n + 3) n (n + 1) a b := by
  constructor
  · constructor <;> first | (show (_ : Nat) ≠ _; omega) | (refine ⟨?_, ?_, ?_, ?_⟩ <;> (show (_ : Nat) ≠ _; omega))
  all_goals (show (_ : Nat) ≠ _; omega)
def iEnumZ (K : PySem.W.Frag) (ta : TA) : TI := fun σ H R => ta σ H fun vs H1 => ∃ a b xs ys, vs = [.ref a, .ref b] ∧ SqT K H1 a xs ∧ SqT K H1 b ys ∧ R (ItEz K a b) H1
theorem pi_enumZ {X : Cx} {es : List Expr} {kk : Nat} {tpos p p2 pos pos2 : Pos} {e e2 : Expr} {ta : TA} (hg : Gl X "enumerate") (hm : X.mg "enumerate" = none) (hg2 : Gl X "zip") (hm2 : X.mg "zip" = none) (ha : PA X [e, e2] ta)
    (hs : starEach [e, e2] X.env = (false, eval e X.env) :: starEach [e2] X.env := by rfl) (hpl : (backTo pos2 (starEach [e2] X.env)).any (·.1) = false := by rfl)
    (hs1 : starEach [.Call (.Name "zip" p2) [e, e2] [] pos2] X.env = (false, eval (.Call (.Name "zip" p2) [e, e2] [] pos2) X.env) :: starEach [] X.env := by rfl) :
    PI X (.Tuple es kk tpos) (.Call (.Name "enumerate" p) [.Call (.Name "zip" p2) [e, e2] [] pos2] [] pos) (iEnumZ X.K ta) := by
  refine ⟨fun pins s σ H R I h => ?_⟩
  refine Call_ (ld_blt I hg hm boot_enumerate (PyProof.Rows.callWith_type1 (args_cons ?_ hs1) hs1))
  refine Call_ (ld_blt I hg2 hm2 PyProof.Rows.boot_zip (PyProof.Rows.callWith_type1 (thn (ha.run pos2 pins s σ H _ I h) fun us s1 h1 => ?_) hs hpl))
  obtain ⟨vs, H1, I1, r1, a, b, xs, ys, rfl, ha1, hb1, q⟩ := h1
  obtain ⟨u1, us, rfl, ru1, r2⟩ : ∃ u us', us = u :: us' ∧ RelV (.ref a) u ∧ Vals [V.ref b] us' := by
    cases r1 with
    | cons r rr => exact ⟨_, _, rfl, r, rr⟩
  obtain ⟨u2, rfl, ru2⟩ : ∃ u, us = [u] ∧ RelV (.ref b) u := by
    cases r2 with
    | cons r rr =>
      cases rr
      exact ⟨_, rfl, r⟩
  obtain rfl : u1 = Value.ref a := ru1
  obtain rfl : u2 = Value.ref b := ru2
  obtain ⟨t1, v1, p1, _⟩ := I1.tuple ha1
  obtain ⟨t2, v2, p2', _⟩ := I1.tuple hb1
  obtain ⟨o1, g1, _⟩ := id p1
  obtain ⟨o2, g2, _⟩ := id p2'
  refine zip_begins2 (begins_tuple a t1.toArray) (begins_tuple b t2.toArray) p1 p2' fun h' hz hI hO e1 e2 hsz hk => args_nil ?_
  refine enumZ (s := { s1 with heap := h' }) hz fun h'' he kp => wpAny_pyIter_enum he ?_
  replace he : IsEnum h'' h'.objs.size (s1.heap.objs.size + 4) 0 .none := he
  replace kp : ∀ b o, h'.get? b = some o → h''.get? b = some o := kp
  have I2 : Inv X pins σ H1 { s1 with heap := h'' } := I1.kept (t' := s1.toks) fun b o x => kp b o (hk b o x)
  show PIE _ _ _ _ _ (.ref h'.objs.size) { s1 with heap := h'' }
  rw [hsz] at he ⊢
  refine ⟨s1.heap.objs.size + 5, [s1.heap.objs.size + 5, s1.heap.objs.size + 4, s1.heap.objs.size + 2, s1.heap.objs.size + 3, s1.heap.objs.size, s1.heap.objs.size + 1], _, _, H1, rfl, I2, turnEz (farE_at s1.heap.objs.size a b (Heap.lt_size g1) (Heap.lt_size g2)),
    ⟨⟨.none, he⟩, ⟨.none, false, .inl rfl, kp _ _ hz⟩, kp _ _ hI, ⟨_, _, kp _ _ hO⟩, ⟨_, kp _ _ e1, rfl, rfl⟩, ⟨_, kp _ _ e2, rfl, rfl⟩⟩, fun q hq => ?_, q⟩
  have le : s1.heap.objs.size ≤ q := by
    simp only [List.mem_cons, List.not_mem_nil, or_false] at hq
    rcases hq with r | r | r | r | r | r <;> rw [r] <;> first | exact Nat.le_add_right _ _ | exact Nat.le_refl _
  exact I1.fpOk le (I1.hok.fresh le)
/-- a new pair of the number and of a new pair of the i-th ones -/
def YEz (xs ys : List V) : Nat → Hp → V → Hp → Prop := fun i H v H' => ∃ T U x y, v = .ref T ∧ H U = none ∧ upd H U (.tup [x, y]) T = none ∧ H' = upd (upd H U (.tup [x, y])) T (.tup [.int (i : Nat), .ref U]) ∧ xs[i]? = some x ∧ ys[i]? = some y
theorem walk_enumZ {K : PySem.W.Frag} {a b : Addr} {xs ys : List V} (h2 : ys.length = xs.length) :
    Walk (ItEz K a b) xs.length (fun H => SqT K H a xs ∧ SqT K H b ys) (YEz xs ys) := by
  refine ⟨fun i _ hi q => ?_, fun _ q => ⟨xs, q.1, Nat.le_refl _⟩, fun i H v H' _ q y => ?_⟩
  · exact ⟨xs, ys, xs[i], ys[i]'(by omega), q.1, q.2, by simp [hi], by simp [show i < ys.length by omega]⟩
  · obtain ⟨T, U, x, y, e1, e2, e3, e4, f1, f2⟩ := y
    exact ⟨T, U, x, y, e1, e2, e3, e4, f1 xs q.1, f2 ys q.2⟩
end NB

set_option Elab.async false
set_option linter.all false
set_option maxRecDepth 100000
namespace NB
open PySem PySem.Spec PyProof.Rows L2
section
variable {X : Cx}
/-- x in t, x not in t, t a tuple of data of any depth -/
def rInT (K : PySem.W.Frag) (neg : Bool) : R2 := fun x y H Q => ∃ d ds, Dp K H x d ∧ Dp K H y (.tuple ds) ∧ SeqAt.shaped d = true ∧ SeqAt.shaped (.tuple ds) = true ∧ Q (.bl (if neg then !ds.any fun z => PyData.eqv z d else ds.any fun z => PyData.eqv z d)) H
theorem inT (hu : X.A.units + 65 < cLine) : OpR X (compareOp .In) (rInT X.K false) := by
  intro pins s σ H x y v u Q I rx ry h
  obtain ⟨d, ds, h1, h2, sh1, sh2, q⟩ := h
  obtain ⟨as, r1⟩ := Dp.reads I d x v h1 rx
  obtain ⟨bs, r2⟩ := Dp.reads I (.tuple ds) y u h2 ry
  exact SeqAt.in_tuple_reads r2 r1 (SeqAt.canLay_of_shaped sh2) (SeqAt.canLay_of_shaped sh1) (room_in_shaped sh1 hu) ⟨.bl _, H, I, rfl, q⟩
theorem notInT (hu : X.A.units + 65 < cLine) : OpR X (compareOp .NotIn) (rInT X.K true) := by
  intro pins s σ H x y v u Q I rx ry h
  obtain ⟨d, ds, h1, h2, sh1, sh2, q⟩ := h
  obtain ⟨as, r1⟩ := Dp.reads I d x v h1 rx
  obtain ⟨bs, r2⟩ := Dp.reads I (.tuple ds) y u h2 ry
  exact SeqAt.notIn_tuple_reads r2 r1 (SeqAt.canLay_of_shaped sh2) (SeqAt.canLay_of_shaped sh1) (room_in_shaped sh1 hu) ⟨.bl _, H, I, rfl, q⟩
end
end NB

set_option Elab.async false
set_option linter.all false
set_option maxRecDepth 100000
namespace K18
open PySem PySem.Spec PyProof.Rows L2 NB

/-! ### papers of the nearest one -/
theorem RCh.ok {tops : List Int} {rs : List Rl} {S : List Sd} (rok : ∀ q ∈ rs, RuleOk tops q) (hS : ∀ s ∈ S, SideOk tops s) : ∀ {R : List Sd}, RCh tops rs S R → ∀ z ∈ R, SideOk tops z
  | _, .one hs, z, hz => by
    rw [List.mem_singleton.mp hz]
    exact hS _ hs
  | _, .cons h m, z, hz => by
    rcases List.mem_cons.mp hz with rfl | hz
    · exact led_ok rok m
    · exact RCh.ok rok hS h z hz
theorem CTo.ok {tops : List Int} {rs : List Rl} {S : List Sd} {s : Sd} {cs : List Sd} (rok : ∀ q ∈ rs, RuleOk tops q) (hS : ∀ s ∈ S, SideOk tops s) (hs : SideOk tops s) (h : CTo tops rs S s cs) : ∀ z ∈ cs, SideOk tops z := fun z hz => by
  rcases h with ⟨rfl, _⟩ | ⟨R, _, rc, _, _, _, h⟩
  · exact absurd hz List.not_mem_nil
  · rcases h with ⟨_, rfl⟩ | ⟨_, rfl⟩
    · exact rc.ok rok hS z (List.mem_reverse.mp hz)
    · rcases List.mem_append.mp hz with h | h
      · exact rc.ok rok hS z (List.mem_reverse.mp h)
      · rw [List.mem_singleton.mp h]
        exact hs
theorem Nrst.uniq {tops : List Int} {rs : List Rl} {W : List Sd} {st n m : List Int} (a : Nrst tops rs W st n) (b : Nrst tops rs W st m) : n = m := by
  refine plc_ext (by rw [goods_len a.good, goods_len b.good]) fun i hi => ?_
  have li : i < tops.length := by rw [← goods_len a.good]; exact hi
  have h1 := a.btw m b.good b.has i li
  have h2 := b.btw n a.good a.has i li
  unfold Btw at h1 h2
  omega
/-- where the nearest one has another place a chain leads to it -/
theorem Nrst.pull {tops : List Int} {rs : List Rl} (rok : ∀ q ∈ rs, RuleOk tops q) (pl : ∀ i, i < tops.length → 0 ≤ plc tops i) {W : List Sd} (ok : ∀ s, s ∈ W → SideOk tops s) {st n : List Int} (hst : st ∈ goods tops rs) (N : Nrst tops rs W st n) {i : Nat} (hi : i < tops.length) (ne : plc st i ≠ plc n i) :
    SideOk tops (i, decide (plc st i < plc n i), plc n i) ∧ ∃ z, Rea tops rs (· ∈ W) z ∧ withinB tops z (i, decide (plc st i < plc n i), plc n i) = true := by
  obtain ⟨lows, highs, F⟩ := fol_ex rok pl (S := (· ∈ W)) ok
  have N' := F.nrst rok ok hst N.good N.has
  have e := N.uniq N'
  have bn := (goods_mem.mp N.good).1.2 i hi
  have bs := (goods_mem.mp hst).1.2 i hi
  refine ⟨SideOk.mk' hi bn.1 bn.2, ?_⟩
  have ep : plc n i = max (plc lows i) (min (plc st i) (plc highs i)) := by
    rw [e, plc_pull (by rw [goods_len hst]; exact hi)]
  have cr := F.cross rok ok N.good N.has i hi
  have self : ∀ s : Sd, withinB tops s s = true := fun s => within_iff.mpr ⟨rfl, Int.le_refl _, Int.le_refl _⟩
  by_cases c : plc st i < plc n i
  · rw [decide_eq_true c]
    have el : plc lows i = plc n i := by omega
    rcases F.l0 i hi with h | h
    · omega
    · exact ⟨_, h, by rw [el]; exact self _⟩
  · rw [decide_eq_false c]
    have el : plc highs i = plc n i := by omega
    rcases F.h0 i hi with h | h
    · omega
    · exact ⟨_, h, by rw [el]; exact self _⟩
/-- a chain to the place of a thing -/
structure ChnAt (H : Hp) (a : Addr) (tops : List Int) (rs : List Rl) (W : List Sd) (s : Sd) (L : List (Addr × Sd)) : Prop where
  ea : H a = some (.tup (sdR L))
  hL : SdsAt H L
  ok : ∀ z ∈ L, SideOk tops z.2
  len : L.length ≤ 281
  ch : chB tops rs (L.map (·.2)) = true
  hd : ∃ w ∈ W, (L.map (·.2)).head? = some w
  lst : (L.map (·.2)).getLast? = some s
theorem ChnAt.keep {H H' : Hp} {a : Addr} {tops : List Int} {rs : List Rl} {W : List Sd} {s : Sd} {L : List (Addr × Sd)} (h : ChnAt H a tops rs W s L) (k : Keep H H') : ChnAt H' a tops rs W s L := ⟨k.tup h.ea, h.hL.keep k, h.ok, h.len, h.ch, h.hd, h.lst⟩
/-- a paper of the nearest one -/
def PapL (H : Hp) (as : List Addr) (tops : List Int) (rs : List Rl) (W : List Sd) (st n : List Int) : Prop := ∀ (i : Nat) (a : Addr), as[i]? = some a → (plc st i = plc n i ∧ H a = some (.tup [])) ∨ (plc st i ≠ plc n i ∧ ∃ L, ChnAt H a tops rs W (i, decide (plc st i < plc n i), plc n i) L)
theorem PapL.keep {H H' : Hp} {as : List Addr} {tops : List Int} {rs : List Rl} {W : List Sd} {st n : List Int} (h : PapL H as tops rs W st n) (k : Keep H H') : PapL H' as tops rs W st n := fun i a e => (h i a e).imp (fun z => ⟨z.1, k.tup z.2⟩) fun ⟨z, L, c⟩ => ⟨z, L, c.keep k⟩
def PapAt (H : Hp) (r : Addr) (tops : List Int) (rs : List Rl) (W : List Sd) (st n : List Int) : Prop := ∃ as : List Addr, H r = some (.tup (as.map V.ref)) ∧ as.length = st.length ∧ PapL H as tops rs W st n
theorem PapAt.keep {H H' : Hp} {r : Addr} {tops : List Int} {rs : List Rl} {W : List Sd} {st n : List Int} (h : PapAt H r tops rs W st n) (k : Keep H H') : PapAt H' r tops rs W st n := by
  obtain ⟨as, e, l, p⟩ := h
  exact ⟨as, k.tup e, l, p.keep k⟩
section
variable {P : Program} {w : World} {K : PySem.W.Frag} {mg : Str → Option Value} {base : Heap}
def spCm : Sp := fun vs H Q _ => ∃ (i : Nat) (a b : Int), vs = [.int (i : Int), .int a, .int b] ∧ ∀ H' g, Same H H' → SideAt H' g (i, decide (a < b), b) → Q (.ref g) H'
abbrev a_come_to : Stmt := topS 45
abbrev n_come_to : List Str := ["thing", "here", "there"]
theorem sc_come_to : FnScope n_come_to ["thing", "here", "there"] (defScope a_come_to) := ⟨rfl, rfl, rfl, by decide +kernel, rfl, by decide +kernel, by decide +kernel⟩
set_option maxHeartbeats 8000000 in
theorem ok_come_to {f  : Addr} {fd  : FuncData} {k : Nat}  (F : Fun K "come_to" "come_to" a_come_to f fd)    : FnOk P w K mg base CX0 (k + 1) f fd ["thing", "here", "there"] spCm := by
  refine F.ok sc_come_to (fun vs H Q E h => ?_) (fun cdv A outer s H vs Q E hr h => ?_)
  · obtain ⟨i, a, b, rfl, _⟩ := h
    rfl
  · obtain ⟨i, a, b, rfl, q⟩ := h
    refine ⟨_, (pss_one (ps_ret (pe_tup (pa_cons (pv 0) (pa_cons (pe_ifExp (pt_cmpR op_gt (pv 2) (pv 1) (nomark _)) pe_str pe_str) (pa_cons (pv 2) pa_nil)))))), ?_⟩
    refine ⟨_, rfl, _, rfl, _, rfl, _, _, rfl, rfl, _, rfl, ite2 (fun c => ?_) (fun c => ?_)⟩
    · refine ⟨_, rfl, (show 3 ≤ sizeLine by decide), fun g ng => q _ g (same_new ng) ?_⟩
      have c' := of_decide_eq_true c
      show _ = _
      rw [upd_same, decide_eq_true c']
      rfl
    · refine ⟨_, rfl, (show 3 ≤ sizeLine by decide), fun g ng => q _ g (same_new ng) ?_⟩
      have c' := of_decide_eq_false (Bool.not_eq_true _ ▸ c)
      show _ = _
      rw [upd_same, decide_eq_false c']
      rfl
def spNp (K : PySem.W.Frag) (C : Addr) : Sp := fun vs H Q _ => ∃ (x a g : Addr) (tops st : List Int) (rs : List Rl) (Ls : List (Addr × Sd)), vs = [.ref x, .ref a, .ref g] ∧ Wnt K C H x g tops rs Ls ∧ Had tops rs Ls ∧ H a = some (.tup (st.map V.int)) ∧ st ∈ goods tops rs ∧
  ∀ H' r n, Same H H' → Nrst tops rs (Ls.map (·.2)) st n → PapAt H' r tops rs (Ls.map (·.2)) st n → Q (.ref r) H'
abbrev a_nearest_paper : Stmt := topS 46
abbrev n_nearest_paper : List Str := ["plan", "standing", "want", "rows", "thing", "here", "there"]
theorem sc_nearest_paper : FnScope n_nearest_paper ["plan", "standing", "want"] (defScope a_nearest_paper) := ⟨rfl, rfl, rfl, by decide +kernel, rfl, by decide +kernel, by decide +kernel⟩
set_option maxHeartbeats 8000000 in
theorem ok_nearest_paper {f fNe fCt fCm : Addr} {fd fdNe fdCt fdCm : FuncData} {k : Nat} {C : Addr} (F : Fun K "nearest_paper" "nearest_paper" a_nearest_paper f fd) (Ne : Kn P w K mg base 9 "nearest" ["plan", "standing", "want"] (spNear K C) fNe fdNe) (Ct : Kn P w K mg base 5 "chain_to" ["plan", "starts", "goal"] (spCto K C) fCt fdCt) (Cm : Kn P w K mg base 1 "come_to" ["thing", "here", "there"] spCm fCm fdCm) (m_zip : mg "zip" = none) (m_enumerate : mg "enumerate" = none) (m_tuple : mg "tuple" = none) : FnOk P w K mg base CX0 (k + 10) f fd ["plan", "standing", "want"] (spNp K C) := by
  refine F.ok sc_nearest_paper (fun vs H Q E h => ?_) (fun cdv A outer s H vs Q E hr h => ?_)
  · obtain ⟨x, a, g, tops, st, rs, Ls, rfl, _⟩ := h
    rfl
  · obtain ⟨x, a, g, tops, st, rs, Ls, rfl, W, had, ea, hst, q⟩ := h
    refine ⟨_, (pss_cons (ps_set (i := 3) sc_nearest_paper.nd rfl (.inl rfl) (pe_lst pa_nil))
      (pss_cons (ps_for PassesOwn.never rfl (pi_enumZ (by rfl) m_enumerate (by rfl) m_zip (pa_cons (pv 1) (pa_cons (pe_kn Ne hr (by omega) (pa_cons (pv 0) (pa_cons (pv 1) (pa_cons (pv 2) pa_nil)))) pa_nil))) (pg_tup rfl (pgs_cons (pg_name (i := 4) sc_nearest_paper.nd rfl (.inl rfl)) (pgs_cons (pg_tup rfl (pgs_cons (pg_name (i := 5) sc_nearest_paper.nd rfl (.inl rfl)) (pgs_cons (pg_name (i := 6) sc_nearest_paper.nd rfl (.inl rfl)) pgs_nil))) pgs_nil)))
        (pss_one (ps_expr (pe_bm PySem.F.plainAttrs_list PySem.F.slot_list_append PySem.F.type_list_append mt_append (pv 3) (pa_cons (pe_ifExp (pt_cmpR op_eq (pv 5) (pv 6) (nomark _)) (pe_tup pa_nil) (pe_kn Ct hr (by omega) (pa_cons (pv 0) (pa_cons (pv 2) (pa_cons (pe_kn Cm hr (by omega) (pa_cons (pv 4) (pa_cons (pv 5) (pa_cons (pv 6) pa_nil)))) pa_nil))))) pa_nil)))))
      (pss_one (ps_ret (pe_callTy call_tuple_of (by rfl) m_tuple (by decide +kernel) (pa_cons (pv 3) pa_nil)))))), ?_⟩
    have l12 := W.l12
    have ls := goods_len hst
    refine ⟨Nat.zero_le _, fun l nl => ?_⟩
    have sl := same_new (o := HO.lst []) nl
    refine ⟨.ref a, rfl, .ref x, rfl, .ref a, rfl, .ref g, rfl, x, a, g, tops, st, rs, Ls, rfl, W.same sl, had, sl _ _ ea, hst, fun H1 p n s1 en N => ?_⟩
    have s01 := sl.trans s1
    have ln := goods_len N.good
    have ea1 := s01 _ _ ea
    have el1 : H1 l = some (.lst (([] : List Addr).map V.ref)) := s1 _ _ upd_same
    have W1 := W.same s01
    refine ⟨a, p, _, _, rfl, .inl (.inl ea1), .inl (.inl en), for_it (walk_enumZ (xs := st.map V.int) (ys := n.map V.int) (by rw [List.length_map, List.length_map, ln, ls])) (fun j σ H' => (∃ u4 u5 u6, σ = [some (.ref x), some (.ref a), some (.ref g), some (.ref l), u4, u5, u6]) ∧ Same H H' ∧ KT H1 H' ∧ ∃ as : List Addr, H' l = some (.lst (as.map V.ref)) ∧ as.length = j ∧ PapL H' as tops rs (Ls.map (·.2)) st n) ⟨⟨_, _, _, rfl⟩, s01, KT.refl _, [], el1, rfl, fun i a h => by simp at h⟩ (fun j σ H' _ y => ⟨.inl (.inl (y.2.2.1 _ _ ea1)), .inl (.inl (y.2.2.1 _ _ en))⟩) (fun j v σ H2 H3 hj y z => ?_) (fun σ H2 y => ?_)⟩
    · obtain ⟨⟨u4, u5, u6, rfl⟩, s2, k2, as, el, la, ap⟩ := y
      obtain ⟨T, U, va, vb, rfl, nU, nT, rfl, ga, gb⟩ := z
      obtain ⟨pa, e1, rfl⟩ := mapGet ga
      obtain ⟨pb, e2, rfl⟩ := mapGet gb
      have hj' : j < tops.length := by
        rw [List.length_map] at hj
        omega
      have epa : plc st j = pa := by
        show st.getD j 0 = pa
        rw [List.getD_eq_getElem?_getD, e1]
        rfl
      have epb : plc n j = pb := by
        show n.getD j 0 = pb
        rw [List.getD_eq_getElem?_getD, e2]
        rfl
      have sU := same_new (o := HO.tup [V.int pa, V.int pb]) nU
      have sT := same_new (o := HO.tup [V.int (j : Int), V.ref U]) nT
      have sUT := sU.trans sT
      have eU := sT _ _ (upd_same (H := H2) (a := U) (o := HO.tup [V.int pa, V.int pb]))
      refine ⟨T, _, rfl, .inl (.inl upd_same), rfl, _, _, rfl, _, _, rfl, U, _, rfl, .inl (.inl eU), rfl, _, _, rfl, _, _, rfl, rfl, rfl, ?_⟩
      have el3 := sUT _ _ el
      have s3 := s2.trans sUT
      have k3 : KT H1 _ := k2.trans (.same sUT)
      have ap3 := ap.keep (.same sUT)
      generalize upd (upd H2 U (.tup [V.int pa, V.int pb])) T (.tup [V.int (j : Int), V.ref U]) = H3 at el3 s3 k3 ap3 ⊢
      have fin : ∀ (H4 : Hp) (b : Addr), Same H3 H4 → ((plc st j = plc n j ∧ H4 b = some (.tup [])) ∨ (plc st j ≠ plc n j ∧ ∃ L, ChnAt H4 b tops rs (Ls.map (·.2)) (j, decide (plc st j < plc n j), plc n j) L)) → Same H (upd H4 l (.lst (as.map V.ref ++ [V.ref b]))) ∧ KT H1 (upd H4 l (.lst (as.map V.ref ++ [V.ref b]))) ∧ ∃ as' : List Addr, (upd H4 l (.lst (as.map V.ref ++ [V.ref b]))) l = some (.lst (as'.map V.ref)) ∧ as'.length = j + 1 ∧ PapL (upd H4 l (.lst (as.map V.ref ++ [V.ref b]))) as' tops rs (Ls.map (·.2)) st n := fun H4 b s4 hb => by
        have el4 := s4 _ _ el3
        have kU : Keep H4 (upd H4 l (.lst (as.map V.ref ++ [V.ref b]))) := .upd el4
        refine ⟨same_over (s3.trans s4) nl, (k3.trans (.same s4)).trans (.upd el4 (fun xs z => by cases z)), as ++ [b], by rw [upd_same, List.map_append]; rfl, by rw [List.length_append, la]; rfl, fun i c hc => ?_⟩
        rcases Nat.lt_or_ge i as.length with d | d
        · rw [List.getElem?_append_left d] at hc
          exact (ap3.keep ((Keep.same s4).trans kU)) i c hc
        · rw [List.getElem?_append_right d] at hc
          have e0 : i - as.length = 0 := by
            rcases Nat.eq_zero_or_pos (i - as.length) with z | z
            · exact z
            · rw [List.getElem?_eq_none (by simp only [List.length_cons, List.length_nil]; omega)] at hc
              cases hc
          rw [e0] at hc
          cases hc
          have ei : i = j := by omega
          subst ei
          exact hb.imp (fun z => ⟨z.1, kU.tup z.2⟩) fun ⟨z, L, y⟩ => ⟨z, L, y.keep kU⟩
      have sml : (as.map V.ref).length < sizeLine := by
        rw [List.length_map]
        exact small1000 (by omega)
      refine ⟨.ref l, rfl, .inl ⟨rfl, _, .inl (.inl el3)⟩, _, rfl, _, rfl, rfl, _, rfl, ite2 (fun c => ?_) (fun c => ?_)⟩
      · have c' : pa = pb := by
          have := of_decide_eq_true c
          injection this
        refine ⟨Nat.zero_le _, fun b nb => ?_⟩
        have sb := same_new (o := HO.tup []) nb
        exact ⟨l, _, _, rfl, rfl, sb _ _ el3, sml, ⟨_, _, _, rfl⟩, fin _ b sb (.inl ⟨by omega, upd_same⟩)⟩
      · have c' : pa ≠ pb := fun z => c (decide_eq_true (by rw [z]))
        obtain ⟨okj, zz⟩ := N.pull W.rok W.pl W.ok hst hj' (by omega)
        rw [epa, epb] at okj zz
        refine ⟨.ref x, rfl, .ref g, rfl, _, rfl, _, rfl, _, rfl, j, pa, pb, rfl, fun H4 gl s4 hg => ?_⟩
        have W4 := W.same (s3.trans s4)
        refine ⟨x, g, gl, tops, rs, Ls, (j, decide (pa < pb), pb), rfl, W4.hp, W4.eg, W4.hL, W4.okS, W4.rok, W4.l40, W4.lS, hg, okj, fun H5 b L s5 eb hL ct lL => ?_⟩
        have ch := ct.chain zz
        have s45 := s4.trans s5
        refine ⟨l, _, _, rfl, rfl, s45 _ _ el3, sml, ⟨_, _, _, rfl⟩, fin _ b s45 (.inr ⟨by omega, L, eb, hL, fun z hz => ct.ok W.rok W.ok okj z.2 (List.mem_map.mpr ⟨z, hz, rfl⟩), lL, ch.1, ch.2.1, ?_⟩)⟩
        rw [epa, epb]
        exact ch.2.2
    · obtain ⟨⟨u4, u5, u6, rfl⟩, s2, k2, as, el, la, ap⟩ := y
      rw [List.length_map] at la
      refine ⟨.ref l, rfl, l, _, rfl, .inl ⟨.inl (.inl el), fun r nr => ?_⟩⟩
      have sr := same_new (o := HO.tup (as.map V.ref)) nr
      exact q _ r n (s2.trans sr) N ⟨as, upd_same, la, ap.keep (.same sr)⟩
def spIp (K : PySem.W.Frag) (C : Addr) : Sp := fun vs H Q _ => ∃ (x g p c : Addr) (tops : List Int) (rs : List Rl) (Ls L : List (Addr × Sd)) (s : Sd), vs = [.ref x, .ref g, .ref p, .ref c] ∧ Wnt K C H x g tops rs Ls ∧ SideAt H p s ∧ ChnAt H c tops rs (Ls.map (·.2)) s L ∧ ∀ H', Same H H' → Q (.bl true) H'
abbrev a_is_pull : Stmt := topS 47
abbrev n_is_pull : List Str := ["plan", "want", "goal", "thing"]
theorem sc_is_pull : FnScope n_is_pull ["plan", "want", "goal", "thing"] (defScope a_is_pull) := ⟨rfl, rfl, rfl, by decide +kernel, rfl, by decide +kernel, by decide +kernel⟩
set_option maxHeartbeats 8000000 in
theorem ok_is_pull {f fIc : Addr} {fd fdIc : FuncData} {k : Nat} {C : Addr} (F : Fun K "is_pull" "is_pull" a_is_pull f fd) (Ic : Kn P w K mg base 5 "is_chain" ["plan", "thing"] (spChn K C) fIc fdIc)   : FnOk P w K mg base CX0 (k + 6) f fd ["plan", "want", "goal", "thing"] (spIp K C) := by
  refine F.ok sc_is_pull (fun vs H Q E h => ?_) (fun cdv A outer s H vs Q E hr h => ?_)
  · obtain ⟨x, g, p, c, tops, rs, Ls, L, s', rfl, _⟩ := h
    rfl
  · obtain ⟨x, g, p, c, tops, rs, Ls, L, s', rfl, W, hs, ch, q⟩ := h
    refine ⟨_, (pss_one (ps_ret (pe_and (pe_kn Ic hr (by omega) (pa_cons (pv 0) (pa_cons (pv 3) pa_nil))) (pe_and (pe_cmpR (inT (Room.u65 hr)) (pe_ix ix_tup (pv 3) pe_int (fun _ _ => rfl)) (pv 1) (by rfl)) (pe_one (pe_cmpR (op_eqD hr.units) (pe_ix ix_tup (pv 3) (pe_un un_neg pe_int) (fun _ _ => rfl)) (pv 2) (nomark _))))))), ?_⟩
    have ll := ch.len
    refine ⟨.ref x, rfl, .ref c, rfl, x, c, tops, rs, L, rfl, W.hp, ch.ea, ch.hL, ch.ok, W.rok, W.l40, by omega, fun H1 s1 => ⟨_, rfl, ?_⟩⟩
    obtain ⟨w, hw, hd⟩ := ch.hd
    have lst := ch.lst
    have ne : L ≠ [] := fun z => by
      rw [z] at hd
      cases hd
    have emp : L.isEmpty = false := by
      cases L with
      | nil => exact absurd rfl ne
      | cons z zs => rfl
    rw [ch.ch, emp]
    obtain ⟨z0, L0, eL⟩ := List.exists_cons_of_ne_nil ne
    have hz0 : z0.2 = w := by
      rw [eL] at hd
      exact Option.some.inj hd
    obtain ⟨L1, z1, eL1⟩ : ∃ L1 z1, L = L1 ++ [z1] := ⟨L.dropLast, L.getLast ne, (List.dropLast_concat_getLast ne).symm⟩
    have hz1 : z1.2 = s' := by
      rw [eL1, List.map_append] at lst
      have : (L1.map (·.2) ++ [z1.2]).getLast? = some s' := lst
      rw [List.getLast?_concat] at this
      exact Option.some.inj this
    have ea1 := s1 _ _ ch.ea
    have W1 := W.same s1
    have m0 : z0 ∈ L := by rw [eL]; exact List.mem_cons_self
    have m1 : z1 ∈ L := by rw [eL1]; exact List.mem_append_right _ List.mem_cons_self
    refine iteT ⟨.ref c, rfl, c, _, 0, .ref z0.1, rfl, rfl, .inl (.inl ea1), by rw [eL]; exact atI_nat (j := 0) rfl, .ref g, rfl, _, _, dp_sd ((ch.hL z0 m0).keep (.same s1)), .tup W1.eg (dp_sds W1.hL), shaped_sd _, shaped_sdsT _, ?_⟩
    rw [sds_any, hz0, decide_eq_true hw]
    refine ⟨_, rfl, iteT ⟨.ref c, rfl, 1, rfl, c, _, _, .ref z1.1, rfl, rfl, .inl (.inl ea1), by rw [eL1]; simp only [sdR, List.map_append, List.map_cons, List.map_nil]; exact atI_last _ _, .ref p, rfl, _, _, dp_sd ((ch.hL z1 m1).keep (.same s1)), dp_sd (hs.keep (.same s1)), shaped_sd _, shaped_sd _, ?_⟩⟩
    rw [eqv_sd, decide_eq_true hz1]
    exact q H1 s1
def spAp (K : PySem.W.Frag) (C : Addr) : Sp := fun vs H Q _ => ∃ (x a g b r : Addr) (tops st n : List Int) (rs : List Rl) (Ls : List (Addr × Sd)), vs = [.ref x, .ref a, .ref g, .ref b, .ref r] ∧ Wnt K C H x g tops rs Ls ∧ H a = some (.tup (st.map V.int)) ∧ H b = some (.tup (n.map V.int)) ∧ st.length = tops.length ∧ n.length = tops.length ∧ PapAt H r tops rs (Ls.map (·.2)) st n ∧ ∀ H', Same H H' → Q (.bl true) H'
abbrev a_are_pulls : Stmt := topS 48
abbrev n_are_pulls : List Str := ["plan", "standing", "want", "new", "thing", "number", "here", "there", "row"]
theorem sc_are_pulls : FnScope n_are_pulls ["plan", "standing", "want", "new", "thing"] (defScope a_are_pulls) := ⟨rfl, rfl, rfl, by decide +kernel, rfl, by decide +kernel, by decide +kernel⟩
set_option maxHeartbeats 8000000 in
theorem ok_are_pulls {f fIp fCm : Addr} {fd fdIp fdCm : FuncData} {k : Nat} {C : Addr} (F : Fun K "are_pulls" "are_pulls" a_are_pulls f fd) (Ip : Kn P w K mg base 6 "is_pull" ["plan", "want", "goal", "thing"] (spIp K C) fIp fdIp) (Cm : Kn P w K mg base 1 "come_to" ["thing", "here", "there"] spCm fCm fdCm) (m_zip : mg "zip" = none) (m_enumerate : mg "enumerate" = none) (m_isinstance : mg "isinstance" = none) (m_len : mg "len" = none) (m_tuple : mg "tuple" = none) : FnOk P w K mg base CX0 (k + 7) f fd ["plan", "standing", "want", "new", "thing"] (spAp K C) := by
  refine F.ok sc_are_pulls (fun vs H Q E h => ?_) (fun cdv A outer s H vs Q E hr h => ?_)
  · obtain ⟨x, a, g, b, r, tops, st, n, rs, Ls, rfl, _⟩ := h
    rfl
  · obtain ⟨x, a, g, b, r, tops, st, n, rs, Ls, rfl, W, ea, eb, ls, ln, pp, q⟩ := h
    refine ⟨_, (pss_cons (ps_if (PW.pt (pw_or (pt_not (pt_val (pe_callB call_isi (by rfl) m_isinstance (by decide +kernel) (pa_cons (pv 4) (pa_cons (pe_bltn (v := .ty "tuple") (u := .type "tuple") (by rfl) m_tuple (by decide +kernel) rfl) pa_nil))))) (pw_or1 (pt_cmpR op_ne (pe_callB call_len_seq (by rfl) m_len (by decide +kernel) (pa_cons (pv 4) pa_nil)) (pe_callB call_len_seq (by rfl) m_len (by decide +kernel) (pa_cons (pv 3) pa_nil)) (nomark _))))) (pss_one (ps_ret pe_bl)) pss_nil)
      (pss_cons (ps_for PassesOwn.never rfl (pi_enumZ (by rfl) m_enumerate (by rfl) m_zip (pa_cons (pv 1) (pa_cons (pv 3) pa_nil))) (pg_tup rfl (pgs_cons (pg_name (i := 5) sc_are_pulls.nd rfl (.inl rfl)) (pgs_cons (pg_tup rfl (pgs_cons (pg_name (i := 6) sc_are_pulls.nd rfl (.inl rfl)) (pgs_cons (pg_name (i := 7) sc_are_pulls.nd rfl (.inl rfl)) pgs_nil))) pgs_nil)))
        (pss_cons (ps_set (i := 8) sc_are_pulls.nd rfl (.inl rfl) (pe_ix ix_tup (pv 4) (pv 5) (fun _ _ => rfl)))
      (pss_cons (ps_if (PW.pt (pw_and (pt_cmpR op_eq (pv 6) (pv 7) (nomark _)) (pw_and1 (pt_not (PW.pt (pw_and (pt_val (pe_callB call_isi (by rfl) m_isinstance (by decide +kernel) (pa_cons (pv 8) (pa_cons (pe_bltn (v := .ty "tuple") (u := .type "tuple") (by rfl) m_tuple (by decide +kernel) rfl) pa_nil)))) (pw_and1 (pt_cmpR op_eq (pe_callB call_len_seq (by rfl) m_len (by decide +kernel) (pa_cons (pv 8) pa_nil)) pe_int (nomark _))))))))) (pss_one (ps_ret pe_bl)) pss_nil)
      (pss_one (ps_if (PW.pt (pw_and (pt_cmpR op_ne (pv 6) (pv 7) (nomark _)) (pw_and1 (pt_not (pt_val (pe_kn Ip hr (by omega) (pa_cons (pv 0) (pa_cons (pv 2) (pa_cons (pe_kn Cm hr (by omega) (pa_cons (pv 5) (pa_cons (pv 6) (pa_cons (pv 7) pa_nil)))) (pa_cons (pv 8) pa_nil)))))))))) (pss_one (ps_ret pe_bl)) pss_nil)))))
      (pss_one (ps_ret pe_bl)))), ?_⟩
    obtain ⟨as, er, la, ap⟩ := pp
    have l12 := W.l12
    refine ⟨.ref r, rfl, _, _, _, _, true, rfl, .ty "tuple", .base (.tup er), kit_ty (by decide +kernel), true, rfl, iteF ?_⟩
    refine ⟨.ref r, rfl, r, _, rfl, .inr (.inl (.inl er)), .ref b, rfl, b, _, rfl, .inr (.inl (.inl eb)), rfl, _, rfl, not_diff (by rw [List.length_map, List.length_map, la, ls, ln]) ?_⟩
    refine ⟨.ref a, rfl, .ref b, rfl, a, b, _, _, rfl, .inl (.inl ea), .inl (.inl eb), for_it (walk_enumZ (xs := st.map V.int) (ys := n.map V.int) (by rw [List.length_map, List.length_map, ln, ls])) (fun j σ H' => (∃ u5 u6 u7 u8, σ = [some (.ref x), some (.ref a), some (.ref g), some (.ref b), some (.ref r), u5, u6, u7, u8]) ∧ Same H H') ⟨⟨_, _, _, _, rfl⟩, Same.refl _⟩ (fun j σ H' _ y => ⟨.inl (.inl (y.2 _ _ ea)), .inl (.inl (y.2 _ _ eb))⟩) (fun j v σ H2 H3 hj y z => ?_) (fun σ H2 y => ?_)⟩
    · obtain ⟨⟨u5, u6, u7, u8, rfl⟩, s2⟩ := y
      obtain ⟨T, U, va, vb, rfl, nU, nT, rfl, ga, gb⟩ := z
      obtain ⟨pa, e1, rfl⟩ := mapGet ga
      obtain ⟨pb, e2, rfl⟩ := mapGet gb
      have hj' : j < tops.length := by
        rw [List.length_map] at hj
        omega
      have epa : plc st j = pa := by
        show st.getD j 0 = pa
        rw [List.getD_eq_getElem?_getD, e1]
        rfl
      have epb : plc n j = pb := by
        show n.getD j 0 = pb
        rw [List.getD_eq_getElem?_getD, e2]
        rfl
      have sU := same_new (o := HO.tup [V.int pa, V.int pb]) nU
      have sT := same_new (o := HO.tup [V.int (j : Int), V.ref U]) nT
      have sUT := sU.trans sT
      have eU := sT _ _ (upd_same (H := H2) (a := U) (o := HO.tup [V.int pa, V.int pb]))
      refine ⟨T, _, rfl, .inl (.inl upd_same), rfl, _, _, rfl, _, _, rfl, U, _, rfl, .inl (.inl eU), rfl, _, _, rfl, _, _, rfl, rfl, rfl, ?_⟩
      have s3 := s2.trans sUT
      generalize upd (upd H2 U (.tup [V.int pa, V.int pb])) T (.tup [V.int (j : Int), V.ref U]) = H3 at s3 ⊢
      have er3 := s3 _ _ er
      have hja : j < as.length := by omega
      have aj : as[j]? = some as[j] := List.getElem?_eq_getElem hja
      refine ⟨.ref r, rfl, _, rfl, r, _, (j : Int), .ref as[j], rfl, rfl, .inl (.inl er3), atI_nat (by rw [List.getElem?_map, aj]; rfl), ?_⟩
      rcases ap j as[j] aj with ⟨eq, e0⟩ | ⟨nq, L, ch⟩
      · have eq' : pa = pb := by omega
        refine ⟨_, rfl, _, rfl, rfl, _, rfl, ?_⟩
        rw [decide_eq_true (by rw [eq'])]
        refine iteT ⟨_, rfl, _, _, _, _, true, rfl, .ty "tuple", .base (.tup (s3 _ _ e0)), kit_ty (by decide +kernel), true, rfl, iteT ⟨_, rfl, as[j], _, rfl, .inr (.inl (.inl (s3 _ _ e0))), rfl, _, rfl, ?_⟩⟩
        refine iteF ⟨_, rfl, _, rfl, rfl, _, rfl, not_diff (by rw [eq']) (iteF ⟨⟨_, _, _, _, rfl⟩, s3⟩)⟩
      · have nq' : pa ≠ pb := by omega
        have nv : ¬ V.int pa = V.int pb := fun z => nq' (by injection z)
        refine ⟨_, rfl, _, rfl, rfl, _, rfl, ?_⟩
        rw [decide_eq_false nv]
        refine iteF (iteF ⟨_, rfl, _, rfl, rfl, _, rfl, ?_⟩)
        rw [decide_eq_false nv]
        refine iteT ⟨.ref x, rfl, .ref g, rfl, _, rfl, _, rfl, _, rfl, j, pa, pb, rfl, fun H4 gl s4 hg => ⟨_, rfl, ?_⟩⟩
        rw [epa, epb] at ch
        refine ⟨x, g, gl, as[j], tops, rs, Ls, L, (j, decide (pa < pb), pb), rfl, W.same (s3.trans s4), hg, ch.keep (.same (s3.trans s4)), fun H5 s5 => ⟨_, rfl, iteF ⟨⟨_, _, _, _, rfl⟩, (s3.trans s4).trans s5⟩⟩⟩
    · exact q H2 y.2
end
end K18

set_option Elab.async false
set_option linter.all false
set_option maxRecDepth 100000
namespace K18
open PySem PySem.Spec PyProof.Rows L2 NB

/-! ### the nearest one shown -/
section
variable {P : Program} {w : World} {K : PySem.W.Frag} {mg : Str → Option Value} {base : Heap}
def spHasP (K : PySem.W.Frag) : Sp := fun vs H Q _ => ∃ (g a : Addr) (Ls : List (Addr × Sd)) (st : List Int), vs = [.ref g, .ref a] ∧ SqT K H g (sdR Ls) ∧ SdsAt H Ls ∧ (∀ z ∈ Ls, z.2.1 < st.length) ∧ Ls.length ≤ 200 ∧ H a = some (.tup (st.map V.int)) ∧ ∀ H', Same H H' → Q (.bl ((Ls.map (·.2)).all (inB st))) H'
abbrev a_has : Stmt := topS 34
abbrev n_has : List Str := ["want", "standing", "side"]
theorem sc_has : FnScope n_has ["want", "standing"] (defScope a_has) := ⟨rfl, rfl, rfl, by decide +kernel, rfl, by decide +kernel, by decide +kernel⟩
set_option maxHeartbeats 8000000 in
theorem ok_has {f fIn : Addr} {fd fdIn : FuncData} {k : Nat}  (F : Fun K "has" "has" a_has f fd) (In : Kn P w K mg base 1 "is_in" ["side", "standing"] spIn fIn fdIn)  (m_all : mg "all" = none) : FnOk P w K mg base CX0 (k + 2) f fd ["want", "standing"] (spHasP K) := by
  refine F.ok sc_has (fun vs H Q E h => ?_) (fun cdv A outer s H vs Q E hr h => ?_)
  · obtain ⟨g, a, Ls, st, rfl, _⟩ := h
    rfl
  · obtain ⟨g, a, Ls, st, rfl, eg, hL, lt, l200, ea, q⟩ := h
    refine ⟨_, (pss_one (ps_ret (pe_callB (cr_all rfl) (by rfl) m_all (by decide +kernel) (pa_cons (
        pe_lc (own := [("side", 2)]) (g := (gName 2)) (tt := tYes) (te := (tCall spIn [] E0 (tCons (tVar 2) (tCons (tVar 1) tNil)))) rfl sc_has.nd (pi_tup (pv 0)) (blkOk_by (N := n_has) (sc := defScope a_has) (by decide +kernel))
          (fun _ _ _ _ _ => (pg_name (i := 2) sc_has.nd rfl (.inl rfl) (hf := .inr rfl))) (fun _ _ _ _ _ => pts_nil) (fun _ _ _ _ _ => (pe_kn In hr (by omega) (pa_cons (pv 2) (pa_cons (pv 1) pa_nil))))) pa_nil)))), ?_⟩
    refine ⟨.ref g, rfl, g, rfl, ⟨_, eg⟩, fun D nD => lc_it (walk_tup (xs := sdR Ls)) (fun i H' => Same H H' ∧ H' D = some (.lst ((((Ls.map (·.2)).take i).map (inB st)).map V.bl))) ⟨same_new nD, upd_same⟩ (fun i H' _ y => sameT y.1 eg) (fun i v H1 H2 hi y z => ?_) (fun H1 y => ?_)⟩
    · obtain ⟨s1, eD⟩ := y
      obtain ⟨rfl, gv⟩ := z
      obtain ⟨zz, ez, rfl⟩ := mapGet gv
      have hz := List.mem_of_getElem? ez
      refine ⟨wipe_one, .ref zz.1, rfl, .ref a, rfl, zz.1, a, zz.2, st, rfl, (hL zz hz).keep (.same s1), s1 _ _ ea, lt zz hz, _, eD, ?_, same_over s1 nD, ?_⟩
      · rw [List.length_map, List.length_map, List.length_take, List.length_map]
        exact small1000 (by omega)
      · rw [upd_same, List.take_add_one, List.getElem?_map, ez, List.map_append, List.map_append]
        rfl
    · obtain ⟨s1, eD⟩ := y
      have hl : (sdR Ls).length = (Ls.map (·.2)).length := by rw [List.length_map, List.length_map]
      rw [hl, List.take_length] at eD
      refine ⟨D, _, rfl, .inl (.inl eD), ?_⟩
      have e : ((Ls.map (·.2)).map (inB st)).all id = (Ls.map (·.2)).all (inB st) := by
        rw [List.all_map]
        rfl
      rw [e]
      exact q H1 s1
def spStn (C : Addr) : Sp := fun vs H Q _ => ∃ (x a : Addr) (tops st : List Int) (rs : List Rl), vs = [.ref x, .ref a] ∧ PlanAt C H x tops rs ∧ H a = some (.tup (st.map V.int)) ∧ st.length = tops.length ∧ tops.length ≤ 12 ∧ (∀ i, i < tops.length → 0 ≤ plc st i ∧ plc st i ≤ plc tops i) ∧ ∀ H', Same H H' → Q (.bl true) H'
abbrev a_is_standing : Stmt := topS 28
abbrev n_is_standing : List Str := ["plan", "thing", "top", "place"]
theorem sc_is_standing : FnScope n_is_standing ["plan", "thing"] (defScope a_is_standing) := ⟨rfl, rfl, rfl, by decide +kernel, rfl, by decide +kernel, by decide +kernel⟩
set_option maxHeartbeats 8000000 in
theorem ok_is_standing {f fPl' : Addr} {fd fdPl' : FuncData} {k : Nat} {C : Addr} (F : Fun K "is_standing" "is_standing" a_is_standing f fd) (Pl' : Kn P w K mg base 2 "is_place" ["top", "thing"] spPlace fPl' fdPl') (T : PlanTxt K mg C) (m_zip : mg "zip" = none) (m_all : mg "all" = none) (m_isinstance : mg "isinstance" = none) (m_len : mg "len" = none) (m_tuple : mg "tuple" = none) (m_zip : mg "zip" = none) : FnOk P w K mg base CX0 (k + 3) f fd ["plan", "thing"] (spStn C) := by
  refine F.ok sc_is_standing (fun vs H Q E h => ?_) (fun cdv A outer s H vs Q E hr h => ?_)
  · obtain ⟨x, a, tops, st, rs, rfl, _⟩ := h
    rfl
  · obtain ⟨x, a, tops, st, rs, rfl, hp, ea, ls, l12, bd, q⟩ := h
    refine ⟨_, (pss_cons (ps_if (PW.pt (pw_or (pt_not (pt_val (pe_callB call_isi (by rfl) m_isinstance (by decide +kernel) (pa_cons (pv 1) (pa_cons (pe_bltn (v := .ty "tuple") (u := .type "tuple") (by rfl) m_tuple (by decide +kernel) rfl) pa_nil))))) (pw_or1 (pt_cmpR op_ne (pe_callB call_len_seq (by rfl) m_len (by decide +kernel) (pa_cons (pv 1) pa_nil)) (pe_callB call_len_seq (by rfl) m_len (by decide +kernel) (pa_cons (pe_fld (pv 0) rfl) pa_nil)) (nomark _))))) (pss_one (ps_ret pe_bl)) pss_nil)
      (pss_one (ps_ret (pe_callB (cr_all rfl) (by rfl) m_all (by decide +kernel) (pa_cons (
        pe_lc (own := [("top", 2), ("place", 3)]) (g := (gTup K 2 (gCons (gName 2) (gCons (gName 3) gNil)))) (tt := tYes) (te := (tCall spPlace [] E0 (tCons (tVar 2) (tCons (tVar 3) tNil)))) rfl sc_is_standing.nd (RZ.pi_zipA (by rfl) m_zip (pa_cons (pe_fld (pv 0) rfl) (pa_cons (pv 1) pa_nil))) (blkOk_by (N := n_is_standing) (sc := defScope a_is_standing) (by decide +kernel))
          (fun _ _ _ _ _ => (pg_tup rfl (pgs_cons (pg_name (i := 2) sc_is_standing.nd rfl (.inl rfl) (hf := .inr rfl)) (pgs_cons (pg_name (i := 3) sc_is_standing.nd rfl (.inl rfl) (hf := .inr rfl)) pgs_nil)))) (fun _ _ _ _ _ => pts_nil) (fun _ _ _ _ _ => (pe_kn Pl' hr (by omega) (pa_cons (pv 2) (pa_cons (pv 3) pa_nil))))) pa_nil))))), ?_⟩
    obtain ⟨dx, t, R, ex, et, hR⟩ := id hp
    refine ⟨.ref a, rfl, _, _, _, _, true, rfl, .ty "tuple", .base (.tup ea), kit_ty (by decide +kernel), true, rfl, iteF ?_⟩
    refine ⟨.ref a, rfl, a, _, rfl, .inr (.inl (.inl ea)), .ref x, rfl, x, C, dx, _, _, rfl, ex, T.cl, T.nT, look_tops _ _, t, _, rfl, .inr (.inl (.inl et)), rfl, _, rfl, not_diff (by rw [List.length_map, List.length_map, ls]) ?_⟩
    refine ⟨.ref x, rfl, x, C, dx, _, _, rfl, ex, T.cl, T.nT, look_tops _ _, .ref a, rfl, t, a, _, _, rfl, .inr ⟨.inl (.inl et), .inl (.inl ea), fun D nD => lc_it (walk_zipT (xs := tops.map V.int) (ys := st.map V.int) (by rw [List.length_map, List.length_map, ls])) (fun i H' => Same H H' ∧ H' D = some (.lst ((List.replicate i true).map V.bl))) ⟨same_new nD, upd_same⟩ (fun i H' _ y => ⟨.inl (.inl (y.1 _ _ et)), .inl (.inl (y.1 _ _ ea))⟩) (fun i v H1 H2 hi y z => ?_) (fun H1 y => ?_)⟩⟩
    · obtain ⟨s1, eD⟩ := y
      obtain ⟨T', v1, v2, rfl, nT, rfl, g1, g2⟩ := z
      obtain ⟨tp, e1, rfl⟩ := mapGet g1
      obtain ⟨pc, e2, rfl⟩ := mapGet g2
      have hi' : i < tops.length := (List.getElem?_eq_some_iff.mp e1).1
      have ep : plc st i = pc := by
        show st.getD i 0 = pc
        rw [List.getD_eq_getElem?_getD, e2]
        rfl
      have et' : plc tops i = tp := by
        show tops.getD i 0 = tp
        rw [List.getD_eq_getElem?_getD, e1]
        rfl
      have b := bd i hi'
      rw [ep, et'] at b
      have sT := same_new (o := HO.tup [V.int tp, V.int pc]) nT
      refine ⟨T', _, rfl, .inl (.inl upd_same), rfl, _, _, rfl, _, _, rfl, rfl, wipe_two, _, rfl, _, rfl, tp, pc, rfl, ?_⟩
      rw [decide_eq_true b.1, decide_eq_true b.2]
      refine ⟨_, sT _ _ eD, ?_, same_over (s1.trans sT) nD, ?_⟩
      · rw [List.length_map, List.length_replicate]
        exact small1000 (by omega)
      · rw [upd_same, List.replicate_succ', List.map_append]
        rfl
    · obtain ⟨s1, eD⟩ := y
      refine ⟨D, _, rfl, .inl (.inl eD), ?_⟩
      rw [show ∀ n : Nat, (List.replicate n true).all id = true from fun n => by simp]
      exact q H1 s1
def spSn (K : PySem.W.Frag) (C : Addr) : Sp := fun vs H Q _ => ∃ (x a g b r : Addr) (tops st n : List Int) (rs : List Rl) (Ls : List (Addr × Sd)), vs = [.ref x, .ref a, .ref g, .ref b, .ref r] ∧ Wnt K C H x g tops rs Ls ∧ H a = some (.tup (st.map V.int)) ∧ st ∈ goods tops rs ∧ H b = some (.tup (n.map V.int)) ∧ n ∈ goods tops rs ∧ (∀ s ∈ Ls.map (·.2), inB n s = true) ∧ PapAt H r tops rs (Ls.map (·.2)) st n ∧ ∀ H', Same H H' → Q (.bl true) H'
abbrev a_shows_nearest : Stmt := topS 49
abbrev n_shows_nearest : List Str := ["plan", "standing", "want", "new", "thing"]
theorem sc_shows_nearest : FnScope n_shows_nearest ["plan", "standing", "want", "new", "thing"] (defScope a_shows_nearest) := ⟨rfl, rfl, rfl, by decide +kernel, rfl, by decide +kernel, by decide +kernel⟩
set_option maxHeartbeats 8000000 in
theorem ok_shows_nearest {f fIs fIg fHs fAp : Addr} {fd fdIs fdIg fdHs fdAp : FuncData} {k : Nat} {C : Addr} (F : Fun K "shows_nearest" "shows_nearest" a_shows_nearest f fd) (Is : Kn P w K mg base 3 "is_standing" ["plan", "thing"] (spStn C) fIs fdIs) (Ig : Kn P w K mg base 4 "is_good" ["plan", "standing"] (spGood C) fIg fdIg) (Hs : Kn P w K mg base 2 "has" ["want", "standing"] (spHasP K) fHs fdHs) (Ap : Kn P w K mg base 7 "are_pulls" ["plan", "standing", "want", "new", "thing"] (spAp K C) fAp fdAp)   : FnOk P w K mg base CX0 (k + 8) f fd ["plan", "standing", "want", "new", "thing"] (spSn K C) := by
  refine F.ok sc_shows_nearest (fun vs H Q E h => ?_) (fun cdv A outer s H vs Q E hr h => ?_)
  · obtain ⟨x, a, g, b, r, tops, st, n, rs, Ls, rfl, _⟩ := h
    rfl
  · obtain ⟨x, a, g, b, r, tops, st, n, rs, Ls, rfl, W, ea, hst, eb, hn, hs, pp, q⟩ := h
    refine ⟨_, (pss_cons (ps_if (PW.pt (pw_or (pt_not (pt_val (pe_kn Is hr (by omega) (pa_cons (pv 0) (pa_cons (pv 3) pa_nil))))) (pw_or (pt_not (pt_val (pe_kn Ig hr (by omega) (pa_cons (pv 0) (pa_cons (pv 3) pa_nil))))) (pw_or1 (pt_not (pt_val (pe_kn Hs hr (by omega) (pa_cons (pv 2) (pa_cons (pv 3) pa_nil))))))))) (pss_one (ps_ret pe_bl)) pss_nil)
      (pss_one (ps_ret (pe_kn Ap hr (by omega) (pa_cons (pv 0) (pa_cons (pv 1) (pa_cons (pv 2) (pa_cons (pv 3) (pa_cons (pv 4) pa_nil))))))))), ?_⟩
    have ln := goods_len hn
    have ls := goods_len hst
    refine ⟨.ref x, rfl, .ref b, rfl, x, b, tops, n, rs, rfl, W.hp, eb, ln, W.l12, (goods_mem.mp hn).1.2, fun H1 s1 => ⟨_, rfl, iteF ?_⟩⟩
    have W1 := W.same s1
    refine ⟨.ref x, rfl, .ref b, rfl, x, b, tops, rs, n, rfl, W1.hp, s1 _ _ eb, W.l40, (fun q hq => fit_of (W.rok q hq) ln), fun H2 s2 => ?_⟩
    have gd : rs.all (kept n) = true := List.all_eq_true.mpr (goods_mem.mp hn).2
    rw [gd]
    refine ⟨_, rfl, iteF ?_⟩
    have s02 := s1.trans s2
    have W2 := W.same s02
    refine ⟨.ref g, rfl, .ref b, rfl, g, b, Ls, n, rfl, W2.eg, W2.hL, (fun z hz => by rw [ln]; exact (W.okS z hz).lt), W.lS, s02 _ _ eb, fun H3 s3 => ?_⟩
    rw [show (Ls.map (·.2)).all (inB n) = true from List.all_eq_true.mpr hs]
    have s03 := s02.trans s3
    exact ⟨_, rfl, iteF ⟨.ref x, rfl, .ref a, rfl, .ref g, rfl, .ref b, rfl, .ref r, rfl, x, a, g, b, r, tops, st, n, rs, Ls, rfl, W.same s03, s03 _ _ ea, s03 _ _ eb, ls, ln, pp.keep (.same s03), fun H4 s4 => q H4 (s03.trans s4)⟩⟩
end
end K18

set_option Elab.async false
set_option linter.all false
set_option maxRecDepth 100000
namespace K18
open PySem PySem.Spec PyProof.Rows L2 NB
theorem filter_one {α : Type} (p : α → Bool) (x : α) : [x].filter p = if p x = true then [x] else [] := by
  rw [List.filter_cons]
  rfl

/-! ### rules that three standings keep -/
section
variable {P : Program} {w : World} {K : PySem.W.Frag} {mg : Str → Option Value} {base : Heap}
def spSh : Sp := fun vs H Q _ => ∃ (p t a b : Addr) (c : Nat) (tops sa sb : List Int), vs = [.ref p, .ref t, .ref a, .ref b] ∧ PotAt H p c ∧ c < 900000 ∧ H t = some (.tup (tops.map V.int)) ∧ Pl tops ∧ 1 ≤ tops.length ∧ tops.length ≤ 12 ∧ Std tops H a sa ∧ Std tops H b sb ∧
  ∀ H' g s, But p H H' → PotAt H' p (c + 3) → SideAt H' g s → SideOk tops s → inB sa s = true → inB sb s = true → Q (.ref g) H'
abbrev a__law_shared : Stmt := topS 66
abbrev n__law_shared : List Str := ["_law_pot_here", "_law_tops", "_law_one", "_law_other", "_law_thing", "_law_low", "_law_high"]
theorem sc__law_shared : FnScope n__law_shared ["_law_pot_here", "_law_tops", "_law_one", "_law_other"] (defScope a__law_shared) := ⟨rfl, rfl, rfl, by decide +kernel, rfl, by decide +kernel, by decide +kernel⟩
set_option maxHeartbeats 8000000 in
theorem ok__law_shared {f fTk : Addr} {fd fdTk : FuncData} {k : Nat}  (F : Fun K "_law_shared" "_law_shared" a__law_shared f fd) (Tk : Kn P w K mg base 1 "_law_take" ["_law_pot_here", "_law_many"] spTake fTk fdTk)  (m_len : mg "len" = none) (m_sorted : mg "sorted" = none) : FnOk P w K mg base CX0 (k + 2) f fd ["_law_pot_here", "_law_tops", "_law_one", "_law_other"] spSh := by
  refine F.ok sc__law_shared (fun vs H Q E h => ?_) (fun cdv A outer s H vs Q E hr h => ?_)
  · obtain ⟨p, t, a, b, c, tops, sa, sb, rfl, _⟩ := h
    rfl
  · obtain ⟨p, t, a, b, c, tops, sa, sb, rfl, pp, hc, et, pl, l1, l12, Sa, Sb, q⟩ := h
    refine ⟨_, (pss_cons (ps_set (i := 4) sc__law_shared.nd rfl (.inl rfl) (pe_kn Tk hr (by omega) (pa_cons (pv 0) (pa_cons (pe_callB call_len_seq (by rfl) m_len (by decide +kernel) (pa_cons (pv 1) pa_nil)) pa_nil))))
      (pss_cons (ps_asg (pe_callB cr_sorted (by rfl) m_sorted (by decide +kernel) (pa_cons (pe_lst (pa_cons (pe_ix ix_tup (pv 2) (pv 4) (fun _ _ => rfl)) (pa_cons (pe_ix ix_tup (pv 3) (pv 4) (fun _ _ => rfl)) pa_nil))) pa_nil)) (pg_lst rfl (pgs_cons (pg_name (i := 5) sc__law_shared.nd rfl (.inl rfl)) (pgs_cons (pg_name (i := 6) sc__law_shared.nd rfl (.inl rfl)) pgs_nil))))
      (pss_cons (ps_if (pt_cmpR op_eq (pe_kn Tk hr (by omega) (pa_cons (pv 0) (pa_cons pe_int pa_nil))) pe_int (nomark _)) (pss_one (ps_ret (pe_tup (pa_cons (pv 4) (pa_cons pe_str (pa_cons (pe_kn Tk hr (by omega) (pa_cons (pv 0) (pa_cons (pe_op op_add (pv 5) pe_int) pa_nil))) pa_nil)))))) pss_nil)
      (pss_one (ps_ret (pe_tup (pa_cons (pv 4) (pa_cons pe_str (pa_cons (pe_op op_add (pv 6) (pe_kn Tk hr (by omega) (pa_cons (pv 0) (pa_cons (pe_op op_add (pe_op op_sub (pe_ix ix_tup (pv 1) (pv 4) (fun _ _ => rfl)) (pv 6)) pe_int) pa_nil)))) pa_nil))))))))), ?_⟩
    refine ⟨.ref p, rfl, .ref t, rfl, t, _, rfl, .inr (.inl (.inl et)), p, _, c, rfl, pp, by rw [List.length_map]; omega, by rw [List.length_map]; exact len_bd l12, by omega, fun n H1 b1 p1 n0 n1 => ?_⟩
    rw [List.length_map] at n1
    obtain ⟨n, rfl⟩ : ∃ m : Nat, n = m := ⟨n.toNat, by omega⟩
    have hn : n < tops.length := by omega
    have k1 := Keep.but b1 pp
    have la := Sa.len
    have lb := Sb.len
    have pa : 0 ≤ plc sa n ∧ plc sa n ≤ plc tops n := by
      have h := Sa.pl _ (List.getElem_mem (show n < sa.length by omega))
      rw [← plc_get (show n < sa.length by omega)] at h
      exact ⟨h.1, Sa.le n _ _ (by rw [plc_get (show n < sa.length by omega)]; exact List.getElem?_eq_getElem _) (by rw [plc_get hn]; exact List.getElem?_eq_getElem _)⟩
    have pb : 0 ≤ plc sb n ∧ plc sb n ≤ plc tops n := by
      have h := Sb.pl _ (List.getElem_mem (show n < sb.length by omega))
      rw [← plc_get (show n < sb.length by omega)] at h
      exact ⟨h.1, Sb.le n _ _ (by rw [plc_get (show n < sb.length by omega)]; exact List.getElem?_eq_getElem _) (by rw [plc_get hn]; exact List.getElem?_eq_getElem _)⟩
    have pt := pl _ (List.getElem_mem hn)
    rw [← plc_get hn] at pt
    have ea := (Sa.keep k1).at'
    have eb := (Sb.keep k1).at'
    refine ⟨.ref a, rfl, _, rfl, a, _, (n : Int), .int (plc sa n), rfl, rfl, .inl (.inl ea), plc_at (by omega), .ref b, rfl, _, rfl, b, _, (n : Int), .int (plc sb n), rfl, rfl, .inl (.inl eb), plc_at (by omega), (show 2 ≤ sizeLine by decide), fun l nl => ?_⟩
    have sl := same_new (o := HO.lst [V.int (plc sa n), V.int (plc sb n)]) nl
    refine ⟨l, [plc sa n, plc sb n], rfl, .inl (.inl upd_same), (show 2 < 64 by decide), fun ns' z pm so nz => ?_⟩
    have l2 : ns'.length = 2 := pm.length_eq
    obtain ⟨u1, u2, rfl⟩ : ∃ u1 u2, ns' = [u1, u2] := by
      match ns', l2 with
      | [u1, u2], _ => exact ⟨u1, u2, rfl⟩
    have su : u1 ≤ u2 := by
      rw [List.pairwise_cons] at so
      exact so.1 u2 (by simp)
    have sm : u1 + u2 = plc sa n + plc sb n := by
      have := perm_sum pm
      simp only [List.sum_cons, List.sum_nil] at this
      omega
    have mu : u1 = plc sa n ∨ u1 = plc sb n := by
      have : u1 ∈ [plc sa n, plc sb n] := pm.subset (by simp)
      simpa using this
    have hu : (u1 ≤ plc sa n ∧ u1 ≤ plc sb n) ∧ (plc sa n ≤ u2 ∧ plc sb n ≤ u2) ∧ 0 ≤ u1 ∧ u2 ≤ plc tops n := by omega
    have sz := same_new (o := HO.lst ([u1, u2].map V.int)) nz
    have s2 := sl.trans sz
    have b2 := b1.trans (But.of s2)
    have p2 := p1.keep s2
    refine ⟨z, _, rfl, .inl (.inl upd_same), rfl, _, _, rfl, _, _, rfl, rfl, ?_⟩
    generalize upd (upd H1 l (.lst [V.int (plc sa n), V.int (plc sb n)])) z (.lst ([u1, u2].map V.int)) = H2 at s2 b2 p2 ⊢
    have et2 := (Keep.but b2 pp).tup et
    refine ⟨.ref p, rfl, p, 2, _, rfl, p2, by decide, by decide, by omega, fun y H3 b3 p3 y0 y1 => ⟨rfl, _, rfl, ite2 (fun _ => ?_) (fun _ => ?_)⟩⟩
    · refine ⟨_, rfl, .ref p, rfl, _, rfl, u1, 1, rfl, rfl, p, _, _, rfl, p3, by omega, top_bd (by omega), by omega, fun d H4 b4 p4 d0 d1 => ⟨(show 3 ≤ sizeLine by decide), fun g ng => ?_⟩⟩
      have npg : g ≠ p := p4.ne ng
      have bA := (b2.trans b3).trans b4
      exact q _ g (n, true, d) (but_new bA (bA.free npg ng)) (pot_upd (p4.mono (by omega)) npg) upd_same (SideOk.mk' hn d0 (by omega)) ((inFr (by omega)).mpr (by omega)) ((inFr (by omega)).mpr (by omega))
    · have et3 := (Keep.but b3 p2).tup et2
      refine ⟨_, rfl, _, rfl, .ref p, rfl, .ref t, rfl, _, rfl, t, _, (n : Int), .int (plc tops n), rfl, rfl, .inl (.inl et3), plc_at hn, _, rfl, _, u2, rfl, rfl, _, 1, rfl, rfl, p, _, _, rfl, p3, by omega, Int.lt_of_le_of_lt (show plc tops n - u2 + 1 ≤ 10 ^ 30 by omega) (by decide), by omega, fun d H4 b4 p4 d0 d1 => ⟨_, _, rfl, rfl, (show 3 ≤ sizeLine by decide), fun g ng => ?_⟩⟩
      have npg : g ≠ p := p4.ne ng
      have bA := (b2.trans b3).trans b4
      exact q _ g (n, false, u2 + d) (but_new bA (bA.free npg ng)) (pot_upd (p4.mono (by omega)) npg) upd_same (SideOk.mk' hn (by omega) (by omega)) ((inTo (by omega)).mpr (by omega)) ((inTo (by omega)).mpr (by omega))
/-- three standings in a list -/
structure Thr (H : Hp) (l : Addr) (tops : List Int) (ps : List (Addr × List Int)) : Prop where
  el : H l = some (.lst (refs ps))
  len : ps.length = 3
  st : ∀ z ∈ ps, Std tops H z.1 z.2
theorem Thr.but {H H' : Hp} {l p : Addr} {c : Nat} {tops : List Int} {ps : List (Addr × List Int)} (h : Thr H l tops ps) (ne : l ≠ p) (b : But p H H') (pp : PotAt H p c) : Thr H' l tops ps := ⟨b _ _ ne h.el, h.len, fun z hz => (h.st z hz).keep (Keep.but b pp)⟩
theorem Thr.same {H H' : Hp} {l : Addr} {tops : List Int} {ps : List (Addr × List Int)} (h : Thr H l tops ps) (s : Same H H') : Thr H' l tops ps := ⟨s _ _ h.el, h.len, fun z hz => (h.st z hz).keep (.same s)⟩
def spO3 : Sp := fun vs H Q _ => ∃ (p t l : Addr) (m : Int) (c : Nat) (tops : List Int) (ps : List (Addr × List Int)), vs = [.ref p, .ref t, .ref l, .int m] ∧ PotAt H p c ∧ c < 800000 ∧ l ≠ p ∧ H t = some (.tup (tops.map V.int)) ∧ Pl tops ∧ 1 ≤ tops.length ∧ tops.length ≤ 12 ∧ Thr H l tops ps ∧ 0 ≤ m ∧ m ≤ 10 ∧
  ∀ H' R rs, But p H H' → PotAt H' p (c + 80) → RulesAt H' R rs → rs.length ≤ 10 → (∀ q ∈ rs, RuleOk tops q ∧ ∀ z ∈ ps, kept z.2 q = true) → Q (.ref R) H'
abbrev a__law_of_three : Stmt := topS 67
abbrev n__law_of_three : List Str := ["_law_pot_here", "_law_tops", "_law_three", "_law_many", "_law_found", "_law_turn", "_law_at", "_law_one", "_law_other", "_law_both", "_law_k"]
theorem sc__law_of_three : FnScope n__law_of_three ["_law_pot_here", "_law_tops", "_law_three", "_law_many"] (defScope a__law_of_three) := ⟨rfl, rfl, rfl, by decide +kernel, rfl, by decide +kernel, by decide +kernel⟩
set_option maxHeartbeats 8000000 in
theorem ok__law_of_three {f fTk fSh : Addr} {fd fdTk fdSh : FuncData} {k : Nat}  (F : Fun K "_law_of_three" "_law_of_three" a__law_of_three f fd) (Tk : Kn P w K mg base 1 "_law_take" ["_law_pot_here", "_law_many"] spTake fTk fdTk) (Sh : Kn P w K mg base 2 "_law_shared" ["_law_pot_here", "_law_tops", "_law_one", "_law_other"] spSh fSh fdSh)  (m_range : mg "range" = none) (m_tuple : mg "tuple" = none) : FnOk P w K mg base CX0 (k + 3) f fd ["_law_pot_here", "_law_tops", "_law_three", "_law_many"] spO3 := by
  refine F.ok sc__law_of_three (fun vs H Q E h => ?_) (fun cdv A outer s H vs Q E hr h => ?_)
  · obtain ⟨p, t, l, m, c, tops, ps, rfl, _⟩ := h
    rfl
  · obtain ⟨p, t, l, m, c, tops, ps, rfl, pp, hc, nlp, et, pl, l1, l12, th, m0, m10, q⟩ := h
    refine ⟨_, (pss_cons (ps_set (i := 4) sc__law_of_three.nd rfl (.inl rfl) (pe_lst pa_nil))
      (pss_cons (ps_for PassesOwn.never rfl (pi_range1 (by rfl) m_range (pa_cons (pv 3) pa_nil)) (pg_name (i := 5) sc__law_of_three.nd rfl (.inl rfl))
        (pss_cons (ps_set (i := 6) sc__law_of_three.nd rfl (.inr rfl) (pe_kn Tk hr (by omega) (pa_cons (pv 0) (pa_cons pe_int pa_nil))))
      (pss_cons (ps_asg (
        pe_lc (own := [("_law_k", 10)]) (g := (gName 10)) (tt := (tTest (tOp rNe (tVar 10) (tVar 6)))) (te := (tOp (rIxL K) (tVar 2) (tVar 10))) rfl sc__law_of_three.nd (pi_range1 (by rfl) m_range (pa_cons pe_int pa_nil)) (blkOk_by (N := n__law_of_three) (sc := defScope a__law_of_three) (by decide +kernel))
          (fun _ _ _ _ _ => (pg_name (i := 10) sc__law_of_three.nd rfl (.inl rfl) (hf := .inr rfl))) (fun _ _ _ _ _ => pts_one (pt_cmpR (r := rNe) op_ne (pv 10) (pv 6) (nomark _))) (fun _ _ _ _ _ => (pe_ix (r := rIxL K) ix_list (pv 2) (pv 10) (fun _ _ => rfl)))) (pg_lst rfl (pgs_cons (pg_name (i := 7) sc__law_of_three.nd rfl (.inl rfl)) (pgs_cons (pg_name (i := 8) sc__law_of_three.nd rfl (.inl rfl)) pgs_nil))))
      (pss_cons (ps_set (i := 9) sc__law_of_three.nd rfl (.inl rfl) (pe_tup (pa_cons (pe_kn Sh hr (by omega) (pa_cons (pv 0) (pa_cons (pv 1) (pa_cons (pv 7) (pa_cons (pv 8) pa_nil))))) (pa_cons (pe_kn Sh hr (by omega) (pa_cons (pv 0) (pa_cons (pv 1) (pa_cons (pe_ix ix_list (pv 2) (pv 6) (fun _ _ => rfl)) (pa_cons (pe_ix ix_list (pv 2) (pv 6) (fun _ _ => rfl)) pa_nil))))) pa_nil))))
      (pss_one (ps_expr (pe_bm PySem.F.plainAttrs_list PySem.F.slot_list_append PySem.F.type_list_append mt_append (pv 4) (pa_cons (pe_ifExp (pt_cmpR op_eq (pe_kn Tk hr (by omega) (pa_cons (pv 0) (pa_cons pe_int pa_nil))) pe_int (nomark _)) (pe_revT (pv 9)) (pv 9)) pa_nil))))))))
      (pss_one (ps_ret (pe_callTy call_tuple_of (by rfl) m_tuple (by decide +kernel) (pa_cons (pv 4) pa_nil)))))), ?_⟩
    obtain ⟨z0, z1, z2, eps⟩ : ∃ z0 z1 z2, ps = [z0, z1, z2] := by
      match ps, th.len with
      | [z0, z1, z2], _ => exact ⟨z0, z1, z2, rfl⟩
    refine ⟨Nat.zero_le _, fun f nf => ?_⟩
    have sf := same_new (o := HO.lst []) nf
    have nfp : f ≠ p := pp.ne nf
    refine ⟨_, rfl, m, rfl, by omega, by omega, for_it walk_range (fun i σ H' => (∃ u5 u6 u7 u8 u9 u10, σ = [some (.ref p), some (.ref t), some (.ref l), some (.int m), some (.ref f), u5, u6, u7, u8, u9, u10]) ∧ But p H H' ∧ PotAt H' p (c + 8 * i) ∧ ∃ (as : List Addr) (rs : List Rl), H' f = some (.lst (as.map V.ref)) ∧ as.length = i ∧ as.length = rs.length ∧ (∀ (j : Nat) (r : Addr) (q : Rl), as[j]? = some r → rs[j]? = some q → RuleAt H' r q) ∧ ∀ q ∈ rs, RuleOk tops q ∧ ∀ z ∈ ps, kept z.2 q = true)
      ⟨⟨_, _, _, _, _, _, rfl⟩, but_new (fun _ _ _ e => e) nf, pot_upd pp nfp, [], [], upd_same, rfl, rfl, (fun j r q h => by simp at h), fun _ h => absurd h List.not_mem_nil⟩ (fun _ _ _ _ _ => trivial) (fun i v σ H2' H2 hi y z => ?_) (fun σ H2 y => ?_)⟩
    · obtain ⟨⟨u5, u6, u7, u8, u9, u10, rfl⟩, b2, p2, as, rs, ef, li, la, ra, rok⟩ := y
      obtain ⟨rfl, rfl⟩ := z
      have i10 : i < 10 := by omega
      have th2 := th.but nlp b2 pp
      refine ⟨.ref p, rfl, p, 3, _, rfl, p2, by decide, by decide, by omega, fun at' H3 b3 p3 at0 at1 => ?_⟩
      have th3 := th2.but nlp b3 p2
      obtain ⟨at', rfl⟩ : ∃ k : Nat, at' = k := ⟨at'.toNat, by omega⟩
      have hat : at' < 3 := by omega
      have adr : ∀ k, k < 3 → ∃ z, ps[k]? = some z := fun k hk => ⟨_, List.getElem?_eq_getElem (by rw [th.len]; exact hk)⟩
      refine ⟨3, rfl, by decide, by decide, fun D nD => lc_it walk_range (fun k H' => Same H3 H' ∧ H' D = some (.lst ((((List.range k).filter fun x => decide (x ≠ at')).map fun x => V.ref ((ps.map (·.1)).getD x 0))))) ⟨same_new nD, upd_same⟩ (fun _ _ _ _ => trivial) (fun k v H4' H4 hk y z => ?_) (fun H4 y => ?_)⟩
      · obtain ⟨s4, eD⟩ := y
        obtain ⟨rfl, rfl⟩ := z
        have hk3 : k < 3 := hk
        have tk : (List.range (k + 1)).filter (fun x => decide (x ≠ at')) = (List.range k).filter (fun x => decide (x ≠ at')) ++ (if k ≠ at' then [k] else []) := by
          rw [List.range_succ, List.filter_append, filter_one]
          by_cases c : k ≠ at'
          · rw [if_pos c, if_pos (decide_eq_true c)]
          · rw [if_neg c, if_neg (fun z => c (of_decide_eq_true z))]
        refine ⟨wipe_one, _, rfl, _, rfl, rfl, _, rfl, ite2 (fun c => ?_) (fun c => ?_)⟩
        · have c' : k ≠ at' := fun z => by
            rw [z] at c
            simp at c
          obtain ⟨z, ez⟩ := adr k hk3
          have eg : (ps.map (·.1)).getD k 0 = z.1 := by
            rw [List.getD_eq_getElem?_getD, List.getElem?_map, ez]
            rfl
          refine ⟨.ref l, rfl, _, rfl, l, _, _, .ref z.1, rfl, rfl, .inl (.inl (s4 _ _ th3.el)), by rw [Int.zero_add]; exact atI_nat (by rw [List.getElem?_map, ez]; rfl), _, eD, ?_, same_over s4 nD, ?_⟩
          · rw [List.length_map]
            have := List.length_filter_le (fun x => decide (x ≠ at')) (List.range k)
            rw [List.length_range] at this
            exact small1000 (by omega)
          · rw [upd_same, tk, if_pos c', List.map_append]
            simp only [List.map_cons, List.map_nil, eg]
        · have c' : ¬ k ≠ at' := fun z => c (by
            show (!decide (V.int (0 + (k : Int)) = V.int (at' : Int))) = true
            rw [Int.zero_add, decide_eq_false (fun y => z (by injection y with y; omega))]
            rfl)
          refine ⟨s4, ?_⟩
          rw [tk, if_neg c', List.append_nil]
          exact eD
      obtain ⟨s4, eD⟩ := y
      have th4 := th3.same s4
      have p4 := p3.keep s4
      obtain ⟨ka, kb, ea, eb, ek, hka, hkb, cov⟩ : ∃ ka kb : Nat, ka < 3 ∧ kb < 3 ∧ (List.range 3).filter (fun x => decide (x ≠ at')) = [ka, kb] ∧ ka ≠ at' ∧ kb ≠ at' ∧ ∀ x, x < 3 → x = ka ∨ x = kb ∨ x = at' := by
        have : at' = 0 ∨ at' = 1 ∨ at' = 2 := by omega
        rcases this with rfl | rfl | rfl
        · exact ⟨1, 2, by decide, by decide, by decide, by decide, by decide, fun x hx => by omega⟩
        · exact ⟨0, 2, by decide, by decide, by decide, by decide, by decide, fun x hx => by omega⟩
        · exact ⟨0, 1, by decide, by decide, by decide, by decide, by decide, fun x hx => by omega⟩
      rw [show Int.toNat 3 = 3 from rfl, ek] at eD
      obtain ⟨za, eza⟩ := adr ka ea
      obtain ⟨zb, ezb⟩ := adr kb eb
      obtain ⟨zc, ezc⟩ := adr at' hat
      have ga : (ps.map (·.1)).getD ka 0 = za.1 := by
        rw [List.getD_eq_getElem?_getD, List.getElem?_map, eza]
        rfl
      have gb : (ps.map (·.1)).getD kb 0 = zb.1 := by
        rw [List.getD_eq_getElem?_getD, List.getElem?_map, ezb]
        rfl
      simp only [List.map_cons, List.map_nil, ga, gb] at eD
      refine ⟨D, _, rfl, .inl (.inl eD), rfl, _, _, rfl, _, _, rfl, rfl, ?_⟩
      have b34 := b3.trans (But.of s4)
      have k4 := Keep.but (b2.trans b34) pp
      refine ⟨.ref p, rfl, .ref t, rfl, .ref za.1, rfl, .ref zb.1, rfl, p, t, za.1, zb.1, _, tops, za.2, zb.2, rfl, p4, by omega, k4.tup et, pl, l1, l12, th4.st za (List.mem_of_getElem? eza), th4.st zb (List.mem_of_getElem? ezb), fun H5 g1 s1 b5 p5 e1 ok1 i1a i1b => ?_⟩
      have th5 := th4.but nlp b5 p4
      have k5 := Keep.but ((b2.trans b34).trans b5) pp
      refine ⟨.ref p, rfl, .ref t, rfl, .ref l, rfl, _, rfl, l, _, _, .ref zc.1, rfl, rfl, .inl (.inl th5.el), atI_nat (by rw [List.getElem?_map, ezc]; rfl), .ref l, rfl, _, rfl, l, _, _, .ref zc.1, rfl, rfl, .inl (.inl th5.el), atI_nat (by rw [List.getElem?_map, ezc]; rfl), p, t, zc.1, zc.1, _, tops, zc.2, zc.2, rfl, p5, by omega, k5.tup et, pl, l1, l12, th5.st zc (List.mem_of_getElem? ezc), th5.st zc (List.mem_of_getElem? ezc), fun H6 g2 s2 b6 p6 e2 ok2 i2a _ => ?_⟩
      have e1' := e1.keep (Keep.but b6 p5)
      refine ⟨(show 2 ≤ sizeLine by decide), fun g ng => ?_⟩
      have nga : g ≠ p := p6.ne ng
      have sg := same_new (o := HO.tup [V.ref g1, V.ref g2]) ng
      have p7 := p6.keep sg
      have b37 : But p H2 (upd H6 g (.tup [V.ref g1, V.ref g2])) := ((b34.trans b5).trans b6).trans (But.of sg)
      have e17 := e1'.keep (.same sg)
      have e27 := e2.keep (.same sg)
      have eg7 : (upd H6 g (.tup [V.ref g1, V.ref g2])) g = some (.tup [V.ref g1, V.ref g2]) := upd_same
      generalize upd H6 g (.tup [V.ref g1, V.ref g2]) = H7 at p7 b37 e17 e27 eg7 ⊢
      have nfp' : f ≠ p := nfp
      have ef7 : H7 f = some (.lst (as.map V.ref)) := b37 _ _ nfp' ef
      have kp : ∀ z ∈ ps, (inB z.2 s1 = true ∨ inB z.2 s2 = true) := fun z hz => by
        obtain ⟨x, hx, e⟩ := List.getElem_of_mem hz
        have hx3 : x < 3 := by rw [← th.len]; exact hx
        have ez : ps[x]? = some z := by rw [List.getElem?_eq_getElem hx, e]
        rcases cov x hx3 with rfl | rfl | rfl
        · rw [eza] at ez
          cases ez
          exact .inl i1a
        · rw [ezb] at ez
          cases ez
          exact .inl i1b
        · rw [ezc] at ez
          cases ez
          exact .inr i2a
      have fin : ∀ (H8 : Hp) (r : Addr) (q' : Rl), But p H7 H8 → PotAt H8 p (c + 8 * i + 8) → H8 f = some (.lst (as.map V.ref)) → RuleAt H8 r q' → RuleOk tops q' → (∀ z ∈ ps, kept z.2 q' = true) → But p H (upd H8 f (.lst (as.map V.ref ++ [V.ref r]))) ∧ PotAt (upd H8 f (.lst (as.map V.ref ++ [V.ref r]))) p (c + 8 * (i + 1)) ∧ ∃ (as' : List Addr) (rs' : List Rl), (upd H8 f (.lst (as.map V.ref ++ [V.ref r]))) f = some (.lst (as'.map V.ref)) ∧ as'.length = i + 1 ∧ as'.length = rs'.length ∧ (∀ (j : Nat) (r : Addr) (q : Rl), as'[j]? = some r → rs'[j]? = some q → RuleAt (upd H8 f (.lst (as.map V.ref ++ [.ref r]))) r q → True) ∧ (∀ (j : Nat) (r' : Addr) (q : Rl), as'[j]? = some r' → rs'[j]? = some q → RuleAt (upd H8 f (.lst (as.map V.ref ++ [V.ref r]))) r' q) ∧ ∀ q ∈ rs', RuleOk tops q ∧ ∀ z ∈ ps, kept z.2 q = true := fun H8 r q' b8 p8 ef8 hr ok kk => by
        have kU : Keep H8 (upd H8 f (.lst (as.map V.ref ++ [V.ref r]))) := .upd ef8
        refine ⟨but_new ((b2.trans b37).trans b8) nf, pot_upd (p8.mono (by omega)) nfp', as ++ [r], rs ++ [q'], by rw [upd_same, List.map_append]; rfl, by rw [List.length_append, li]; rfl, by rw [List.length_append, List.length_append, la]; rfl, (fun _ _ _ _ _ _ => trivial), rules_snoc la ra ((Keep.but (b37.trans b8) p2).trans kU) (hr.keep kU), fun y hy => ?_⟩
        rcases List.mem_append.mp hy with h | h
        · exact rok y h
        · rw [List.mem_singleton.mp h]
          exact ⟨ok, kk⟩
      have sml : (as.map V.ref).length < sizeLine := by
        rw [List.length_map]
        exact small1000 (by omega)
      refine ⟨.ref f, rfl, .inl ⟨rfl, _, .inl (.inl ef7)⟩, .ref p, rfl, p, 2, _, rfl, p7, by decide, by decide, by omega, fun y H8 b8 p8 y0 y1 => ⟨rfl, _, rfl, ite2 (fun _ => ?_) (fun _ => ?_)⟩⟩
      · have k8 := Keep.but b8 p7
        refine ⟨.ref g, rfl, g, _, rfl, .inl (.inl (k8.tup eg7)), fun r nr => ?_⟩
        have sr := same_new (o := HO.tup [V.ref g1, V.ref g2].reverse) nr
        have ef9 := sr _ _ (b8 _ _ nfp' ef7)
        obtain ⟨f1, f2, as', rs', f3, f4, f5, _, f6, f7⟩ := fin _ r (s2, s1) (b8.trans (But.of sr)) (p8.keep sr) ef9 ⟨g2, g1, upd_same, (e27.keep k8).keep (.same sr), (e17.keep k8).keep (.same sr)⟩ ⟨ok2, ok1⟩ fun z hz => by
          show (inB z.2 s2 || inB z.2 s1) = true
          rcases kp z hz with h | h <;> rw [h] <;> simp
        exact ⟨f, _, _, rfl, rfl, ef9, sml, ⟨_, _, _, _, _, _, rfl⟩, f1, f2, as', rs', f3, f4, f5, f6, f7⟩
      · have k8 := Keep.but b8 p7
        have ef9 := b8 _ _ nfp' ef7
        obtain ⟨f1, f2, as', rs', f3, f4, f5, _, f6, f7⟩ := fin _ g (s1, s2) b8 p8 ef9 ⟨g1, g2, k8.tup eg7, e17.keep k8, e27.keep k8⟩ ⟨ok1, ok2⟩ fun z hz => by
          show (inB z.2 s1 || inB z.2 s2) = true
          rcases kp z hz with h | h <;> rw [h] <;> simp
        exact ⟨.ref g, rfl, f, _, _, rfl, rfl, ef9, sml, ⟨_, _, _, _, _, _, rfl⟩, f1, f2, as', rs', f3, f4, f5, f6, f7⟩
    · obtain ⟨⟨u5, u6, u7, u8, u9, u10, rfl⟩, b2, p2, as, rs, ef, li, la, ra, rok⟩ := y
      refine ⟨.ref f, rfl, f, _, rfl, .inl ⟨.inl (.inl ef), fun R nR => ?_⟩⟩
      have sR := same_new (o := HO.tup (as.map V.ref)) nR
      exact q _ R rs (b2.trans (But.of sR)) ((p2.keep sR).mono (by omega)) ⟨as, upd_same, la, fun j r y h1 h2 => (ra j r y h1 h2).keep (.same sR)⟩ (by omega) rok
end
end K18

set_option Elab.async false
set_option linter.all false
set_option maxRecDepth 100000
namespace K18
open PySem PySem.Spec PyProof.Rows L2 NB

/-! ### middles and rooms: the mathematics -/
theorem plc_mid {a b c : List Int} (lb : b.length = a.length) (lc : c.length = a.length) {i : Nat} (hi : i < a.length) : plc (z3 mid3 a b c) i = mid3 (plc a i) (plc b i) (plc c i) := by
  have h := z3_get (f := mid3) a b c i (plc a i) (plc b i) (plc c i) (by rw [plc_get hi]; exact List.getElem?_eq_getElem hi) (by rw [plc_get (show i < b.length by omega)]; exact List.getElem?_eq_getElem _) (by rw [plc_get (show i < c.length by omega)]; exact List.getElem?_eq_getElem _)
  have hl : i < (z3 mid3 a b c).length := by rw [z3_len a b c lb lc]; exact hi
  rw [plc_get hl]
  rw [List.getElem?_eq_getElem hl] at h
  exact Option.some.inj h
theorem mid3_all {x y z m : Int} (h : m = mid3 x y z) : (x ≤ y ∧ y ≤ z ∧ m = y) ∨ (x ≤ z ∧ z ≤ y ∧ m = z) ∨ (y ≤ x ∧ x ≤ z ∧ m = x) ∨ (y ≤ z ∧ z ≤ x ∧ m = z) ∨ (z ≤ x ∧ x ≤ y ∧ m = x) ∨ (z ≤ y ∧ y ≤ x ∧ m = y) := by
  unfold mid3 at h
  split at h <;> split at h
  · omega
  · split at h <;> omega
  · omega
  · split at h <;> omega
theorem side_mid3 {a b c m : List Int} {s : Sd} (la : s.1 < a.length) (lb : s.1 < b.length) (lc : s.1 < c.length) (lm : s.1 < m.length) (h : plc m s.1 = mid3 (plc a s.1) (plc b s.1) (plc c s.1)) (two : (inB a s = true ∧ inB b s = true) ∨ (inB a s = true ∧ inB c s = true) ∨ (inB b s = true ∧ inB c s = true)) : inB m s = true := by
  rw [tst_in la, tst_in lb, tst_in lc] at two
  rw [tst_in lm]
  have h' := mid3_all h
  obtain ⟨i, w, p⟩ := s
  cases w <;> simp at two h' ⊢ <;> omega
theorem kept_mid3 {a b c m : List Int} {q : Rl} (fa : Fit a q) (fb : Fit b q) (fc : Fit c q) (fm : Fit m q) (h : ∀ k, k < a.length → plc m k = mid3 (plc a k) (plc b k) (plc c k)) (ka : kept a q = true) (kb : kept b q = true) (kc : kept c q = true) : kept m q = true := by
  unfold kept at *
  rw [Bool.or_eq_true] at ka kb kc ⊢
  have l := side_mid3 fa.1 fb.1 fc.1 fm.1 (h q.1.1 fa.1)
  have r := side_mid3 fa.2 fb.2 fc.2 fm.2 (h q.2.1 fa.2)
  rcases ka with ka | ka <;> rcases kb with kb | kb <;> rcases kc with kc | kc
  · exact .inl (l (.inl ⟨ka, kb⟩))
  · exact .inl (l (.inl ⟨ka, kb⟩))
  · exact .inl (l (.inr (.inl ⟨ka, kc⟩)))
  · exact .inr (r (.inr (.inr ⟨kb, kc⟩)))
  · exact .inl (l (.inr (.inr ⟨kb, kc⟩)))
  · exact .inr (r (.inr (.inl ⟨ka, kc⟩)))
  · exact .inr (r (.inl ⟨ka, kb⟩))
  · exact .inr (r (.inl ⟨ka, kb⟩))
section
variable {tops : List Int} {rs : List Rl}
theorem mid_mem (rok : ∀ q ∈ rs, RuleOk tops q) {a b c : List Int} (ha : a ∈ goods tops rs) (hb : b ∈ goods tops rs) (hc : c ∈ goods tops rs) : z3 mid3 a b c ∈ goods tops rs := by
  obtain ⟨⟨la, ba⟩, ga⟩ := goods_mem.mp ha
  obtain ⟨⟨lb, bb⟩, gb⟩ := goods_mem.mp hb
  obtain ⟨⟨lc, bc⟩, gc⟩ := goods_mem.mp hc
  have lm : (z3 mid3 a b c).length = a.length := z3_len a b c (by omega) (by omega)
  refine goods_mem.mpr ⟨⟨by omega, fun j hj => ?_⟩, fun q hq => ?_⟩
  · have e := plc_mid (a := a) (b := b) (c := c) (by omega) (by omega) (i := j) (by omega)
    have := mid3_all e
    have := ba j hj
    have := bb j hj
    have := bc j hj
    omega
  · exact kept_mid3 (fit_of (rok q hq) la) (fit_of (rok q hq) lb) (fit_of (rok q hq) lc) (fit_of (rok q hq) (by omega)) (fun k hk => plc_mid (by omega) (by omega) hk) (ga q hq) (gb q hq) (gc q hq)
theorem mid3_same {x y m : Int} (h : m = mid3 x y x) : m = x := by
  have := mid3_all h
  omega
theorem mid3_step {x n y z : Int} (h : y = z - 1 ∨ y = z + 1) : mid3 x n y = mid3 x n z ∨ mid3 x n y = mid3 x n z - 1 ∨ mid3 x n y = mid3 x n z + 1 := by
  have h1 := mid3_all (rfl : mid3 x n y = mid3 x n y)
  have h2 := mid3_all (rfl : mid3 x n z = mid3 x n z)
  generalize mid3 x n y = p at *
  generalize mid3 x n z = q at *
  omega
end

/-! ### middles are the nearest: the law -/
theorem bet_all {goal h m : List Int} (lg : goal.length = h.length) (lm : m.length = h.length) (b : ∀ i, i < h.length → Btw (plc h i) (plc m i) (plc goal i)) : (z3 btw h m goal).all id = true := by
  rw [List.all_eq_true]
  intro x hx
  obtain ⟨i, hi, e⟩ := List.getElem_of_mem hx
  have hl : i < h.length := by rw [z3_len h m goal lm lg] at hi; exact hi
  have g := z3_get (f := btw) h m goal i (plc h i) (plc m i) (plc goal i) (by rw [plc_get hl]; exact List.getElem?_eq_getElem hl) (by rw [plc_get (show i < m.length by omega)]; exact List.getElem?_eq_getElem _) (by rw [plc_get (show i < goal.length by omega)]; exact List.getElem?_eq_getElem _)
  rw [List.getElem?_eq_getElem hi, e] at g
  have q := b i hl
  unfold Btw at q
  rw [Option.some.inj g]
  show btw _ _ _ = true
  unfold btw
  rw [decide_eq_true q.1, decide_eq_true q.2]
  rfl
def alike (a b : List Int) : List Sd := (List.range a.length).flatMap fun i => [(i, true, min (plc a i) (plc b i)), (i, false, max (plc a i) (plc b i))]
theorem alike_mem {a b : List Int} {s : Sd} : s ∈ alike a b ↔ ∃ i, i < a.length ∧ (s = (i, true, min (plc a i) (plc b i)) ∨ s = (i, false, max (plc a i) (plc b i))) := by
  unfold alike
  rw [List.mem_flatMap]
  constructor
  · rintro ⟨i, hi, h⟩
    refine ⟨i, List.mem_range.mp hi, ?_⟩
    simpa using h
  · rintro ⟨i, hi, h⟩
    exact ⟨i, List.mem_range.mpr hi, by simpa using h⟩
theorem alike_len (a b : List Int) : (alike a b).length = 2 * a.length := by
  unfold alike
  generalize a.length = n
  induction n with
  | zero => rfl
  | succ n ih =>
    rw [List.range_succ, List.flatMap_append, List.length_append, ih]
    simp
    omega
/-- the middle of three is the nearest one that has all that two of them have alike -/
theorem near_mid {tops : List Int} {rs : List Rl} {c a b m : List Int} (ha : a ∈ goods tops rs) (hb : b ∈ goods tops rs) (hc : c ∈ goods tops rs) (hm : m ∈ goods tops rs) (h : ∀ i, i < tops.length → plc m i = max (min (plc a i) (plc b i)) (min (plc c i) (max (plc a i) (plc b i)))) : Nrst tops rs (alike a b) c m := by
  have la := goods_len ha
  have lm := goods_len hm
  refine ⟨hm, fun s hs => ?_, fun g hg ig i hi => ?_⟩
  · obtain ⟨i, hi, e⟩ := alike_mem.mp hs
    have := h i (by omega)
    rcases e with rfl | rfl
    · exact (inFr (by omega)).mpr (by omega)
    · exact (inTo (by omega)).mpr (by omega)
  · have lg := goods_len hg
    have h1 := (inFr (show i < g.length by omega)).mp (ig _ (alike_mem.mpr ⟨i, by omega, .inl rfl⟩))
    have h2 := (inTo (show i < g.length by omega)).mp (ig _ (alike_mem.mpr ⟨i, by omega, .inr rfl⟩))
    have := h i hi
    unfold Btw
    omega
theorem alike_ok {tops : List Int} {rs : List Rl} {a b : List Int} (ha : a ∈ goods tops rs) (hb : b ∈ goods tops rs) : ∀ s ∈ alike a b, SideOk tops s := fun s hs => by
  obtain ⟨i, hi, e⟩ := alike_mem.mp hs
  have la := goods_len ha
  have h1 := (goods_mem.mp ha).1.2 i (by omega)
  have h2 := (goods_mem.mp hb).1.2 i (by omega)
  rcases e with rfl | rfl
  · exact SideOk.mk' (by omega) (by omega) (by omega)
  · exact SideOk.mk' (by omega) (by omega) (by omega)
theorem alike_has {tops : List Int} {rs : List Rl} {a b : List Int} (ha : a ∈ goods tops rs) : ∀ s ∈ alike a b, inB a s = true := fun s hs => by
  obtain ⟨i, hi, e⟩ := alike_mem.mp hs
  rcases e with rfl | rfl
  · exact (inFr hi).mpr (by omega)
  · exact (inTo hi).mpr (by omega)
section
variable {P : Program} {w : World} {K : PySem.W.Frag} {mg : Str → Option Value} {base : Heap}
abbrev a__law_middle : Stmt := topS 68
abbrev n__law_middle : List Str := ["_law_one", "_law_two", "_law_three", "_law_places"]
theorem sc__law_middle : FnScope n__law_middle ["_law_one", "_law_two", "_law_three"] (defScope a__law_middle) := ⟨rfl, rfl, rfl, by decide +kernel, rfl, by decide +kernel, by decide +kernel⟩
set_option maxHeartbeats 8000000 in
theorem ok__law_middle {f  : Addr} {fd  : FuncData} {k : Nat}  (F : Fun K "_law_middle" "_law_middle" a__law_middle f fd)   (m_sorted : mg "sorted" = none) (m_tuple : mg "tuple" = none) (m_zip : mg "zip" = none) : FnOk P w K mg base CX0 (k + 1) f fd ["_law_one", "_law_two", "_law_three"] (spMiddle K) := by
  refine F.ok sc__law_middle (fun vs H Q E h => ?_) (fun cdv A outer s H vs Q E hr h => ?_)
  · obtain ⟨a, b, c, xs, ys, zs, rfl, _⟩ := h
    rfl
  · obtain ⟨a, b, c, xs, ys, zs, rfl, hx, hy, hz, hl, hm, hn, q⟩ := h
    refine ⟨_, (pss_one (ps_ret (pe_callTy call_tuple_of (by rfl) m_tuple (by decide +kernel) (pa_cons (
        pe_lc (own := [("_law_places", 3)]) (g := (gName 3)) (tt := tYes)  rfl sc__law_middle.nd (pi_zip3 (by rfl) m_zip (pa_cons (pv 0) (pa_cons (pv 1) (pa_cons (pv 2) pa_nil)))) (blkOk_by (N := n__law_middle) (sc := defScope a__law_middle) (by decide +kernel))
          (fun _ _ _ _ _ => (pg_name (i := 3) sc__law_middle.nd rfl (.inl rfl) (hf := .inr rfl))) (fun _ _ _ _ _ => pts_nil) (fun _ _ _ _ _ => (pe_ix (r := rIxL K) ix_list (pe_callB (id := "sorted") (r := rSortT K) cr_sortT (by rfl) m_sorted (by decide +kernel) (pa_cons (pv 3) pa_nil)) pe_int (fun _ _ => rfl)))) pa_nil)))), ?_⟩
    refine ⟨.ref a, rfl, .ref b, rfl, .ref c, rfl, a, b, c, _, _, _, rfl, hx, hy, hz, fun D nD => lc_it (walk_zip3 (xs := xs.map V.int) (ys := ys.map V.int) (zs := zs.map V.int) (by simpa using hl) (by simpa using hm)) (fun i H' => Same H H' ∧ H' D = some (.lst (((z3 mid3 xs ys zs).take i).map V.int))) ⟨same_new nD, upd_same⟩ (fun i H' _ p => ⟨sameT p.1 hx, sameT p.1 hy, sameT p.1 hz⟩) (fun i v H1 H2 hi p y => ?_) (fun H' p => ?_)⟩
    · obtain ⟨sm, eD⟩ := p
      obtain ⟨T, x, y, z, rfl, nT, rfl, gx, gy, gz⟩ := y
      obtain ⟨x, ex, rfl⟩ := mapGet gx
      obtain ⟨y, ey, rfl⟩ := mapGet gy
      obtain ⟨z, ez, rfl⟩ := mapGet gz
      have nTD : D ≠ T := ne_of_none eD nT
      refine ⟨rfl, .ref T, rfl, T, [x, y, z], rfl, .inl (.inl upd_same), (show 3 < 64 by decide), fun ns' p pm so np => ?_⟩
      have l3 : ns'.length = 3 := pm.length_eq
      obtain ⟨u1, u2, u3, rfl⟩ : ∃ u1 u2 u3, ns' = [u1, u2, u3] := by
        match ns', l3 with
        | [u1, u2, u3], _ => exact ⟨u1, u2, u3, rfl⟩
      have em : u2 = mid3 x y z := mid_of_sorted pm so
      have nDp : D ≠ p := fun e => by
        rw [← e, upd_ne nTD, eD] at np
        cases np
      refine ⟨p, _, 1, .int u2, rfl, rfl, .inl (.inl upd_same), atI_nat (j := 1) rfl, _, (upd_ne nDp).trans ((upd_ne nTD).trans eD), take_small (by rw [z3_len xs ys zs hl hm]; exact hn) _, ?_, ?_⟩
      · refine same_over (same_over (same_over sm (sm.free nT)) ?_) nD
        have smT : Same H (upd H1 T (.tup [V.int x, V.int y, V.int z])) := same_over sm (sm.free nT)
        exact smT.free np
      · rw [upd_same, take_map _ _ _ _ (z3_get xs ys zs i x y z ex ey ez), em]
    · obtain ⟨sm, eD⟩ := p
      refine ⟨D, _, rfl, .inl ⟨.inl (.inl eD), fun l nl => ?_⟩⟩
      rw [List.length_map, List.take_of_length_le (by rw [z3_len xs ys zs hl hm]; exact Nat.le_refl _)]
      exact q _ l (same_over sm (sm.free nl)) (sm.free nl) upd_same
def spAl : Sp := fun vs H Q _ => ∃ (a b : Addr) (sa sb : List Int), vs = [.ref a, .ref b] ∧ H a = some (.tup (sa.map V.int)) ∧ H b = some (.tup (sb.map V.int)) ∧ sb.length = sa.length ∧ sa.length ≤ 12 ∧
  ∀ H' g Ls, Same H H' → H' g = some (.tup (sdR Ls)) → SdsAt H' Ls → Ls.map (·.2) = alike sa sb → Q (.ref g) H'
abbrev a__law_alike : Stmt := topS 69
abbrev n__law_alike : List Str := ["_law_one", "_law_other", "_law_found", "_law_thing", "_law_here", "_law_there"]
theorem sc__law_alike : FnScope n__law_alike ["_law_one", "_law_other"] (defScope a__law_alike) := ⟨rfl, rfl, rfl, by decide +kernel, rfl, by decide +kernel, by decide +kernel⟩
set_option maxHeartbeats 8000000 in
theorem ok__law_alike {f  : Addr} {fd  : FuncData} {k : Nat}  (F : Fun K "_law_alike" "_law_alike" a__law_alike f fd)  (m_zip : mg "zip" = none) (m_enumerate : mg "enumerate" = none) (m_max : mg "max" = none) (m_min : mg "min" = none) (m_tuple : mg "tuple" = none) : FnOk P w K mg base CX0 (k + 1) f fd ["_law_one", "_law_other"] spAl := by
  refine F.ok sc__law_alike (fun vs H Q E h => ?_) (fun cdv A outer s H vs Q E hr h => ?_)
  · obtain ⟨a, b, sa, sb, rfl, _⟩ := h
    rfl
  · obtain ⟨a, b, sa, sb, rfl, ea, eb, lb, l12, q⟩ := h
    refine ⟨_, (pss_cons (ps_set (i := 2) sc__law_alike.nd rfl (.inl rfl) (pe_lst pa_nil))
      (pss_cons (ps_for PassesOwn.never rfl (pi_enumZ (by rfl) m_enumerate (by rfl) m_zip (pa_cons (pv 0) (pa_cons (pv 1) pa_nil))) (pg_tup rfl (pgs_cons (pg_name (i := 3) sc__law_alike.nd rfl (.inl rfl)) (pgs_cons (pg_tup rfl (pgs_cons (pg_name (i := 4) sc__law_alike.nd rfl (.inl rfl)) (pgs_cons (pg_name (i := 5) sc__law_alike.nd rfl (.inl rfl)) pgs_nil))) pgs_nil)))
        (pss_one (ps_expr (pe_bm PySem.F.plainAttrs_list PySem.F.slot_list_extend PySem.F.type_list_extend mt_extend (pv 2) (pa_cons (pe_lst (pa_cons (pe_tup (pa_cons (pv 3) (pa_cons pe_str (pa_cons (pe_callB (call_min2 rfl) (by rfl) m_min (by decide +kernel) (pa_cons (pv 4) (pa_cons (pv 5) pa_nil))) pa_nil)))) (pa_cons (pe_tup (pa_cons (pv 3) (pa_cons pe_str (pa_cons (pe_callB (call_max2 rfl) (by rfl) m_max (by decide +kernel) (pa_cons (pv 4) (pa_cons (pv 5) pa_nil))) pa_nil)))) pa_nil))) pa_nil)))))
      (pss_one (ps_ret (pe_callTy call_tuple_of (by rfl) m_tuple (by decide +kernel) (pa_cons (pv 2) pa_nil)))))), ?_⟩
    refine ⟨Nat.zero_le _, fun l nl => ?_⟩
    have sl := same_new (o := HO.lst []) nl
    have ea1 := sl _ _ ea
    have eb1 := sl _ _ eb
    have el1 : (upd H l (.lst [])) l = some (.lst (sdR [])) := upd_same
    generalize upd H l (.lst []) = H1 at sl ea1 eb1 el1 ⊢
    refine ⟨.ref a, rfl, .ref b, rfl, a, b, _, _, rfl, .inl (.inl ea1), .inl (.inl eb1), for_it (walk_enumZ (xs := sa.map V.int) (ys := sb.map V.int) (by rw [List.length_map, List.length_map, lb])) (fun j σ H' => (∃ u3 u4 u5, σ = [some (.ref a), some (.ref b), some (.ref l), u3, u4, u5]) ∧ Same H H' ∧ KT H1 H' ∧ ∃ Ls, H' l = some (.lst (sdR Ls)) ∧ SdsAt H' Ls ∧ Ls.map (·.2) = (List.range j).flatMap (fun i => [((i, true, min (plc sa i) (plc sb i)) : Sd), (i, false, max (plc sa i) (plc sb i))]) ∧ Ls.length = 2 * j) ⟨⟨_, _, _, rfl⟩, sl, KT.refl _, [], el1, (fun z hz => absurd hz List.not_mem_nil), rfl, rfl⟩ (fun j σ H' _ y => ⟨.inl (.inl (y.2.2.1 _ _ ea1)), .inl (.inl (y.2.2.1 _ _ eb1))⟩) (fun j v σ H2 H3 hj y z => ?_) (fun σ H2 y => ?_)⟩
    · obtain ⟨⟨u3, u4, u5, rfl⟩, s2, k2, Ls, el, hL, eL, lL⟩ := y
      obtain ⟨T, U, va, vb, rfl, nU, nT, rfl, ga, gb⟩ := z
      obtain ⟨pa, e1, rfl⟩ := mapGet ga
      obtain ⟨pb, e2, rfl⟩ := mapGet gb
      have hj' : j < sa.length := by
        rw [List.length_map] at hj
        omega
      have epa : plc sa j = pa := by
        show sa.getD j 0 = pa
        rw [List.getD_eq_getElem?_getD, e1]
        rfl
      have epb : plc sb j = pb := by
        show sb.getD j 0 = pb
        rw [List.getD_eq_getElem?_getD, e2]
        rfl
      have sU := same_new (o := HO.tup [V.int pa, V.int pb]) nU
      have sT := same_new (o := HO.tup [V.int (j : Int), V.ref U]) nT
      have sUT := sU.trans sT
      have eU := sT _ _ (upd_same (H := H2) (a := U) (o := HO.tup [V.int pa, V.int pb]))
      refine ⟨T, _, rfl, .inl (.inl upd_same), rfl, _, _, rfl, _, _, rfl, U, _, rfl, .inl (.inl eU), rfl, _, _, rfl, _, _, rfl, rfl, rfl, ?_⟩
      have el3 := sUT _ _ el
      have s3 := s2.trans sUT
      have k3 : KT H1 _ := k2.trans (.same sUT)
      have hL3 := hL.keep (.same sUT)
      generalize upd (upd H2 U (.tup [V.int pa, V.int pb])) T (.tup [V.int (j : Int), V.ref U]) = H3 at el3 s3 k3 hL3 ⊢
      have mn : (if pb < pa then pb else pa) = min pa pb := by split <;> omega
      have mx : (if pb > pa then pb else pa) = max pa pb := by split <;> omega
      refine ⟨.ref l, rfl, .inl ⟨rfl, _, .inl (.inl el3)⟩, _, rfl, _, rfl, _, rfl, pa, pb, rfl, (show 3 ≤ sizeLine by decide), fun g1 n1 => ⟨_, rfl, _, rfl, _, rfl, pa, pb, rfl, (show 3 ≤ sizeLine by decide), fun g2 n2 => ⟨(show 2 ≤ sizeLine by decide), fun l2 nl2 => ?_⟩⟩⟩
      rw [mn] at n2 nl2 ⊢
      rw [mx] at nl2 ⊢
      have t1 := same_new (o := HO.tup [V.int (j : Int), V.str "from", V.int (min pa pb)]) n1
      have t2 := same_new (o := HO.tup [V.int (j : Int), V.str "to", V.int (max pa pb)]) n2
      have t3 := same_new (o := HO.lst [V.ref g1, V.ref g2]) nl2
      have h1 : SideAt _ g1 (j, true, min pa pb) := (t2.trans t3) _ _ (upd_same (H := H3) (a := g1) (o := HO.tup [V.int (j : Int), V.str "from", V.int (min pa pb)]))
      have h2 : SideAt _ g2 (j, false, max pa pb) := t3 _ _ (upd_same (H := upd H3 g1 (HO.tup [V.int (j : Int), V.str "from", V.int (min pa pb)])) (a := g2) (o := HO.tup [V.int (j : Int), V.str "to", V.int (max pa pb)]))
      have t := (t1.trans t2).trans t3
      have el4 := t _ _ el3
      have kU : Keep _ (upd (upd (upd (upd H3 g1 (HO.tup [V.int (j : Int), V.str "from", V.int (min pa pb)])) g2 (HO.tup [V.int (j : Int), V.str "to", V.int (max pa pb)])) l2 (HO.lst [V.ref g1, V.ref g2])) l (.lst (sdR Ls ++ [V.ref g1, V.ref g2]))) := .upd el4
      refine ⟨l, l2, _, _, rfl, rfl, el4, upd_same, by rw [List.length_map]; exact Nat.le_of_lt (small1000 (by show Ls.length + 2 ≤ 1000; omega)), ⟨_, _, _, rfl⟩, same_over (s3.trans t) nl, (k3.trans (.same t)).trans (.upd el4 (fun xs z => by cases z)), Ls ++ [(g1, (j, true, min pa pb)), (g2, (j, false, max pa pb))], by rw [upd_same]; simp [sdR], fun z hz => ?_, ?_, by rw [List.length_append, lL]; rfl⟩
      · rcases List.mem_append.mp hz with h | h
        · exact ((hL3 z h).keep (.same t)).keep kU
        · simp only [List.mem_cons, List.not_mem_nil, or_false] at h
          rcases h with rfl | rfl
          · exact h1.keep kU
          · exact h2.keep kU
      · rw [List.map_append, eL, List.range_succ, List.flatMap_append, List.flatMap_cons, List.flatMap_nil, List.append_nil, epa, epb]
        rfl
    · obtain ⟨⟨u3, u4, u5, rfl⟩, s2, k2, Ls, el, hL, eL, lL⟩ := y
      rw [List.length_map] at eL
      refine ⟨.ref l, rfl, l, _, rfl, .inl ⟨.inl (.inl el), fun r nr => ?_⟩⟩
      have sr := same_new (o := HO.tup (sdR Ls)) nr
      exact q _ r Ls (s2.trans sr) upd_same (hL.keep (.same sr)) eL
structure P18 (C : Addr) (H : Hp) (x : Addr) (tops : List Int) (rs : List Rl) : Prop where
  hp : PlanAt C H x tops rs
  rok : ∀ q ∈ rs, RuleOk tops q
  l40 : rs.length ≤ 40
  l12 : tops.length ≤ 12
  pl : Pl tops
theorem P18.same {C : Addr} {H H' : Hp} {x : Addr} {tops : List Int} {rs : List Rl} (h : P18 C H x tops rs) (s : Same H H') : P18 C H' x tops rs := ⟨h.hp.keep (.same s), h.rok, h.l40, h.l12, h.pl⟩
theorem P18.but {C p : Addr} {c : Nat} {H H' : Hp} {x : Addr} {tops : List Int} {rs : List Rl} (h : P18 C H x tops rs) (b : But p H H') (pp : PotAt H p c) : P18 C H' x tops rs := ⟨h.hp.keep (Keep.but b pp), h.rok, h.l40, h.l12, h.pl⟩
theorem P18.plc {C : Addr} {H : Hp} {x : Addr} {tops : List Int} {rs : List Rl} (h : P18 C H x tops rs) : ∀ i, i < tops.length → 0 ≤ plc tops i := fun i hi => by
  rw [plc_get hi]
  exact (h.pl _ (List.getElem_mem hi)).1
theorem good_pl {tops st : List Int} {rs : List Rl} (pl : Pl tops) (h : st ∈ goods tops rs) : Pl st := fun x hx => by
  obtain ⟨i, hi, e⟩ := List.getElem_of_mem hx
  have l := goods_len h
  have b := (goods_mem.mp h).1.2 i (by omega)
  rw [plc_get hi, e] at b
  have t := pl _ (List.getElem_mem (show i < tops.length by omega))
  rw [← plc_get] at t
  omega
theorem show_st {st : List Int} (l12 : st.length ≤ 12) (pl : Pl st) : Showable (.tuple (st.map PyData.int)) :=
  (Small.tuple (SmallAll.ints (xs := st) fun x hx => by
    have := pl x hx
    have : (10 : Nat) ^ 30 < 10 ^ 90 := by decide
    omega)).ok (by omega) (by decide)
def spT18 (K : PySem.W.Frag) (C : Addr) : Sp := fun vs H Q _ => ∃ (x a b c m : Addr) (tops sa sb sc sm : List Int) (rs : List Rl), vs = [.ref x, .ref a, .ref b, .ref c, .ref m] ∧ P18 C H x tops rs ∧ H a = some (.tup (sa.map V.int)) ∧ H b = some (.tup (sb.map V.int)) ∧ H c = some (.tup (sc.map V.int)) ∧ H m = some (.tup (sm.map V.int)) ∧ sa ∈ goods tops rs ∧ sb ∈ goods tops rs ∧ sc ∈ goods tops rs ∧ sm ∈ goods tops rs ∧
  (∀ i, i < tops.length → plc sm i = mid3 (plc sa i) (plc sb i) (plc sc i)) ∧ ∀ H', Same H H' → Q (.bl true) H'
abbrev a__law_three_right : Stmt := topS 70
abbrev n__law_three_right : List Str := ["_law_plan", "_law_one", "_law_two", "_law_three", "_law_mid", "_law_here", "_law_first", "_law_second", "_law_want"]
theorem sc__law_three_right : FnScope n__law_three_right ["_law_plan", "_law_one", "_law_two", "_law_three", "_law_mid"] (defScope a__law_three_right) := ⟨rfl, rfl, rfl, by decide +kernel, rfl, by decide +kernel, by decide +kernel⟩
set_option maxHeartbeats 8000000 in
theorem ok__law_three_right {f fAl fNe fNp fSn fIb : Addr} {fd fdAl fdNe fdNp fdSn fdIb : FuncData}  {C : Addr} (F : Fun K "_law_three_right" "_law_three_right" a__law_three_right f fd) (Al : Kn P w K mg base 1 "_law_alike" ["_law_one", "_law_other"] spAl fAl fdAl) (Ne : Kn P w K mg base 9 "nearest" ["plan", "standing", "want"] (spNear K C) fNe fdNe) (Np : Kn P w K mg base 10 "nearest_paper" ["plan", "standing", "want"] (spNp K C) fNp fdNp) (Sn : Kn P w K mg base 8 "shows_nearest" ["plan", "standing", "want", "new", "thing"] (spSn K C) fSn fdSn) (Ib : Kn P w K mg base 1 "is_between" ["one", "x", "other"] (spBet K) fIb fdIb)  (m_repr : mg "repr" = none) : FnG P w K mg base 11 f fd ["_law_plan", "_law_one", "_law_two", "_law_three", "_law_mid"] (spT18 K C) := by
  refine fnG F sc__law_three_right (fun vs H Q E h => ?_) (fun cdv A outer s H vs Q E hG hr h => ?_)
  · obtain ⟨x, a, b, c, m, tops, sa, sb, sc, sm, rs, rfl, _⟩ := h
    rfl
  · obtain ⟨x, a, b, c, m, tops, sa, sb, sc, sm, rs, rfl, G, ea, eb, ec, em, ha, hb, hc, hm, md, q⟩ := h
    refine ⟨_, (pss_cons (ps_for PassesOwn.never rfl (pi_tup (pe_tup (pa_cons (pe_tup (pa_cons (pv 1) (pa_cons (pv 2) (pa_cons (pv 3) pa_nil)))) (pa_cons (pe_tup (pa_cons (pv 2) (pa_cons (pv 3) (pa_cons (pv 1) pa_nil)))) (pa_cons (pe_tup (pa_cons (pv 3) (pa_cons (pv 1) (pa_cons (pv 2) pa_nil)))) pa_nil))))) (pg_tup rfl (pgs_cons (pg_name (i := 5) sc__law_three_right.nd rfl (.inl rfl)) (pgs_cons (pg_name (i := 6) sc__law_three_right.nd rfl (.inl rfl)) (pgs_cons (pg_name (i := 7) sc__law_three_right.nd rfl (.inl rfl)) pgs_nil))))
        (pss_cons (ps_set (i := 8) sc__law_three_right.nd rfl (.inl rfl) (pe_kn Al hr (by omega) (pa_cons (pv 6) (pa_cons (pv 7) pa_nil))))
      (pss_cons (ps_if (PW.pt (pw_or (pt_cmpR op_ne (pe_callB (call_reprD hG hr.units) (by rfl) m_repr (by decide +kernel) (pa_cons (pe_kn Ne hr (by omega) (pa_cons (pv 0) (pa_cons (pv 5) (pa_cons (pv 8) pa_nil)))) pa_nil)) (pe_callB (call_reprD hG hr.units) (by rfl) m_repr (by decide +kernel) (pa_cons (pv 4) pa_nil)) (nomark _)) (pw_or1 (pt_cmpR op_isnotB (pe_kn Ib hr (by omega) (pa_cons (pv 5) (pa_cons (pv 4) (pa_cons (pv 6) pa_nil)))) pe_bl (nomark _))))) (pss_one (ps_ret pe_bl)) pss_nil)
      (pss_one (ps_if (pt_cmpR op_isnotB (pe_kn Sn hr (by omega) (pa_cons (pv 0) (pa_cons (pv 5) (pa_cons (pv 8) (pa_cons (pv 4) (pa_cons (pe_kn Np hr (by omega) (pa_cons (pv 0) (pa_cons (pv 5) (pa_cons (pv 8) pa_nil)))) pa_nil)))))) pe_bl (nomark _)) (pss_one (ps_ret pe_bl)) pss_nil)))))
      (pss_one (ps_ret pe_bl))), ?_⟩
    have l12 := G.l12
    refine ⟨_, rfl, _, rfl, _, rfl, (show 3 ≤ sizeLine by decide), fun t1 n1 => ⟨_, rfl, _, rfl, _, rfl, (show 3 ≤ sizeLine by decide), fun t2 n2 => ⟨_, rfl, _, rfl, _, rfl, (show 3 ≤ sizeLine by decide), fun t3 n3 => ⟨(show 3 ≤ sizeLine by decide), fun tt ntt => ?_⟩⟩⟩⟩
    have s1 := same_new (o := HO.tup [V.ref a, V.ref b, V.ref c]) n1
    have s2 := same_new (o := HO.tup [V.ref b, V.ref c, V.ref a]) n2
    have s3 := same_new (o := HO.tup [V.ref c, V.ref a, V.ref b]) n3
    have s4 := same_new (o := HO.tup [V.ref t1, V.ref t2, V.ref t3]) ntt
    have e1 := ((s2.trans s3).trans s4) _ _ (upd_same (H := H) (a := t1) (o := HO.tup [V.ref a, V.ref b, V.ref c]))
    have e2 := (s3.trans s4) _ _ (upd_same (H := upd H t1 (HO.tup [V.ref a, V.ref b, V.ref c])) (a := t2) (o := HO.tup [V.ref b, V.ref c, V.ref a]))
    have e3 := s4 _ _ (upd_same (H := upd (upd H t1 (HO.tup [V.ref a, V.ref b, V.ref c])) t2 (HO.tup [V.ref b, V.ref c, V.ref a])) (a := t3) (o := HO.tup [V.ref c, V.ref a, V.ref b]))
    have et := upd_same (H := upd (upd (upd H t1 (HO.tup [V.ref a, V.ref b, V.ref c])) t2 (HO.tup [V.ref b, V.ref c, V.ref a])) t3 (HO.tup [V.ref c, V.ref a, V.ref b])) (a := tt) (o := HO.tup [V.ref t1, V.ref t2, V.ref t3])
    have s := ((s1.trans s2).trans s3).trans s4
    generalize upd (upd (upd (upd H t1 (HO.tup [V.ref a, V.ref b, V.ref c])) t2 (HO.tup [V.ref b, V.ref c, V.ref a])) t3 (HO.tup [V.ref c, V.ref a, V.ref b])) tt (HO.tup [V.ref t1, V.ref t2, V.ref t3]) = H1 at s e1 e2 e3 et ⊢
    refine ⟨tt, rfl, ⟨_, .inl (.inl et)⟩, for_it (walk_tup (xs := [V.ref t1, V.ref t2, V.ref t3])) (fun j σ H' => (∃ u5 u6 u7 u8, σ = [some (.ref x), some (.ref a), some (.ref b), some (.ref c), some (.ref m), u5, u6, u7, u8]) ∧ Same H1 H') ⟨⟨_, _, _, _, rfl⟩, Same.refl _⟩ (fun j σ H' _ y => .inl (.inl (y.2 _ _ et))) (fun j v σ H2' H2 hj y z => ?_) (fun σ H2 y => q H2 (s.trans y.2))⟩
    obtain ⟨⟨u5, u6, u7, u8, rfl⟩, s12⟩ := y
    obtain ⟨rfl, gv⟩ := z
    have j3 : j < 3 := hj
    obtain ⟨t, f, g, h, sf, sg, sh, ev, ett, ef, eg, eh, hf, hg, hh, mf⟩ : ∃ (t f g h : Addr) (sf sg sh : List Int), v = .ref t ∧ H2 t = some (.tup [V.ref f, V.ref g, V.ref h]) ∧ H2 f = some (.tup (sf.map V.int)) ∧ H2 g = some (.tup (sg.map V.int)) ∧ H2 h = some (.tup (sh.map V.int)) ∧ sf ∈ goods tops rs ∧ sg ∈ goods tops rs ∧ sh ∈ goods tops rs ∧ ∀ i, i < tops.length → plc sm i = max (min (plc sg i) (plc sh i)) (min (plc sf i) (max (plc sg i) (plc sh i))) := by
      have s02 := s.trans s12
      have : j = 0 ∨ j = 1 ∨ j = 2 := by omega
      rcases this with rfl | rfl | rfl
      · exact ⟨t1, a, b, c, sa, sb, sc, (Option.some.inj gv).symm, s12 _ _ e1, s02 _ _ ea, s02 _ _ eb, s02 _ _ ec, ha, hb, hc, fun i hi => by have := mid3_all (md i hi); omega⟩
      · exact ⟨t2, b, c, a, sb, sc, sa, (Option.some.inj gv).symm, s12 _ _ e2, s02 _ _ eb, s02 _ _ ec, s02 _ _ ea, hb, hc, ha, fun i hi => by have := mid3_all (md i hi); omega⟩
      · exact ⟨t3, c, a, b, sc, sa, sb, (Option.some.inj gv).symm, s12 _ _ e3, s02 _ _ ec, s02 _ _ ea, s02 _ _ eb, hc, ha, hb, fun i hi => by have := mid3_all (md i hi); omega⟩
    subst ev
    have lf := goods_len hf
    have lg := goods_len hg
    have lh := goods_len hh
    have lm := goods_len hm
    have G2 := G.same (s.trans s12)
    have em2 := (s.trans s12) _ _ em
    refine ⟨t, _, rfl, .inl (.inl ett), rfl, _, _, rfl, _, _, rfl, _, _, rfl, rfl, ?_⟩
    refine ⟨.ref g, rfl, .ref h, rfl, g, h, sg, sh, rfl, eg, eh, by omega, by omega, fun H3 wt Ls s3 ew hL eL => ?_⟩
    have lL : Ls.length = 2 * sg.length := by
      rw [← alike_len sg sh, ← eL, List.length_map]
    have okL : ∀ z ∈ Ls, SideOk tops z.2 := fun z hz => alike_ok hg hh z.2 (by rw [← eL]; exact List.mem_map.mpr ⟨z, hz, rfl⟩)
    have W : Wnt K C H3 x wt tops rs Ls := ⟨(G2.same s3).hp, .inl (.inl ew), hL, okL, G.rok, G.l40, by omega, l12, G.plc⟩
    have had : Had tops rs Ls := ⟨sg, hg, fun z hz => alike_has (b := sh) hg z (by rw [← eL]; exact hz)⟩
    have N0 : Nrst tops rs (Ls.map (·.2)) sf sm := by
      rw [eL]
      exact near_mid hg hh hf hm mf
    have ef3 := s3 _ _ ef
    have em3 := s3 _ _ em2
    refine ⟨.ref x, rfl, .ref f, rfl, .ref wt, rfl, x, f, wt, tops, sf, rs, Ls, rfl, W, had, ef3, hf, fun H4 p n s4 en N => ?_⟩
    obtain rfl := N.uniq N0
    have em4 := s4 _ _ em3
    have sh' : Showable (.tuple (n.map PyData.int)) := show_st (by omega) (good_pl G.pl hm)
    refine ⟨p, _, rfl, dpt en, sh', .ref m, rfl, m, _, rfl, dpt em4, sh', rfl, _, rfl, not_diff rfl ?_⟩
    have ef4 := s4 _ _ ef3
    have eg4 := (s3.trans s4) _ _ eg
    refine ⟨.ref f, rfl, .ref m, rfl, .ref g, rfl, f, m, g, sf, n, sg, rfl, .inl (.inl ef4), .inl (.inl em4), .inl (.inl eg4), by omega, by omega, by omega, fun H5 s5 => ?_⟩
    rw [bet_all (by omega) (by omega) fun i hi => by
      have := mf i (by omega)
      unfold Btw
      omega]
    refine ⟨true, true, rfl, rfl, _, rfl, iteF ?_⟩
    have s45 := s4.trans s5
    have W5 := W.same s45
    refine ⟨.ref x, rfl, .ref f, rfl, .ref wt, rfl, .ref m, rfl, .ref x, rfl, .ref f, rfl, .ref wt, rfl, x, f, wt, tops, sf, rs, Ls, rfl, W5, had, s5 _ _ ef4, hf, fun H6 r n' s6 N' pa => ?_⟩
    obtain rfl := N'.uniq N0
    have s56 := s5.trans s6
    refine ⟨x, f, wt, m, r, tops, sf, n', rs, Ls, rfl, W5.same s6, s56 _ _ ef4, hf, s56 _ _ em4, hm, N0.has, pa, fun H7 s7 => ⟨true, true, rfl, rfl, _, rfl, iteF ⟨⟨_, _, _, _, rfl⟩, (((s12.trans s3).trans s4).trans s56).trans s7⟩⟩⟩
end
end K18

set_option Elab.async false
set_option linter.all false
set_option maxRecDepth 100000
namespace K18
open PySem PySem.Spec PyProof.Rows L2 NB

/-! ### middles are nearest: the law -/
/-- what is known: good ones in a list -/
def Knw (H : Hp) (D : Addr) (tops : List Int) (rs : List Rl) (n : Nat) : Prop := ∃ ks : List (Addr × List Int), H D = some (.lst (refs ks)) ∧ ks.length = n ∧ LsAt H ks ∧ ∀ z ∈ ks, z.2 ∈ goods tops rs
theorem Knw.same {H H' : Hp} {D : Addr} {tops : List Int} {rs : List Rl} {n : Nat} (h : Knw H D tops rs n) (s : Same H H') : Knw H' D tops rs n := by
  obtain ⟨ks, e, l, a, g⟩ := h
  exact ⟨ks, s _ _ e, l, a.same s, g⟩
theorem Knw.but {H H' : Hp} {D p : Addr} {c : Nat} {tops : List Int} {rs : List Rl} {n : Nat} (h : Knw H D tops rs n) (ne : D ≠ p) (b : But p H H') (pp : PotAt H p c) : Knw H' D tops rs n := by
  obtain ⟨ks, e, l, a, g⟩ := h
  exact ⟨ks, b _ _ ne e, l, a.keep (Keep.but b pp), g⟩
theorem P18.keep {C : Addr} {H H' : Hp} {x : Addr} {tops : List Int} {rs : List Rl} (h : P18 C H x tops rs) (k : Keep H H') : P18 C H' x tops rs := ⟨h.hp.keep k, h.rok, h.l40, h.l12, h.pl⟩
section
variable {P : Program} {w : World} {K : PySem.W.Frag} {mg : Str → Option Value} {base : Heap}
theorem join2c {c : Bool} {A B : VK → Prop} {Q : VK} (R : V → Hp → Prop) (hA : c = true → ∀ Q' : VK, (∀ v H, R v H → Q' v H) → A Q') (hB : c = false → ∀ Q' : VK, (∀ v H, R v H → Q' v H) → B Q') (hQ : ∀ v H, R v H → Q v H) : if c = true then A Q else B Q := by
  cases c
  · exact iteF (hB rfl Q hQ)
  · exact iteT (hA rfl Q hQ)
def spR18 : Sp := fun vs H Q _ => ∃ (p : Addr) (c : Nat), vs = [.ref p] ∧ PotAt H p c ∧ c < 500000 ∧ ∀ H', But p H H' → Q (.bl true) H'
abbrev a__law_right : Stmt := topS 71
abbrev n__law_right : List Str := ["_law_pot_here", "_law_tops", "_law_known", "_law_plan", "_law_turn", "_law_one", "_law_two", "_law_three", "_law_mid", "_law_k"]
theorem sc__law_right : FnScope n__law_right ["_law_pot_here"] (defScope a__law_right) := ⟨rfl, rfl, rfl, by decide +kernel, rfl, by decide +kernel, by decide +kernel⟩
set_option maxHeartbeats 8000000 in
theorem ok__law_right {f fGt fSt fTk fO3 fOf fLm fMi fIg fTr : Addr} {fd fdGt fdSt fdTk fdO3 fdOf fdLm fdMi fdIg fdTr : FuncData}  {C f0 : Addr} {fd0 : FuncData} (F : Fun K "_law_right" "_law_right" a__law_right f fd) (Gt : Kn P w K mg base 3 "_law_great_tops" ["_law_pot_here"] spGTops fGt fdGt) (St : Kn P w K mg base 2 "_law_standing" ["_law_pot_here", "_law_tops"] (spStand K) fSt fdSt) (Tk : Kn P w K mg base 1 "_law_take" ["_law_pot_here", "_law_many"] spTake fTk fdTk) (O3 : Kn P w K mg base 3 "_law_of_three" ["_law_pot_here", "_law_tops", "_law_three", "_law_many"] spO3 fO3 fdO3) (Of : Kn P w K mg base 2 "_law_of" ["_law_pot_here", "_law_some"] (spOf K) fOf fdOf) (Lm : Kn P w K mg base 1 "_law_middle" ["_law_one", "_law_two", "_law_three"] (spMiddle K) fLm fdLm) (Mi : Kn P w K mg base 1 "middle" ["one", "two", "three"] (spMiddle K) fMi fdMi) (Ig : Kn P w K mg base 4 "is_good" ["plan", "standing"] (spGood C) fIg fdIg) (Tr : FnG P w K mg base 11 fTr fdTr ["_law_plan", "_law_one", "_law_two", "_law_three", "_law_mid"] (spT18 K C)) (gTr : mg "_law_three_right" = some (.ref fTr)) (kTr : PySem.W.keepIn K (.ref fTr) = true) (bTr : Binds K fdTr ["_law_plan", "_law_one", "_law_two", "_law_three", "_law_mid"] []) (TX : PlanTxt K mg C) (M : Mk K C f0) (GI : FnOk P w K mg base CX0 7 f0 fd0 ["self", "tops", "rules"] (spInit C)) (bI : Binds K fd0 ["self", "tops", "rules"] []) (m_range : mg "range" = none) (m_repr : mg "repr" = none) : FnG P w K mg base 12 f fd ["_law_pot_here"] spR18 := by
  refine fnG F sc__law_right (fun vs H Q E h => ?_) (fun cdv A outer s H vs Q E hG hr h => ?_)
  · obtain ⟨p, c, rfl, _⟩ := h
    rfl
  · obtain ⟨p, c, rfl, pp, hc, q⟩ := h
    refine ⟨_, (pss_cons (ps_set (i := 1) sc__law_right.nd rfl (.inr rfl) (pe_kn Gt hr (by omega) (pa_cons (pv 0) pa_nil)))
      (pss_cons (ps_set (i := 2) sc__law_right.nd rfl (.inr rfl) (
        pe_lc (own := [("_law_k", 9)]) (g := (gName 9)) (tt := tYes) (te := (tCall (spStand K) [] E0 (tCons (tVar 0) (tCons (tVar 1) tNil)))) rfl sc__law_right.nd (pi_range1 (by rfl) m_range (pa_cons pe_int pa_nil)) (blkOk_by (N := n__law_right) (sc := defScope a__law_right) (by decide +kernel))
          (fun _ _ _ _ _ => (pg_name (i := 9) sc__law_right.nd rfl (.inl rfl) (hf := .inr rfl))) (fun _ _ _ _ _ => pts_nil) (fun _ _ _ _ _ => (pe_kn St hr (by omega) (pa_cons (pv 0) (pa_cons (pv 1) pa_nil))))))
      (pss_cons (ps_set (i := 3) sc__law_right.nd rfl (.inl rfl) (pe_make M GI (hr.mono (by omega)) (by rfl) TX.mgC bI .nil pass0 (pa_cons (pv 1) (pa_cons (pe_kn O3 hr (by omega) (pa_cons (pv 0) (pa_cons (pv 1) (pa_cons (pv 2) (pa_cons (pe_kn Tk hr (by omega) (pa_cons (pv 0) (pa_cons pe_int pa_nil))) pa_nil))))) pa_nil))))
      (pss_cons (ps_for PassesOwn.never rfl (pi_range1 (by rfl) m_range (pa_cons pe_int pa_nil)) (pg_name (i := 4) sc__law_right.nd rfl (.inl rfl))
        (pss_cons (ps_asg (pe_ifExp (pt_cmpR op_gt (pv 4) pe_int (nomark _)) (
        pe_lc (own := [("_law_k", 9)]) (g := (gName 9)) (tt := tYes) (te := (tCall (spOf K) [] E0 (tCons (tVar 0) (tCons (tVar 2) tNil)))) rfl sc__law_right.nd (pi_range1 (by rfl) m_range (pa_cons pe_int pa_nil)) (blkOk_by (N := n__law_right) (sc := defScope a__law_right) (by decide +kernel))
          (fun _ _ _ _ _ => (pg_name (i := 9) sc__law_right.nd rfl (.inl rfl) (hf := .inr rfl))) (fun _ _ _ _ _ => pts_nil) (fun _ _ _ _ _ => (pe_kn Of hr (by omega) (pa_cons (pv 0) (pa_cons (pv 2) pa_nil))))) (pv 2)) (pg_lst rfl (pgs_cons (pg_name (i := 5) sc__law_right.nd rfl (.inl rfl)) (pgs_cons (pg_name (i := 6) sc__law_right.nd rfl (.inl rfl)) (pgs_cons (pg_name (i := 7) sc__law_right.nd rfl (.inl rfl)) pgs_nil)))))
      (pss_cons (ps_set (i := 8) sc__law_right.nd rfl (.inl rfl) (pe_kn Lm hr (by omega) (pa_cons (pv 5) (pa_cons (pv 6) (pa_cons (pv 7) pa_nil)))))
      (pss_cons (ps_if (PW.pt (pw_or (pt_cmpR op_ne (pe_callB (call_reprD hG hr.units) (by rfl) m_repr (by decide +kernel) (pa_cons (pe_kn Mi hr (by omega) (pa_cons (pv 5) (pa_cons (pv 6) (pa_cons (pv 7) pa_nil)))) pa_nil)) (pe_callB (call_reprD hG hr.units) (by rfl) m_repr (by decide +kernel) (pa_cons (pv 8) pa_nil)) (nomark _)) (pw_or1 (pt_cmpR op_isnotB (pe_kn Ig hr (by omega) (pa_cons (pv 3) (pa_cons (pv 8) pa_nil))) pe_bl (nomark _))))) (pss_one (ps_ret pe_bl)) pss_nil)
      (pss_cons (ps_if (PW.pt (pw_and (pt_cmpR op_lt (pv 4) pe_int (nomark _)) (pw_and1 (pt_not (pt_val (pe_callG hG Tr (hr.mono (by omega)) (by rfl) gTr kTr bTr (pa_cons (pv 3) (pa_cons (pv 5) (pa_cons (pv 6) (pa_cons (pv 7) (pa_cons (pv 8) pa_nil))))))))))) (pss_one (ps_ret pe_bl)) pss_nil)
      (pss_one (ps_expr (pe_bm PySem.F.plainAttrs_list PySem.F.slot_list_append PySem.F.type_list_append mt_append (pv 2) (pa_cons (pv 8) pa_nil)))))))))
      (pss_one (ps_ret pe_bl)))))), ?_⟩
    refine ⟨.ref p, rfl, p, _, rfl, pp, by omega, fun H1 t tops b1 p1 et l2 l12 pl => ?_⟩
    refine ⟨3, rfl, by decide, by decide, fun D nD => ?_⟩
    have nDp : D ≠ p := p1.ne nD
    have nDH : H D = none := b1.free nDp nD
    refine lc_it walk_range (fun k H' => But p H1 H' ∧ PotAt H' p (c + 60 + 12 * k) ∧ ∃ ks : List (Addr × List Int), H' D = some (.lst (refs ks)) ∧ ks.length = k ∧ ∀ z ∈ ks, Std tops H' z.1 z.2) ⟨But.of (same_new nD), pot_upd p1 nDp, [], upd_same, rfl, fun _ h => absurd h List.not_mem_nil⟩ (fun _ _ _ _ => trivial) (fun k v H2' H2 hk y z => ?_) (fun H2 y => ?_)
    · obtain ⟨b2, p2, ks, eD, lk, sk⟩ := y
      obtain ⟨rfl, rfl⟩ := z
      have hk3 : k < 3 := hk
      refine ⟨wipe_one, .ref p, rfl, .ref t, rfl, p, t, tops, _, rfl, p2, .inl (.inl ((Keep.but b2 p1).tup et)), pl, l12, by omega, fun H3 o st b3 p3 no eo lo plo le => ?_⟩
      have k3 := Keep.but b3 p2
      have eD3 := b3 _ _ nDp eD
      refine ⟨_, eD3, by rw [List.length_map]; exact small1000 (by omega), but_new (b2.trans b3) nD, pot_upd (p3.mono (by omega)) nDp, ks ++ [(o, st)], by rw [upd_same]; simp only [refs, List.map_append]; rfl, by rw [List.length_append, lk]; rfl, fun z hz => ?_⟩
      rcases List.mem_append.mp hz with h | h
      · exact ((sk z h).keep k3).keep (.upd eD3)
      · obtain rfl := List.mem_singleton.mp h
        exact (Std.mk eo lo plo le).keep (.upd eD3)
    obtain ⟨b2, p2, ks, eD, lk, sk⟩ := y
    have et2 := (Keep.but b2 p1).tup et
    have p2' : PotAt H2 p (c + 96) := p2
    have lk3 : ks.length = 3 := lk
    refine ⟨.ref t, rfl, .ref p, rfl, .ref t, rfl, .ref D, rfl, .ref p, rfl, p, 11, _, rfl, p2', by decide, by decide, by omega, fun m H3 b3 p3 m0 m1 => ?_⟩
    have th3 : Thr H3 D tops ks := (Thr.mk eD lk3 sk).but nDp b3 p2'
    have et3 := (Keep.but b3 p2').tup et2
    refine ⟨p, t, D, m, _, tops, ks, rfl, p3, by omega, nDp, et3, pl, by omega, l12, th3, m0, by omega, fun H4 R rs b4 p4 hR lR hq => ?_⟩
    have th4 := th3.but nDp b4 p3
    have et4 := (Keep.but b4 p3).tup et3
    refine fun x dx nx ndx ne => ?_
    refine plan_made (C := C) (rs := rs) nx ndx ne et4 hR (by omega) l12 pl (by omega) (fun y hy => (hq y hy).1) fun H5 s5 hp => ⟨rfl, ?_⟩
    have G5 : P18 C H5 x tops rs := ⟨hp, fun y hy => (hq y hy).1, by omega, l12, pl⟩
    have p5 : PotAt H5 p (c + 200) := (p4.keep s5).mono (by omega)
    have b5 : But p H H5 := ((b1.trans b2).trans (b3.trans b4)).trans (But.of s5)
    have K5 : Knw H5 D tops rs 3 := ⟨ks, s5 _ _ th4.el, lk3, fun z hz => s5 _ _ (th4.st z hz).at', fun z hz => std_goods (th4.st z hz) fun y hy => (hq y hy).2 z hz⟩
    refine ⟨5, rfl, by decide, by decide, for_it walk_range (fun j σ H' => (∃ u4 u5 u6 u7 u8 u9, σ = [some (.ref p), some (.ref t), some (.ref D), some (.ref x), u4, u5, u6, u7, u8, u9]) ∧ But p H H' ∧ PotAt H' p (c + 200 + 10 * j) ∧ P18 C H' x tops rs ∧ Knw H' D tops rs (3 + j)) ⟨⟨_, _, _, _, _, _, rfl⟩, b5, p5, G5, K5⟩ (fun _ _ _ _ _ => trivial) (fun j v σ H6' H6 hj y z => ?_) (fun σ H6 y => ?_)⟩
    · obtain ⟨⟨u4, u5, u6, u7, u8, u9, rfl⟩, b6, p6, G6, K6⟩ := y
      obtain ⟨rfl, rfl⟩ := z
      have hj5 : j < 5 := hj
      refine ⟨_, rfl, _, _, rfl, rfl, _, rfl, ?_⟩
      refine join2c (fun v H' => ∃ l a b d sa sb sc, v = .ref l ∧ H' l = some (.lst [V.ref a, V.ref b, V.ref d]) ∧ But p H H' ∧ PotAt H' p (c + 200 + 10 * j + 3) ∧ P18 C H' x tops rs ∧ Knw H' D tops rs (3 + j) ∧ H' a = some (.tup (sa.map V.int)) ∧ H' b = some (.tup (sb.map V.int)) ∧ H' d = some (.tup (sc.map V.int)) ∧ sa ∈ goods tops rs ∧ sb ∈ goods tops rs ∧ sc ∈ goods tops rs) (fun _ Q' hq' => ?_) (fun cc Q' hq' => ?_) (fun v H7 y => ?_)
      · -- three of the known ones
        obtain ⟨ks6, eD6, lk6, ls6, gk6⟩ := id K6
        have lrf : (refs ks6).length = ks6.length := List.length_map _
        refine ⟨3, rfl, by decide, by decide, fun L nL => ?_⟩
        have nLp : L ≠ p := p6.ne nL
        have nDL : D ≠ L := ne_of_none eD6 nL
        refine lc_it walk_range (fun k H' => But p H6 H' ∧ PotAt H' p (c + 200 + 10 * j + k) ∧ ∃ vs : List (Addr × List Int), H' L = some (.lst (refs vs)) ∧ vs.length = k ∧ ∀ z ∈ vs, z ∈ ks6) ⟨But.of (same_new nL), pot_upd p6 nLp, [], upd_same, rfl, fun _ h => absurd h List.not_mem_nil⟩ (fun _ _ _ _ => trivial) (fun k v H7' H7 hk y z => ?_) (fun H7 y => ?_)
        · obtain ⟨b7, p7, vs, eL, lv, hv⟩ := y
          obtain ⟨rfl, rfl⟩ := z
          have hk3 : k < 3 := hk
          have eD7 := b7 _ _ nDp eD6
          refine ⟨wipe_one, .ref p, rfl, .ref D, rfl, p, D, _, _, rfl, p7, nDp, .inl (.inl (.inl eD7)), by rw [lrf, lk6]; omega, by rw [lrf, lk6]; omega, by omega, fun w' H8 hw b8 p8 => ?_⟩
          obtain ⟨z, hz, rfl⟩ := List.mem_map.mp hw
          refine ⟨_, b8 _ _ nLp eL, by rw [List.length_map]; exact small1000 (by omega), but_new (b7.trans b8) nL, pot_upd (p8.mono (by omega)) nLp, vs ++ [z], by rw [upd_same]; simp only [refs, List.map_append]; rfl, by rw [List.length_append, lv]; rfl, fun y hy => ?_⟩
          rcases List.mem_append.mp hy with h | h
          · exact hv y h
          · obtain rfl := List.mem_singleton.mp h
            exact hz
        obtain ⟨b7, p7, vs, eL, lv, hv⟩ := y
        have lv3 : vs.length = 3 := lv
        obtain ⟨z0, z1, z2, rfl⟩ : ∃ z0 z1 z2, vs = [z0, z1, z2] := by
          match vs, lv3 with
          | [z0, z1, z2], _ => exact ⟨z0, z1, z2, rfl⟩
        have k7 := Keep.but b7 p6
        have m0 := hv z0 (by simp)
        have m1 := hv z1 (by simp)
        have m2 := hv z2 (by simp)
        exact hq' _ _ ⟨L, z0.1, z1.1, z2.1, z0.2, z1.2, z2.2, rfl, eL, b6.trans b7, p7, G6.but b7 p6, K6.but nDp b7 p6, k7.tup (ls6 z0 m0), k7.tup (ls6 z1 m1), k7.tup (ls6 z2 m2), gk6 z0 m0, gk6 z1 m1, gk6 z2 m2⟩
      · -- the first three
        have j0 : j = 0 := by
          have := of_decide_eq_false cc
          omega
        subst j0
        obtain ⟨ks6, eD6, lk6, ls6, gk6⟩ := id K6
        obtain ⟨z0, z1, z2, rfl⟩ : ∃ z0 z1 z2, ks6 = [z0, z1, z2] := by
          match ks6, lk6 with
          | [z0, z1, z2], _ => exact ⟨z0, z1, z2, rfl⟩
        exact ⟨.ref D, rfl, hq' _ _ ⟨D, z0.1, z1.1, z2.1, z0.2, z1.2, z2.2, rfl, eD6, b6, p6.mono (by omega), G6, K6, ls6 z0 (by simp), ls6 z1 (by simp), ls6 z2 (by simp), gk6 z0 (by simp), gk6 z1 (by simp), gk6 z2 (by simp)⟩⟩
      obtain ⟨l, a, b, d, sa, sb, sc, rfl, el, b7, p7, G7, K7, ea, eb, ed, ha, hb, hd⟩ := y
      refine ⟨l, _, rfl, .inl (.inl el), rfl, _, _, rfl, _, _, rfl, _, _, rfl, rfl, ?_⟩
      have la := goods_len ha
      have lb := goods_len hb
      have ld := goods_len hd
      have Gm := mid_mem G7.rok ha hb hd
      have lm := goods_len Gm
      have shm : Showable (.tuple ((z3 mid3 sa sb sc).map PyData.int)) := show_st (by omega) (good_pl G7.pl Gm)
      refine ⟨.ref a, rfl, .ref b, rfl, .ref d, rfl, a, b, d, sa, sb, sc, rfl, .inl (.inl ea), .inl (.inl eb), .inl (.inl ed), by omega, by omega, by omega, fun H8 mp s8 nmp emp => ?_⟩
      have ea8 := s8 _ _ ea
      have eb8 := s8 _ _ eb
      have ed8 := s8 _ _ ed
      refine ⟨.ref a, rfl, .ref b, rfl, .ref d, rfl, a, b, d, sa, sb, sc, rfl, .inl (.inl ea8), .inl (.inl eb8), .inl (.inl ed8), by omega, by omega, by omega, fun H9 lp s9 nlp elp => ?_⟩
      have emp9 := s9 _ _ emp
      refine ⟨lp, _, rfl, dpt elp, shm, .ref mp, rfl, mp, _, rfl, dpt emp9, shm, rfl, _, rfl, not_diff rfl ?_⟩
      have s79 := s8.trans s9
      refine ⟨.ref x, rfl, .ref mp, rfl, x, mp, tops, rs, _, rfl, (G7.same s79).hp, emp9, by omega, fun y hy => fit_of (G7.rok y hy) lm, fun H10 s10 => ?_⟩
      have gdm : rs.all (kept (z3 mid3 sa sb sc)) = true := List.all_eq_true.mpr (goods_good Gm)
      refine ⟨_, _, rfl, rfl, _, rfl, ?_⟩
      rw [gdm]
      refine iteF ?_
      have s710 := s79.trans s10
      have ea10 := (s9.trans s10) _ _ ea8
      have eb10 := (s9.trans s10) _ _ eb8
      have ed10 := (s9.trans s10) _ _ ed8
      have emp10 := s10 _ _ emp9
      have fin : ∀ H', Same H10 H' → ∃ ks, H' D = some (.lst (refs ks)) ∧ ks.length ≤ 8 ∧ But p H (upd H' D (.lst (refs ks ++ [V.ref mp]))) ∧ PotAt (upd H' D (.lst (refs ks ++ [V.ref mp]))) p (c + 200 + 10 * (j + 1)) ∧ P18 C (upd H' D (.lst (refs ks ++ [V.ref mp]))) x tops rs ∧ Knw (upd H' D (.lst (refs ks ++ [V.ref mp]))) D tops rs (3 + (j + 1)) := fun H' s' => by
        have s7' := s710.trans s'
        obtain ⟨ks', eD', lk', ls', gk'⟩ := K7.same s7'
        have kp : Keep H' (upd H' D (.lst (refs ks' ++ [V.ref mp]))) := .upd eD'
        refine ⟨ks', eD', by omega, ?_, pot_upd ((p7.keep s7').mono (by omega)) nDp, (G7.same s7').keep kp, ks' ++ [(mp, z3 mid3 sa sb sc)], by rw [upd_same]; simp only [refs, List.map_append]; rfl, by rw [List.length_append, lk']; rfl, fun z hz => ?_, fun z hz => ?_⟩
        · exact but_new (b7.trans (But.of s7')) nDH
        · rcases List.mem_append.mp hz with h | h
          · exact kp.tup (ls' z h)
          · obtain rfl := List.mem_singleton.mp h
            exact kp.tup (s' _ _ emp10)
        · rcases List.mem_append.mp hz with h | h
          · exact gk' z h
          · obtain rfl := List.mem_singleton.mp h
            exact Gm
      refine ⟨_, rfl, _, _, rfl, rfl, _, rfl, ite2 (fun c1 => ?_) (fun c1 => ?_)⟩
      rotate_left 1
      · obtain ⟨ks', eD', l8, i1, i2, i3, i4⟩ := fin H10 (Same.refl _)
        refine iteF ⟨.ref D, rfl, .inl ⟨rfl, _, .inl (.inl eD')⟩, .ref mp, rfl, D, _, _, rfl, rfl, eD', by rw [List.length_map]; exact small1000 (by omega), ⟨_, _, _, _, _, _, rfl⟩, i1, i2, i3, i4⟩
      refine ⟨.ref x, rfl, .ref a, rfl, .ref b, rfl, .ref d, rfl, .ref mp, rfl, x, a, b, d, mp, tops, sa, sb, sc, _, rs, rfl, G7.same s710, ea10, eb10, ed10, emp10, ha, hb, hd, Gm, fun i hi => ?_, fun H11 s11 => ?_⟩
      · exact plc_mid (by omega) (by omega) (by omega)
      obtain ⟨ks', eD', l8, i1, i2, i3, i4⟩ := fin H11 s11
      exact ⟨true, rfl, iteF ⟨.ref D, rfl, .inl ⟨rfl, _, .inl (.inl eD')⟩, .ref mp, rfl, D, _, _, rfl, rfl, eD', by rw [List.length_map]; exact small1000 (by omega), ⟨_, _, _, _, _, _, rfl⟩, i1, i2, i3, i4⟩⟩
    · obtain ⟨_, b6, _⟩ := y
      exact q _ b6
def spLaw (K : PySem.W.Frag) : Sp := fun vs H Q _ => ∃ (a : Addr) (ns : List Int), vs = [.ref a] ∧ SqL K H a (ns.map V.int) ∧ ns.length ≤ 63 ∧ ∀ H', Q (.bl true) H'
abbrev a_law : Stmt := topS 72
abbrev n_law : List Str := ["_law_script", "_law_k"]
theorem sc_law : FnScope n_law ["_law_script"] (defScope a_law) := ⟨rfl, rfl, rfl, by decide +kernel, rfl, by decide +kernel, by decide +kernel⟩
set_option maxHeartbeats 8000000 in
theorem ok_law {f fPo fRi : Addr} {fd fdPo fdRi : FuncData}   (F : Fun K "law" "law" a_law f fd) (Po : Kn P w K mg base 1 "_law_pot" ["_law_script", "_law_k"] (spPot K) fPo fdPo) (Ri : FnG P w K mg base 12 fRi fdRi ["_law_pot_here"] spR18) (gRi : mg "_law_right" = some (.ref fRi)) (kRi : PySem.W.keepIn K (.ref fRi) = true) (bRi : Binds K fdRi ["_law_pot_here"] [])  (m_all : mg "all" = none) (m_len : mg "len" = none) (m_max : mg "max" = none) (m_min : mg "min" = none) (m_range : mg "range" = none) : FnG P w K mg base 13 f fd ["_law_script"] (spLaw K) := by
  refine fnG F sc_law (fun vs H Q E h => ?_) (fun cdv A outer s H vs Q E hG hr h => ?_)
  · obtain ⟨a, ns, rfl, _⟩ := h
    rfl
  · obtain ⟨a, ns, rfl, hS, hn, q⟩ := h
    refine ⟨_, (pss_one (ps_ret (pe_callB (cr_all rfl) (by rfl) m_all (by decide +kernel) (pa_cons (
        pe_lc (own := [("_law_k", 1)]) (g := (gName 1)) (tt := tYes) (te := (tCall spR18 [] E0 (tCons (tCall (spPot K) [] E0 (tCons (tVar 0) (tCons (tVar 1) tNil))) tNil))) rfl sc_law.nd (pi_range1 (by rfl) m_range (pa_cons (pe_callB (call_max2 rfl) (by rfl) m_max (by decide +kernel) (pa_cons pe_int (pa_cons (pe_callB (call_min2 rfl) (by rfl) m_min (by decide +kernel) (pa_cons pe_int (pa_cons (pe_callB call_len_seq (by rfl) m_len (by decide +kernel) (pa_cons (pv 0) pa_nil)) pa_nil))) pa_nil))) pa_nil)) (blkOk_by (N := n_law) (sc := defScope a_law) (by decide +kernel))
          (fun _ _ _ _ _ => (pg_name (i := 1) sc_law.nd rfl (.inl rfl) (hf := .inr rfl))) (fun _ _ _ _ _ => pts_nil) (fun _ _ _ _ _ => (pe_callG hG Ri (hr.mono (by omega)) (by rfl) gRi kRi bRi (pa_cons (pe_kn Po hr (by omega) (pa_cons (pv 0) (pa_cons (pv 1) pa_nil))) pa_nil)))) pa_nil)))), ?_⟩
    refine ⟨.ref a, rfl, a, _, rfl, .inl hS, 3, _, rfl, 1, _, rfl, _, rfl, ?_, ?_, fun D nD => lc_it walk_range (fun i H' => Same H H' ∧ H' D = some (.lst ((List.replicate i true).map V.bl))) ⟨same_new nD, upd_same⟩ (fun _ _ _ _ => trivial) (fun i v H1' H1 hi y z => ?_) (fun H1 y => ?_)⟩
    · split <;> omega
    · split <;> omega
    · obtain ⟨s1, eD⟩ := y
      obtain ⟨rfl, rfl⟩ := z
      have i3 : i < 5 := by
        revert hi
        split <;> intro hi <;> omega
      refine ⟨wipe_one, .ref a, rfl, _, rfl, a, ns, i, by show [V.ref a, V.int (0 + (i : Int))] = _; rw [Int.zero_add], s1.seq hS, by omega, fun H2 p t2 n2 q2 => ?_⟩
      refine ⟨p, 0, rfl, q2, by omega, fun H3 b3 => ?_⟩
      have s3 : Same H1 H3 := fun b o e => b3 _ _ (ne_of_none e n2) (t2 _ _ e)
      refine ⟨_, s3 _ _ eD, ?_, same_over (s1.trans s3) nD, ?_⟩
      · rw [List.length_map, List.length_replicate]
        exact small1000 (by omega)
      · rw [upd_same, List.replicate_succ', List.map_append]
        rfl
    · obtain ⟨s1, eD⟩ := y
      refine ⟨D, _, rfl, .inl (.inl eD), ?_⟩
      rw [show ∀ n : Nat, (List.replicate n true).all id = true from fun n => by simp]
      exact q H1
end
end K18

set_option Elab.async false
set_option linter.all false
set_option maxRecDepth 100000
namespace K18
open PySem PySem.Spec PyProof.Rows L2 NB
set_option maxHeartbeats 8000000 in
theorem all_mk {l : PySem.W.OpenLaw} {w : World} {K : PySem.W.Frag} {h : Heap} {mg : Str → Option Value} {fa : Addr} (X : K.In h) (G : h.Ns mainGlobals mg) (hfa : mg "law" = some (.ref fa))
    {f1 : Addr} {od1 an1 : Option Addr} {sl1 : Array (Option Value)} {oc1 kV1 dc1 pm1 cd1 ct1 : Value}
    {f2 : Addr} {od2 an2 : Option Addr} {sl2 : Array (Option Value)} {oc2 kV2 dc2 pm2 cd2 ct2 : Value}
    {f3 : Addr} {od3 an3 : Option Addr} {sl3 : Array (Option Value)} {oc3 kV3 dc3 pm3 cd3 ct3 : Value}
    {f4 : Addr} {od4 an4 : Option Addr} {sl4 : Array (Option Value)} {oc4 kV4 dc4 pm4 cd4 ct4 : Value}
    {f5 : Addr} {od5 an5 : Option Addr} {sl5 : Array (Option Value)} {oc5 kV5 dc5 pm5 cd5 ct5 : Value}
    {f6 : Addr} {od6 an6 : Option Addr} {sl6 : Array (Option Value)} {oc6 kV6 dc6 pm6 cd6 ct6 : Value}
    {f7 : Addr} {od7 an7 : Option Addr} {sl7 : Array (Option Value)} {oc7 kV7 dc7 pm7 cd7 ct7 : Value}
    {f8 : Addr} {od8 an8 : Option Addr} {sl8 : Array (Option Value)} {oc8 kV8 dc8 pm8 cd8 ct8 : Value}
    {f9 : Addr} {od9 an9 : Option Addr} {sl9 : Array (Option Value)} {oc9 kV9 dc9 pm9 cd9 ct9 : Value}
    {f10 : Addr} {od10 an10 : Option Addr} {sl10 : Array (Option Value)} {oc10 kV10 dc10 pm10 cd10 ct10 : Value}
    {f11 : Addr} {od11 an11 : Option Addr} {sl11 : Array (Option Value)} {oc11 kV11 dc11 pm11 cd11 ct11 : Value}
    {f12 : Addr} {od12 an12 : Option Addr} {sl12 : Array (Option Value)} {oc12 kV12 dc12 pm12 cd12 ct12 : Value}
    {f13 : Addr} {od13 an13 : Option Addr} {sl13 : Array (Option Value)} {oc13 kV13 dc13 pm13 cd13 ct13 : Value}
    {f14 : Addr} {od14 an14 : Option Addr} {sl14 : Array (Option Value)} {oc14 kV14 dc14 pm14 cd14 ct14 : Value}
    {f15 : Addr} {od15 an15 : Option Addr} {sl15 : Array (Option Value)} {oc15 kV15 dc15 pm15 cd15 ct15 : Value}
    {f16 : Addr} {od16 an16 : Option Addr} {sl16 : Array (Option Value)} {oc16 kV16 dc16 pm16 cd16 ct16 : Value}
    {f17 : Addr} {od17 an17 : Option Addr} {sl17 : Array (Option Value)} {oc17 kV17 dc17 pm17 cd17 ct17 : Value}
    {f18 : Addr} {od18 an18 : Option Addr} {sl18 : Array (Option Value)} {oc18 kV18 dc18 pm18 cd18 ct18 : Value}
    {f19 : Addr} {od19 an19 : Option Addr} {sl19 : Array (Option Value)} {oc19 kV19 dc19 pm19 cd19 ct19 : Value}
    {f20 : Addr} {od20 an20 : Option Addr} {sl20 : Array (Option Value)} {oc20 kV20 dc20 pm20 cd20 ct20 : Value}
    {f21 : Addr} {od21 an21 : Option Addr} {sl21 : Array (Option Value)} {oc21 kV21 dc21 pm21 cd21 ct21 : Value}
    {f22 : Addr} {od22 an22 : Option Addr} {sl22 : Array (Option Value)} {oc22 kV22 dc22 pm22 cd22 ct22 : Value}
    {f23 : Addr} {od23 an23 : Option Addr} {sl23 : Array (Option Value)} {oc23 kV23 dc23 pm23 cd23 ct23 : Value}
    {f24 : Addr} {od24 an24 : Option Addr} {sl24 : Array (Option Value)} {oc24 kV24 dc24 pm24 cd24 ct24 : Value}
    {f25 : Addr} {od25 an25 : Option Addr} {sl25 : Array (Option Value)} {oc25 kV25 dc25 pm25 cd25 ct25 : Value}
    {f26 : Addr} {od26 an26 : Option Addr} {sl26 : Array (Option Value)} {oc26 kV26 dc26 pm26 cd26 ct26 : Value}
    {f27 : Addr} {od27 an27 : Option Addr} {sl27 : Array (Option Value)} {oc27 kV27 dc27 pm27 cd27 ct27 : Value}
    {f28 : Addr} {od28 an28 : Option Addr} {sl28 : Array (Option Value)} {oc28 kV28 dc28 pm28 cd28 ct28 : Value}
    {f29 : Addr} {od29 an29 : Option Addr} {sl29 : Array (Option Value)} {oc29 kV29 dc29 pm29 cd29 ct29 : Value}
    {f30 : Addr} {od30 an30 : Option Addr} {sl30 : Array (Option Value)} {oc30 kV30 dc30 pm30 cd30 ct30 : Value}
    {f31 : Addr} {od31 an31 : Option Addr} {sl31 : Array (Option Value)} {oc31 kV31 dc31 pm31 cd31 ct31 : Value}
    {f32 : Addr} {od32 an32 : Option Addr} {sl32 : Array (Option Value)} {oc32 kV32 dc32 pm32 cd32 ct32 : Value}
    {f33 : Addr} {od33 an33 : Option Addr} {sl33 : Array (Option Value)} {oc33 kV33 dc33 pm33 cd33 ct33 : Value}
    {f34 : Addr} {od34 an34 : Option Addr} {sl34 : Array (Option Value)} {oc34 kV34 dc34 pm34 cd34 ct34 : Value}
    {f35 : Addr} {od35 an35 : Option Addr} {sl35 : Array (Option Value)} {oc35 kV35 dc35 pm35 cd35 ct35 : Value}
    {f36 : Addr} {od36 an36 : Option Addr} {sl36 : Array (Option Value)} {oc36 kV36 dc36 pm36 cd36 ct36 : Value}
    {f37 : Addr} {od37 an37 : Option Addr} {sl37 : Array (Option Value)} {oc37 kV37 dc37 pm37 cd37 ct37 : Value}
    {f38 : Addr} {od38 an38 : Option Addr} {sl38 : Array (Option Value)} {oc38 kV38 dc38 pm38 cd38 ct38 : Value}
    {f39 : Addr} {od39 an39 : Option Addr} {sl39 : Array (Option Value)} {oc39 kV39 dc39 pm39 cd39 ct39 : Value}
    {f40 : Addr} {od40 an40 : Option Addr} {sl40 : Array (Option Value)} {oc40 kV40 dc40 pm40 cd40 ct40 : Value}
    {f41 : Addr} {od41 an41 : Option Addr} {sl41 : Array (Option Value)} {oc41 kV41 dc41 pm41 cd41 ct41 : Value}
    {f42 : Addr} {od42 an42 : Option Addr} {sl42 : Array (Option Value)} {oc42 kV42 dc42 pm42 cd42 ct42 : Value}
    {f43 : Addr} {od43 an43 : Option Addr} {sl43 : Array (Option Value)} {oc43 kV43 dc43 pm43 cd43 ct43 : Value}
    {f44 : Addr} {od44 an44 : Option Addr} {sl44 : Array (Option Value)} {oc44 kV44 dc44 pm44 cd44 ct44 : Value}
    {f45 : Addr} {od45 an45 : Option Addr} {sl45 : Array (Option Value)} {oc45 kV45 dc45 pm45 cd45 ct45 : Value}
    {f46 : Addr} {od46 an46 : Option Addr} {sl46 : Array (Option Value)} {oc46 kV46 dc46 pm46 cd46 ct46 : Value}
    {f47 : Addr} {od47 an47 : Option Addr} {sl47 : Array (Option Value)} {oc47 kV47 dc47 pm47 cd47 ct47 : Value}
    {f48 : Addr} {od48 an48 : Option Addr} {sl48 : Array (Option Value)} {oc48 kV48 dc48 pm48 cd48 ct48 : Value}
    {f49 : Addr} {od49 an49 : Option Addr} {sl49 : Array (Option Value)} {oc49 kV49 dc49 pm49 cd49 ct49 : Value}
    {f50 : Addr} {od50 an50 : Option Addr} {sl50 : Array (Option Value)} {oc50 kV50 dc50 pm50 cd50 ct50 : Value}
    {C f0 Td e0 wa : Addr} {od0 an0 odT odW : Option Addr} {sl0 slT slW : Array (Option Value)} {oc0 kV0 dc0 pm0 cd0 ct0 ocT : Value} {nT nW : Nat} {tk1 tk2 tk3 tk4 tk5 : Tok}
    (a1 : PySem.W.nsIn K mainGlobals "is_whole" = some (some (.ref f1)))
    (l1 : K.lookup f1 = some ⟨oc1, od1, .func (PySem.W.fnOf "is_whole" "is_whole" (defArgs kWhole) (defBody kWhole) (defScope kWhole) .none kV1 dc1 pm1 an1 cd1 ct1), sl1⟩)
    (c1 : PySem.W.codeIn K cd1 "is_whole" = true) (k1 : PySem.W.keepIn K (.ref f1) = true)
    (a2 : PySem.W.nsIn K mainGlobals "is_place" = some (some (.ref f2)))
    (l2 : K.lookup f2 = some ⟨oc2, od2, .func (PySem.W.fnOf "is_place" "is_place" (defArgs kPlace) (defBody kPlace) (defScope kPlace) .none kV2 dc2 pm2 an2 cd2 ct2), sl2⟩)
    (c2 : PySem.W.codeIn K cd2 "is_place" = true) (k2 : PySem.W.keepIn K (.ref f2) = true)
    (a3 : PySem.W.nsIn K mainGlobals "are_tops" = some (some (.ref f3)))
    (l3 : K.lookup f3 = some ⟨oc3, od3, .func (PySem.W.fnOf "are_tops" "are_tops" (defArgs kTops) (defBody kTops) (defScope kTops) .none kV3 dc3 pm3 an3 cd3 ct3), sl3⟩)
    (c3 : PySem.W.codeIn K cd3 "are_tops" = true) (k3 : PySem.W.keepIn K (.ref f3) = true)
    (a4 : PySem.W.nsIn K mainGlobals "is_side_of" = some (some (.ref f4)))
    (l4 : K.lookup f4 = some ⟨oc4, od4, .func (PySem.W.fnOf "is_side_of" "is_side_of" (defArgs kSide) (defBody kSide) (defScope kSide) .none kV4 dc4 pm4 an4 cd4 ct4), sl4⟩)
    (c4 : PySem.W.codeIn K cd4 "is_side_of" = true) (k4 : PySem.W.keepIn K (.ref f4) = true)
    (a5 : PySem.W.nsIn K mainGlobals "are_sides_of" = some (some (.ref f5)))
    (l5 : K.lookup f5 = some ⟨oc5, od5, .func (PySem.W.fnOf "are_sides_of" "are_sides_of" (defArgs a_are_sides_of) (defBody a_are_sides_of) (defScope a_are_sides_of) .none kV5 dc5 pm5 an5 cd5 ct5), sl5⟩)
    (c5 : PySem.W.codeIn K cd5 "are_sides_of" = true) (k5 : PySem.W.keepIn K (.ref f5) = true)
    (a6 : PySem.W.nsIn K mainGlobals "is_rule_of" = some (some (.ref f6)))
    (l6 : K.lookup f6 = some ⟨oc6, od6, .func (PySem.W.fnOf "is_rule_of" "is_rule_of" (defArgs kRule) (defBody kRule) (defScope kRule) .none kV6 dc6 pm6 an6 cd6 ct6), sl6⟩)
    (c6 : PySem.W.codeIn K cd6 "is_rule_of" = true) (k6 : PySem.W.keepIn K (.ref f6) = true)
    (a7 : PySem.W.nsIn K mainGlobals "are_rules_of" = some (some (.ref f7)))
    (l7 : K.lookup f7 = some ⟨oc7, od7, .func (PySem.W.fnOf "are_rules_of" "are_rules_of" (defArgs kRules) (defBody kRules) (defScope kRules) .none kV7 dc7 pm7 an7 cd7 ct7), sl7⟩)
    (c7 : PySem.W.codeIn K cd7 "are_rules_of" = true) (k7 : PySem.W.keepIn K (.ref f7) = true)
    (a8 : PySem.W.nsIn K mainGlobals "span" = some (some (.ref f8)))
    (l8 : K.lookup f8 = some ⟨oc8, od8, .func (PySem.W.fnOf "span" "span" (defArgs a_span) (defBody a_span) (defScope a_span) .none kV8 dc8 pm8 an8 cd8 ct8), sl8⟩)
    (c8 : PySem.W.codeIn K cd8 "span" = true) (k8 : PySem.W.keepIn K (.ref f8) = true)
    (a9 : PySem.W.nsIn K mainGlobals "other_side" = some (some (.ref f9)))
    (l9 : K.lookup f9 = some ⟨oc9, od9, .func (PySem.W.fnOf "other_side" "other_side" (defArgs a_other_side) (defBody a_other_side) (defScope a_other_side) .none kV9 dc9 pm9 an9 cd9 ct9), sl9⟩)
    (c9 : PySem.W.codeIn K cd9 "other_side" = true) (k9 : PySem.W.keepIn K (.ref f9) = true)
    (a10 : PySem.W.nsIn K mainGlobals "bars" = some (some (.ref f10)))
    (l10 : K.lookup f10 = some ⟨oc10, od10, .func (PySem.W.fnOf "bars" "bars" (defArgs a_bars) (defBody a_bars) (defScope a_bars) .none kV10 dc10 pm10 an10 cd10 ct10), sl10⟩)
    (c10 : PySem.W.codeIn K cd10 "bars" = true) (k10 : PySem.W.keepIn K (.ref f10) = true)
    (a11 : PySem.W.nsIn K mainGlobals "is_within" = some (some (.ref f11)))
    (l11 : K.lookup f11 = some ⟨oc11, od11, .func (PySem.W.fnOf "is_within" "is_within" (defArgs a_is_within) (defBody a_is_within) (defScope a_is_within) .none kV11 dc11 pm11 an11 cd11 ct11), sl11⟩)
    (c11 : PySem.W.codeIn K cd11 "is_within" = true) (k11 : PySem.W.keepIn K (.ref f11) = true)
    (a12 : PySem.W.nsIn K mainGlobals "led_by_rules" = some (some (.ref f12)))
    (l12 : K.lookup f12 = some ⟨oc12, od12, .func (PySem.W.fnOf "led_by_rules" "led_by_rules" (defArgs a_led_by_rules) (defBody a_led_by_rules) (defScope a_led_by_rules) .none kV12 dc12 pm12 an12 cd12 ct12), sl12⟩)
    (c12 : PySem.W.codeIn K cd12 "led_by_rules" = true) (k12 : PySem.W.keepIn K (.ref f12) = true)
    (a13 : PySem.W.nsIn K mainGlobals "leads" = some (some (.ref f13)))
    (l13 : K.lookup f13 = some ⟨oc13, od13, .func (PySem.W.fnOf "leads" "leads" (defArgs a_leads) (defBody a_leads) (defScope a_leads) .none kV13 dc13 pm13 an13 cd13 ct13), sl13⟩)
    (c13 : PySem.W.codeIn K cd13 "leads" = true) (k13 : PySem.W.keepIn K (.ref f13) = true)
    (a14 : PySem.W.nsIn K mainGlobals "is_chain" = some (some (.ref f14)))
    (l14 : K.lookup f14 = some ⟨oc14, od14, .func (PySem.W.fnOf "is_chain" "is_chain" (defArgs a_is_chain) (defBody a_is_chain) (defScope a_is_chain) .none kV14 dc14 pm14 an14 cd14 ct14), sl14⟩)
    (c14 : PySem.W.codeIn K cd14 "is_chain" = true) (k14 : PySem.W.keepIn K (.ref f14) = true)
    (a15 : PySem.W.nsIn K mainGlobals "reached" = some (some (.ref f15)))
    (l15 : K.lookup f15 = some ⟨oc15, od15, .func (PySem.W.fnOf "reached" "reached" (defArgs a_reached) (defBody a_reached) (defScope a_reached) .none kV15 dc15 pm15 an15 cd15 ct15), sl15⟩)
    (c15 : PySem.W.codeIn K cd15 "reached" = true) (k15 : PySem.W.keepIn K (.ref f15) = true)
    (a16 : PySem.W.nsIn K mainGlobals "chain_in" = some (some (.ref f16)))
    (l16 : K.lookup f16 = some ⟨oc16, od16, .func (PySem.W.fnOf "chain_in" "chain_in" (defArgs a_chain_in) (defBody a_chain_in) (defScope a_chain_in) .none kV16 dc16 pm16 an16 cd16 ct16), sl16⟩)
    (c16 : PySem.W.codeIn K cd16 "chain_in" = true) (k16 : PySem.W.keepIn K (.ref f16) = true)
    (a17 : PySem.W.nsIn K mainGlobals "chain_to" = some (some (.ref f17)))
    (l17 : K.lookup f17 = some ⟨oc17, od17, .func (PySem.W.fnOf "chain_to" "chain_to" (defArgs a_chain_to) (defBody a_chain_to) (defScope a_chain_to) .none kV17 dc17 pm17 an17 cd17 ct17), sl17⟩)
    (c17 : PySem.W.codeIn K cd17 "chain_to" = true) (k17 : PySem.W.keepIn K (.ref f17) = true)
    (a18 : PySem.W.nsIn K mainGlobals "is_standing" = some (some (.ref f18)))
    (l18 : K.lookup f18 = some ⟨oc18, od18, .func (PySem.W.fnOf "is_standing" "is_standing" (defArgs a_is_standing) (defBody a_is_standing) (defScope a_is_standing) .none kV18 dc18 pm18 an18 cd18 ct18), sl18⟩)
    (c18 : PySem.W.codeIn K cd18 "is_standing" = true) (k18 : PySem.W.keepIn K (.ref f18) = true)
    (a19 : PySem.W.nsIn K mainGlobals "is_in" = some (some (.ref f19)))
    (l19 : K.lookup f19 = some ⟨oc19, od19, .func (PySem.W.fnOf "is_in" "is_in" (defArgs kIn) (defBody kIn) (defScope kIn) .none kV19 dc19 pm19 an19 cd19 ct19), sl19⟩)
    (c19 : PySem.W.codeIn K cd19 "is_in" = true) (k19 : PySem.W.keepIn K (.ref f19) = true)
    (a20 : PySem.W.nsIn K mainGlobals "is_kept" = some (some (.ref f20)))
    (l20 : K.lookup f20 = some ⟨oc20, od20, .func (PySem.W.fnOf "is_kept" "is_kept" (defArgs kKept) (defBody kKept) (defScope kKept) .none kV20 dc20 pm20 an20 cd20 ct20), sl20⟩)
    (c20 : PySem.W.codeIn K cd20 "is_kept" = true) (k20 : PySem.W.keepIn K (.ref f20) = true)
    (a21 : PySem.W.nsIn K mainGlobals "broken" = some (some (.ref f21)))
    (l21 : K.lookup f21 = some ⟨oc21, od21, .func (PySem.W.fnOf "broken" "broken" (defArgs kBroken) (defBody kBroken) (defScope kBroken) .none kV21 dc21 pm21 an21 cd21 ct21), sl21⟩)
    (c21 : PySem.W.codeIn K cd21 "broken" = true) (k21 : PySem.W.keepIn K (.ref f21) = true)
    (a22 : PySem.W.nsIn K mainGlobals "is_good" = some (some (.ref f22)))
    (l22 : K.lookup f22 = some ⟨oc22, od22, .func (PySem.W.fnOf "is_good" "is_good" (defArgs kGood) (defBody kGood) (defScope kGood) .none kV22 dc22 pm22 an22 cd22 ct22), sl22⟩)
    (c22 : PySem.W.codeIn K cd22 "is_good" = true) (k22 : PySem.W.keepIn K (.ref f22) = true)
    (a23 : PySem.W.nsIn K mainGlobals "has" = some (some (.ref f23)))
    (l23 : K.lookup f23 = some ⟨oc23, od23, .func (PySem.W.fnOf "has" "has" (defArgs a_has) (defBody a_has) (defScope a_has) .none kV23 dc23 pm23 an23 cd23 ct23), sl23⟩)
    (c23 : PySem.W.codeIn K cd23 "has" = true) (k23 : PySem.W.keepIn K (.ref f23) = true)
    (a24 : PySem.W.nsIn K mainGlobals "follows" = some (some (.ref f24)))
    (l24 : K.lookup f24 = some ⟨oc24, od24, .func (PySem.W.fnOf "follows" "follows" (defArgs a_follows) (defBody a_follows) (defScope a_follows) .none kV24 dc24 pm24 an24 cd24 ct24), sl24⟩)
    (c24 : PySem.W.codeIn K cd24 "follows" = true) (k24 : PySem.W.keepIn K (.ref f24) = true)
    (a25 : PySem.W.nsIn K mainGlobals "barred_paper" = some (some (.ref f25)))
    (l25 : K.lookup f25 = some ⟨oc25, od25, .func (PySem.W.fnOf "barred_paper" "barred_paper" (defArgs a_barred_paper) (defBody a_barred_paper) (defScope a_barred_paper) .none kV25 dc25 pm25 an25 cd25 ct25), sl25⟩)
    (c25 : PySem.W.codeIn K cd25 "barred_paper" = true) (k25 : PySem.W.keepIn K (.ref f25) = true)
    (a26 : PySem.W.nsIn K mainGlobals "rule_sides" = some (some (.ref f26)))
    (l26 : K.lookup f26 = some ⟨oc26, od26, .func (PySem.W.fnOf "rule_sides" "rule_sides" (defArgs a_rule_sides) (defBody a_rule_sides) (defScope a_rule_sides) .none kV26 dc26 pm26 an26 cd26 ct26), sl26⟩)
    (c26 : PySem.W.codeIn K cd26 "rule_sides" = true) (k26 : PySem.W.keepIn K (.ref f26) = true)
    (a27 : PySem.W.nsIn K mainGlobals "turning" = some (some (.ref f27)))
    (l27 : K.lookup f27 = some ⟨oc27, od27, .func (PySem.W.fnOf "turning" "turning" (defArgs a_turning) (defBody a_turning) (defScope a_turning) .none kV27 dc27 pm27 an27 cd27 ct27), sl27⟩)
    (c27 : PySem.W.codeIn K cd27 "turning" = true) (k27 : PySem.W.keepIn K (.ref f27) = true)
    (a28 : PySem.W.nsIn K mainGlobals "ring_paper" = some (some (.ref f28)))
    (l28 : K.lookup f28 = some ⟨oc28, od28, .func (PySem.W.fnOf "ring_paper" "ring_paper" (defArgs a_ring_paper) (defBody a_ring_paper) (defScope a_ring_paper) .none kV28 dc28 pm28 an28 cd28 ct28), sl28⟩)
    (c28 : PySem.W.codeIn K cd28 "ring_paper" = true) (k28 : PySem.W.keepIn K (.ref f28) = true)
    (a29 : PySem.W.nsIn K mainGlobals "none_paper" = some (some (.ref f29)))
    (l29 : K.lookup f29 = some ⟨oc29, od29, .func (PySem.W.fnOf "none_paper" "none_paper" (defArgs a_none_paper) (defBody a_none_paper) (defScope a_none_paper) .none kV29 dc29 pm29 an29 cd29 ct29), sl29⟩)
    (c29 : PySem.W.codeIn K cd29 "none_paper" = true) (k29 : PySem.W.keepIn K (.ref f29) = true)
    (a30 : PySem.W.nsIn K mainGlobals "pulled" = some (some (.ref f30)))
    (l30 : K.lookup f30 = some ⟨oc30, od30, .func (PySem.W.fnOf "pulled" "pulled" (defArgs a_pulled) (defBody a_pulled) (defScope a_pulled) .none kV30 dc30 pm30 an30 cd30 ct30), sl30⟩)
    (c30 : PySem.W.codeIn K cd30 "pulled" = true) (k30 : PySem.W.keepIn K (.ref f30) = true)
    (a31 : PySem.W.nsIn K mainGlobals "nearest" = some (some (.ref f31)))
    (l31 : K.lookup f31 = some ⟨oc31, od31, .func (PySem.W.fnOf "nearest" "nearest" (defArgs a_nearest) (defBody a_nearest) (defScope a_nearest) .none kV31 dc31 pm31 an31 cd31 ct31), sl31⟩)
    (c31 : PySem.W.codeIn K cd31 "nearest" = true) (k31 : PySem.W.keepIn K (.ref f31) = true)
    (a32 : PySem.W.nsIn K mainGlobals "come_to" = some (some (.ref f32)))
    (l32 : K.lookup f32 = some ⟨oc32, od32, .func (PySem.W.fnOf "come_to" "come_to" (defArgs a_come_to) (defBody a_come_to) (defScope a_come_to) .none kV32 dc32 pm32 an32 cd32 ct32), sl32⟩)
    (c32 : PySem.W.codeIn K cd32 "come_to" = true) (k32 : PySem.W.keepIn K (.ref f32) = true)
    (a33 : PySem.W.nsIn K mainGlobals "nearest_paper" = some (some (.ref f33)))
    (l33 : K.lookup f33 = some ⟨oc33, od33, .func (PySem.W.fnOf "nearest_paper" "nearest_paper" (defArgs a_nearest_paper) (defBody a_nearest_paper) (defScope a_nearest_paper) .none kV33 dc33 pm33 an33 cd33 ct33), sl33⟩)
    (c33 : PySem.W.codeIn K cd33 "nearest_paper" = true) (k33 : PySem.W.keepIn K (.ref f33) = true)
    (a34 : PySem.W.nsIn K mainGlobals "is_pull" = some (some (.ref f34)))
    (l34 : K.lookup f34 = some ⟨oc34, od34, .func (PySem.W.fnOf "is_pull" "is_pull" (defArgs a_is_pull) (defBody a_is_pull) (defScope a_is_pull) .none kV34 dc34 pm34 an34 cd34 ct34), sl34⟩)
    (c34 : PySem.W.codeIn K cd34 "is_pull" = true) (k34 : PySem.W.keepIn K (.ref f34) = true)
    (a35 : PySem.W.nsIn K mainGlobals "are_pulls" = some (some (.ref f35)))
    (l35 : K.lookup f35 = some ⟨oc35, od35, .func (PySem.W.fnOf "are_pulls" "are_pulls" (defArgs a_are_pulls) (defBody a_are_pulls) (defScope a_are_pulls) .none kV35 dc35 pm35 an35 cd35 ct35), sl35⟩)
    (c35 : PySem.W.codeIn K cd35 "are_pulls" = true) (k35 : PySem.W.keepIn K (.ref f35) = true)
    (a36 : PySem.W.nsIn K mainGlobals "shows_nearest" = some (some (.ref f36)))
    (l36 : K.lookup f36 = some ⟨oc36, od36, .func (PySem.W.fnOf "shows_nearest" "shows_nearest" (defArgs a_shows_nearest) (defBody a_shows_nearest) (defScope a_shows_nearest) .none kV36 dc36 pm36 an36 cd36 ct36), sl36⟩)
    (c36 : PySem.W.codeIn K cd36 "shows_nearest" = true) (k36 : PySem.W.keepIn K (.ref f36) = true)
    (a37 : PySem.W.nsIn K mainGlobals "middle" = some (some (.ref f37)))
    (l37 : K.lookup f37 = some ⟨oc37, od37, .func (PySem.W.fnOf "middle" "middle" (defArgs sMiddle) (defBody sMiddle) (defScope sMiddle) .none kV37 dc37 pm37 an37 cd37 ct37), sl37⟩)
    (c37 : PySem.W.codeIn K cd37 "middle" = true) (k37 : PySem.W.keepIn K (.ref f37) = true)
    (a38 : PySem.W.nsIn K mainGlobals "is_between" = some (some (.ref f38)))
    (l38 : K.lookup f38 = some ⟨oc38, od38, .func (PySem.W.fnOf "is_between" "is_between" (defArgs sBetween) (defBody sBetween) (defScope sBetween) .none kV38 dc38 pm38 an38 cd38 ct38), sl38⟩)
    (c38 : PySem.W.codeIn K cd38 "is_between" = true) (k38 : PySem.W.keepIn K (.ref f38) = true)
    (a39 : PySem.W.nsIn K mainGlobals "_law_pot" = some (some (.ref f39)))
    (l39 : K.lookup f39 = some ⟨oc39, od39, .func (PySem.W.fnOf "_law_pot" "_law_pot" (defArgs sPot) (defBody sPot) (defScope sPot) .none kV39 dc39 pm39 an39 cd39 ct39), sl39⟩)
    (c39 : PySem.W.codeIn K cd39 "_law_pot" = true) (k39 : PySem.W.keepIn K (.ref f39) = true)
    (a40 : PySem.W.nsIn K mainGlobals "_law_take" = some (some (.ref f40)))
    (l40 : K.lookup f40 = some ⟨oc40, od40, .func (PySem.W.fnOf "_law_take" "_law_take" (defArgs sTake) (defBody sTake) (defScope sTake) .none kV40 dc40 pm40 an40 cd40 ct40), sl40⟩)
    (c40 : PySem.W.codeIn K cd40 "_law_take" = true) (k40 : PySem.W.keepIn K (.ref f40) = true)
    (a41 : PySem.W.nsIn K mainGlobals "_law_of" = some (some (.ref f41)))
    (l41 : K.lookup f41 = some ⟨oc41, od41, .func (PySem.W.fnOf "_law_of" "_law_of" (defArgs sOf) (defBody sOf) (defScope sOf) .none kV41 dc41 pm41 an41 cd41 ct41), sl41⟩)
    (c41 : PySem.W.codeIn K cd41 "_law_of" = true) (k41 : PySem.W.keepIn K (.ref f41) = true)
    (a42 : PySem.W.nsIn K mainGlobals "_law_standing" = some (some (.ref f42)))
    (l42 : K.lookup f42 = some ⟨oc42, od42, .func (PySem.W.fnOf "_law_standing" "_law_standing" (defArgs sStand) (defBody sStand) (defScope sStand) .none kV42 dc42 pm42 an42 cd42 ct42), sl42⟩)
    (c42 : PySem.W.codeIn K cd42 "_law_standing" = true) (k42 : PySem.W.keepIn K (.ref f42) = true)
    (a43 : PySem.W.nsIn K mainGlobals "_law_great_tops" = some (some (.ref f43)))
    (l43 : K.lookup f43 = some ⟨oc43, od43, .func (PySem.W.fnOf "_law_great_tops" "_law_great_tops" (defArgs aGTops) (defBody aGTops) (defScope aGTops) .none kV43 dc43 pm43 an43 cd43 ct43), sl43⟩)
    (c43 : PySem.W.codeIn K cd43 "_law_great_tops" = true) (k43 : PySem.W.keepIn K (.ref f43) = true)
    (a44 : PySem.W.nsIn K mainGlobals "_law_shared" = some (some (.ref f44)))
    (l44 : K.lookup f44 = some ⟨oc44, od44, .func (PySem.W.fnOf "_law_shared" "_law_shared" (defArgs a__law_shared) (defBody a__law_shared) (defScope a__law_shared) .none kV44 dc44 pm44 an44 cd44 ct44), sl44⟩)
    (c44 : PySem.W.codeIn K cd44 "_law_shared" = true) (k44 : PySem.W.keepIn K (.ref f44) = true)
    (a45 : PySem.W.nsIn K mainGlobals "_law_of_three" = some (some (.ref f45)))
    (l45 : K.lookup f45 = some ⟨oc45, od45, .func (PySem.W.fnOf "_law_of_three" "_law_of_three" (defArgs a__law_of_three) (defBody a__law_of_three) (defScope a__law_of_three) .none kV45 dc45 pm45 an45 cd45 ct45), sl45⟩)
    (c45 : PySem.W.codeIn K cd45 "_law_of_three" = true) (k45 : PySem.W.keepIn K (.ref f45) = true)
    (a46 : PySem.W.nsIn K mainGlobals "_law_middle" = some (some (.ref f46)))
    (l46 : K.lookup f46 = some ⟨oc46, od46, .func (PySem.W.fnOf "_law_middle" "_law_middle" (defArgs a__law_middle) (defBody a__law_middle) (defScope a__law_middle) .none kV46 dc46 pm46 an46 cd46 ct46), sl46⟩)
    (c46 : PySem.W.codeIn K cd46 "_law_middle" = true) (k46 : PySem.W.keepIn K (.ref f46) = true)
    (a47 : PySem.W.nsIn K mainGlobals "_law_alike" = some (some (.ref f47)))
    (l47 : K.lookup f47 = some ⟨oc47, od47, .func (PySem.W.fnOf "_law_alike" "_law_alike" (defArgs a__law_alike) (defBody a__law_alike) (defScope a__law_alike) .none kV47 dc47 pm47 an47 cd47 ct47), sl47⟩)
    (c47 : PySem.W.codeIn K cd47 "_law_alike" = true) (k47 : PySem.W.keepIn K (.ref f47) = true)
    (a48 : PySem.W.nsIn K mainGlobals "_law_three_right" = some (some (.ref f48)))
    (l48 : K.lookup f48 = some ⟨oc48, od48, .func (PySem.W.fnOf "_law_three_right" "_law_three_right" (defArgs a__law_three_right) (defBody a__law_three_right) (defScope a__law_three_right) .none kV48 dc48 pm48 an48 cd48 ct48), sl48⟩)
    (c48 : PySem.W.codeIn K cd48 "_law_three_right" = true) (k48 : PySem.W.keepIn K (.ref f48) = true)
    (a49 : PySem.W.nsIn K mainGlobals "_law_right" = some (some (.ref f49)))
    (l49 : K.lookup f49 = some ⟨oc49, od49, .func (PySem.W.fnOf "_law_right" "_law_right" (defArgs a__law_right) (defBody a__law_right) (defScope a__law_right) .none kV49 dc49 pm49 an49 cd49 ct49), sl49⟩)
    (c49 : PySem.W.codeIn K cd49 "_law_right" = true) (k49 : PySem.W.keepIn K (.ref f49) = true)
    (a50 : PySem.W.nsIn K mainGlobals "law" = some (some (.ref f50)))
    (l50 : K.lookup f50 = some ⟨oc50, od50, .func (PySem.W.fnOf "law" "law" (defArgs a_law) (defBody a_law) (defScope a_law) .none kV50 dc50 pm50 an50 cd50 ct50), sl50⟩)
    (c50 : PySem.W.codeIn K cd50 "law" = true) (k50 : PySem.W.keepIn K (.ref f50) = true)
    (aC : PySem.W.nsIn K mainGlobals "Plan" = some (some (.ref C))) (aI : PySem.W.findIn K (.ref C) "__init__" = some (some (.ref f0))) (iI : PySem.W.isFn K (.ref f0) = true)
    (lI : K.lookup f0 = some ⟨oc0, od0, .func (PySem.W.fnOf "__init__" "Plan.__init__" (defArgs kInit) (defBody kInit) (defScope kInit) (.ref Td) kV0 dc0 pm0 an0 cd0 ct0), sl0⟩) (cI : PySem.W.codeIn K cd0 "Plan.__init__" = true) (kI : PySem.W.keepIn K (.ref f0) = true)
    (lT : K.lookup Td = some ⟨ocT, odT, .seq #[.ref e0] nT, slT⟩)
    (pg : PySem.W.plainGet K C Str.empty = true) (hd : PySem.W.hasDictIn K C = true) (po : PySem.W.plainOver K C = true) (sa : PySem.W.findIn K (.ref C) "__setattr__" = some (some (.builtin "object.__setattr__"))) (mk : PySem.W.makesIn K C = true) (kc : PySem.W.keepIn K (.ref C) = true)
    (nTo : PySem.W.findIn K (.ref C) "tops" = some none) (nRu : PySem.W.findIn K (.ref C) "rules" = some none)
    (v1 : PySem.W.nsIn K mainGlobals "MOST_THINGS" = some (some (.int 12 tk1))) (v2 : PySem.W.nsIn K mainGlobals "MOST_RULES" = some (some (.int 40 tk2))) (v3 : PySem.W.nsIn K mainGlobals "BEYOND_THIRTY_FIGURES" = some (some (.int 1000000000000000000000000000000 tk3)))
    (v4 : PySem.W.nsIn K mainGlobals "WORDS" = some (some (.ref wa))) (v5 : K.lookup wa = some ⟨.type "tuple", odW, .seq #[.str "from" tk4, .str "to" tk5] nW, slW⟩)
    (z1 : PySem.W.nsIn K mainGlobals "abs" = some none)
    (z2 : PySem.W.nsIn K mainGlobals "all" = some none)
    (z3 : PySem.W.nsIn K mainGlobals "any" = some none)
    (z4 : PySem.W.nsIn K mainGlobals "bool" = some none)
    (z5 : PySem.W.nsIn K mainGlobals "enumerate" = some none)
    (z6 : PySem.W.nsIn K mainGlobals "int" = some none)
    (z7 : PySem.W.nsIn K mainGlobals "isinstance" = some none)
    (z8 : PySem.W.nsIn K mainGlobals "len" = some none)
    (z9 : PySem.W.nsIn K mainGlobals "list" = some none)
    (z10 : PySem.W.nsIn K mainGlobals "max" = some none)
    (z11 : PySem.W.nsIn K mainGlobals "min" = some none)
    (z12 : PySem.W.nsIn K mainGlobals "range" = some none)
    (z13 : PySem.W.nsIn K mainGlobals "repr" = some none)
    (z14 : PySem.W.nsIn K mainGlobals "sorted" = some none)
    (z15 : PySem.W.nsIn K mainGlobals "str" = some none)
    (z16 : PySem.W.nsIn K mainGlobals "tuple" = some none)
    (z17 : PySem.W.nsIn K mainGlobals "zip" = some none)
    : ∃ fd : FuncData, (∀ (s : Shared) (v : Value), BindsTo s fd ⟨[v], []⟩ [("_law_script", v)]) ∧ ∀ base : Heap, K.In base → base.Ns mainGlobals mg → FnG l.prog w K mg base 13 fa fd ["_law_script"] (spLaw K) := by
  have e := hfa.symm.trans (PySem.W.mg_of X G a50)
  cases e
  have F1 := fun_mk (st := kWhole) l1 c1 k1
  have b1 := F1.binds (ps := ["thing"]) fun _ _ _ _ _ _ us hl => match us, hl with | [_], _ => rfl
  have g1 := PySem.W.mg_of X G a1
  have F2 := fun_mk (st := kPlace) l2 c2 k2
  have b2 := F2.binds (ps := ["top", "thing"]) fun _ _ _ _ _ _ us hl => match us, hl with | [_, _], _ => rfl
  have g2 := PySem.W.mg_of X G a2
  have F3 := fun_mk (st := kTops) l3 c3 k3
  have b3 := F3.binds (ps := ["thing"]) fun _ _ _ _ _ _ us hl => match us, hl with | [_], _ => rfl
  have g3 := PySem.W.mg_of X G a3
  have F4 := fun_mk (st := kSide) l4 c4 k4
  have b4 := F4.binds (ps := ["tops", "thing"]) fun _ _ _ _ _ _ us hl => match us, hl with | [_, _], _ => rfl
  have g4 := PySem.W.mg_of X G a4
  have F5 := fun_mk (st := a_are_sides_of) l5 c5 k5
  have b5 := F5.binds (ps := ["tops", "thing"]) fun _ _ _ _ _ _ us hl => match us, hl with | [_, _], _ => rfl
  have g5 := PySem.W.mg_of X G a5
  have F6 := fun_mk (st := kRule) l6 c6 k6
  have b6 := F6.binds (ps := ["tops", "thing"]) fun _ _ _ _ _ _ us hl => match us, hl with | [_, _], _ => rfl
  have g6 := PySem.W.mg_of X G a6
  have F7 := fun_mk (st := kRules) l7 c7 k7
  have b7 := F7.binds (ps := ["tops", "thing"]) fun _ _ _ _ _ _ us hl => match us, hl with | [_, _], _ => rfl
  have g7 := PySem.W.mg_of X G a7
  have F8 := fun_mk (st := a_span) l8 c8 k8
  have b8 := F8.binds (ps := ["plan", "side"]) fun _ _ _ _ _ _ us hl => match us, hl with | [_, _], _ => rfl
  have g8 := PySem.W.mg_of X G a8
  have F9 := fun_mk (st := a_other_side) l9 c9 k9
  have b9 := F9.binds (ps := ["plan", "side"]) fun _ _ _ _ _ _ us hl => match us, hl with | [_, _], _ => rfl
  have g9 := PySem.W.mg_of X G a9
  have F10 := fun_mk (st := a_bars) l10 c10 k10
  have b10 := F10.binds (ps := ["plan", "one", "other"]) fun _ _ _ _ _ _ us hl => match us, hl with | [_, _, _], _ => rfl
  have g10 := PySem.W.mg_of X G a10
  have F11 := fun_mk (st := a_is_within) l11 c11 k11
  have b11 := F11.binds (ps := ["plan", "one", "other"]) fun _ _ _ _ _ _ us hl => match us, hl with | [_, _, _], _ => rfl
  have g11 := PySem.W.mg_of X G a11
  have F12 := fun_mk (st := a_led_by_rules) l12 c12 k12
  have b12 := F12.binds (ps := ["plan", "side"]) fun _ _ _ _ _ _ us hl => match us, hl with | [_, _], _ => rfl
  have g12 := PySem.W.mg_of X G a12
  have F13 := fun_mk (st := a_leads) l13 c13 k13
  have b13 := F13.binds (ps := ["plan", "one", "other"]) fun _ _ _ _ _ _ us hl => match us, hl with | [_, _, _], _ => rfl
  have g13 := PySem.W.mg_of X G a13
  have F14 := fun_mk (st := a_is_chain) l14 c14 k14
  have b14 := F14.binds (ps := ["plan", "thing"]) fun _ _ _ _ _ _ us hl => match us, hl with | [_, _], _ => rfl
  have g14 := PySem.W.mg_of X G a14
  have F15 := fun_mk (st := a_reached) l15 c15 k15
  have b15 := F15.binds (ps := ["plan", "starts"]) fun _ _ _ _ _ _ us hl => match us, hl with | [_, _], _ => rfl
  have g15 := PySem.W.mg_of X G a15
  have F16 := fun_mk (st := a_chain_in) l16 c16 k16
  have b16 := F16.binds (ps := ["ahead", "side"]) fun _ _ _ _ _ _ us hl => match us, hl with | [_, _], _ => rfl
  have g16 := PySem.W.mg_of X G a16
  have F17 := fun_mk (st := a_chain_to) l17 c17 k17
  have b17 := F17.binds (ps := ["plan", "starts", "goal"]) fun _ _ _ _ _ _ us hl => match us, hl with | [_, _, _], _ => rfl
  have g17 := PySem.W.mg_of X G a17
  have F18 := fun_mk (st := a_is_standing) l18 c18 k18
  have b18 := F18.binds (ps := ["plan", "thing"]) fun _ _ _ _ _ _ us hl => match us, hl with | [_, _], _ => rfl
  have g18 := PySem.W.mg_of X G a18
  have F19 := fun_mk (st := kIn) l19 c19 k19
  have b19 := F19.binds (ps := ["side", "standing"]) fun _ _ _ _ _ _ us hl => match us, hl with | [_, _], _ => rfl
  have g19 := PySem.W.mg_of X G a19
  have F20 := fun_mk (st := kKept) l20 c20 k20
  have b20 := F20.binds (ps := ["rule", "standing"]) fun _ _ _ _ _ _ us hl => match us, hl with | [_, _], _ => rfl
  have g20 := PySem.W.mg_of X G a20
  have F21 := fun_mk (st := kBroken) l21 c21 k21
  have b21 := F21.binds (ps := ["plan", "standing"]) fun _ _ _ _ _ _ us hl => match us, hl with | [_, _], _ => rfl
  have g21 := PySem.W.mg_of X G a21
  have F22 := fun_mk (st := kGood) l22 c22 k22
  have b22 := F22.binds (ps := ["plan", "standing"]) fun _ _ _ _ _ _ us hl => match us, hl with | [_, _], _ => rfl
  have g22 := PySem.W.mg_of X G a22
  have F23 := fun_mk (st := a_has) l23 c23 k23
  have b23 := F23.binds (ps := ["want", "standing"]) fun _ _ _ _ _ _ us hl => match us, hl with | [_, _], _ => rfl
  have g23 := PySem.W.mg_of X G a23
  have F24 := fun_mk (st := a_follows) l24 c24 k24
  have b24 := F24.binds (ps := ["plan", "want"]) fun _ _ _ _ _ _ us hl => match us, hl with | [_, _], _ => rfl
  have g24 := PySem.W.mg_of X G a24
  have F25 := fun_mk (st := a_barred_paper) l25 c25 k25
  have b25 := F25.binds (ps := ["plan", "want"]) fun _ _ _ _ _ _ us hl => match us, hl with | [_, _], _ => rfl
  have g25 := PySem.W.mg_of X G a25
  have F26 := fun_mk (st := a_rule_sides) l26 c26 k26
  have b26 := F26.binds (ps := ["plan"]) fun _ _ _ _ _ _ us hl => match us, hl with | [_], _ => rfl
  have g26 := PySem.W.mg_of X G a26
  have F27 := fun_mk (st := a_turning) l27 c27 k27
  have b27 := F27.binds (ps := ["plan", "side"]) fun _ _ _ _ _ _ us hl => match us, hl with | [_, _], _ => rfl
  have g27 := PySem.W.mg_of X G a27
  have F28 := fun_mk (st := a_ring_paper) l28 c28 k28
  have b28 := F28.binds (ps := ["plan"]) fun _ _ _ _ _ _ us hl => match us, hl with | [_], _ => rfl
  have g28 := PySem.W.mg_of X G a28
  have F29 := fun_mk (st := a_none_paper) l29 c29 k29
  have b29 := F29.binds (ps := ["plan", "want"]) fun _ _ _ _ _ _ us hl => match us, hl with | [_, _], _ => rfl
  have g29 := PySem.W.mg_of X G a29
  have F30 := fun_mk (st := a_pulled) l30 c30 k30
  have b30 := F30.binds (ps := ["plan", "standing", "want"]) fun _ _ _ _ _ _ us hl => match us, hl with | [_, _, _], _ => rfl
  have g30 := PySem.W.mg_of X G a30
  have F31 := fun_mk (st := a_nearest) l31 c31 k31
  have b31 := F31.binds (ps := ["plan", "standing", "want"]) fun _ _ _ _ _ _ us hl => match us, hl with | [_, _, _], _ => rfl
  have g31 := PySem.W.mg_of X G a31
  have F32 := fun_mk (st := a_come_to) l32 c32 k32
  have b32 := F32.binds (ps := ["thing", "here", "there"]) fun _ _ _ _ _ _ us hl => match us, hl with | [_, _, _], _ => rfl
  have g32 := PySem.W.mg_of X G a32
  have F33 := fun_mk (st := a_nearest_paper) l33 c33 k33
  have b33 := F33.binds (ps := ["plan", "standing", "want"]) fun _ _ _ _ _ _ us hl => match us, hl with | [_, _, _], _ => rfl
  have g33 := PySem.W.mg_of X G a33
  have F34 := fun_mk (st := a_is_pull) l34 c34 k34
  have b34 := F34.binds (ps := ["plan", "want", "goal", "thing"]) fun _ _ _ _ _ _ us hl => match us, hl with | [_, _, _, _], _ => rfl
  have g34 := PySem.W.mg_of X G a34
  have F35 := fun_mk (st := a_are_pulls) l35 c35 k35
  have b35 := F35.binds (ps := ["plan", "standing", "want", "new", "thing"]) fun _ _ _ _ _ _ us hl => match us, hl with | [_, _, _, _, _], _ => rfl
  have g35 := PySem.W.mg_of X G a35
  have F36 := fun_mk (st := a_shows_nearest) l36 c36 k36
  have b36 := F36.binds (ps := ["plan", "standing", "want", "new", "thing"]) fun _ _ _ _ _ _ us hl => match us, hl with | [_, _, _, _, _], _ => rfl
  have g36 := PySem.W.mg_of X G a36
  have F37 := fun_mk (st := sMiddle) l37 c37 k37
  have b37 := F37.binds (ps := ["one", "two", "three"]) fun _ _ _ _ _ _ us hl => match us, hl with | [_, _, _], _ => rfl
  have g37 := PySem.W.mg_of X G a37
  have F38 := fun_mk (st := sBetween) l38 c38 k38
  have b38 := F38.binds (ps := ["one", "x", "other"]) fun _ _ _ _ _ _ us hl => match us, hl with | [_, _, _], _ => rfl
  have g38 := PySem.W.mg_of X G a38
  have F39 := fun_mk (st := sPot) l39 c39 k39
  have b39 := F39.binds (ps := ["_law_script", "_law_k"]) fun _ _ _ _ _ _ us hl => match us, hl with | [_, _], _ => rfl
  have g39 := PySem.W.mg_of X G a39
  have F40 := fun_mk (st := sTake) l40 c40 k40
  have b40 := F40.binds (ps := ["_law_pot_here", "_law_many"]) fun _ _ _ _ _ _ us hl => match us, hl with | [_, _], _ => rfl
  have g40 := PySem.W.mg_of X G a40
  have F41 := fun_mk (st := sOf) l41 c41 k41
  have b41 := F41.binds (ps := ["_law_pot_here", "_law_some"]) fun _ _ _ _ _ _ us hl => match us, hl with | [_, _], _ => rfl
  have g41 := PySem.W.mg_of X G a41
  have F42 := fun_mk (st := sStand) l42 c42 k42
  have b42 := F42.binds (ps := ["_law_pot_here", "_law_tops"]) fun _ _ _ _ _ _ us hl => match us, hl with | [_, _], _ => rfl
  have g42 := PySem.W.mg_of X G a42
  have F43 := fun_mk (st := aGTops) l43 c43 k43
  have b43 := F43.binds (ps := ["_law_pot_here"]) fun _ _ _ _ _ _ us hl => match us, hl with | [_], _ => rfl
  have g43 := PySem.W.mg_of X G a43
  have F44 := fun_mk (st := a__law_shared) l44 c44 k44
  have b44 := F44.binds (ps := ["_law_pot_here", "_law_tops", "_law_one", "_law_other"]) fun _ _ _ _ _ _ us hl => match us, hl with | [_, _, _, _], _ => rfl
  have g44 := PySem.W.mg_of X G a44
  have F45 := fun_mk (st := a__law_of_three) l45 c45 k45
  have b45 := F45.binds (ps := ["_law_pot_here", "_law_tops", "_law_three", "_law_many"]) fun _ _ _ _ _ _ us hl => match us, hl with | [_, _, _, _], _ => rfl
  have g45 := PySem.W.mg_of X G a45
  have F46 := fun_mk (st := a__law_middle) l46 c46 k46
  have b46 := F46.binds (ps := ["_law_one", "_law_two", "_law_three"]) fun _ _ _ _ _ _ us hl => match us, hl with | [_, _, _], _ => rfl
  have g46 := PySem.W.mg_of X G a46
  have F47 := fun_mk (st := a__law_alike) l47 c47 k47
  have b47 := F47.binds (ps := ["_law_one", "_law_other"]) fun _ _ _ _ _ _ us hl => match us, hl with | [_, _], _ => rfl
  have g47 := PySem.W.mg_of X G a47
  have F48 := fun_mk (st := a__law_three_right) l48 c48 k48
  have b48 := F48.binds (ps := ["_law_plan", "_law_one", "_law_two", "_law_three", "_law_mid"]) fun _ _ _ _ _ _ us hl => match us, hl with | [_, _, _, _, _], _ => rfl
  have g48 := PySem.W.mg_of X G a48
  have F49 := fun_mk (st := a__law_right) l49 c49 k49
  have b49 := F49.binds (ps := ["_law_pot_here"]) fun _ _ _ _ _ _ us hl => match us, hl with | [_], _ => rfl
  have g49 := PySem.W.mg_of X G a49
  have F50 := fun_mk (st := a_law) l50 c50 k50
  have m1 := PySem.W.mg_none_of X G z1
  have m2 := PySem.W.mg_none_of X G z2
  have m3 := PySem.W.mg_none_of X G z3
  have m4 := PySem.W.mg_none_of X G z4
  have m5 := PySem.W.mg_none_of X G z5
  have m6 := PySem.W.mg_none_of X G z6
  have m7 := PySem.W.mg_none_of X G z7
  have m8 := PySem.W.mg_none_of X G z8
  have m9 := PySem.W.mg_none_of X G z9
  have m10 := PySem.W.mg_none_of X G z10
  have m11 := PySem.W.mg_none_of X G z11
  have m12 := PySem.W.mg_none_of X G z12
  have m13 := PySem.W.mg_none_of X G z13
  have m14 := PySem.W.mg_none_of X G z14
  have m15 := PySem.W.mg_none_of X G z15
  have m16 := PySem.W.mg_none_of X G z16
  have m17 := PySem.W.mg_none_of X G z17
  have TX : PlanTxt K mg C := ⟨⟨pg, hd, po, sa⟩, nTo, nRu, PySem.W.mg_of X G aC⟩
  have MK : Mk K C f0 := ⟨mk, aI, iI, kc⟩
  have FD : FunD K "__init__" "Plan.__init__" (defArgs kInit) (defBody kInit) (defScope kInit) [V.ref e0] [] f0 (PySem.W.fnOf "__init__" "Plan.__init__" (defArgs kInit) (defBody kInit) (defScope kInit) (.ref Td) kV0 dc0 pm0 an0 cd0 ct0) :=
    ⟨⟨oc0, od0, .ref Td, kV0, dc0, pm0, an0, cd0, ct0, sl0, rfl, lI, cI, .inr ⟨by simp, Td, _, [.ref e0], nT, rfl, lT, rfl, .cons rfl .nil⟩, .inl rfl⟩, kI⟩
  obtain ⟨ds, rds, bI⟩ := FD.binds1 (ps := ["self", "tops", "rules"]) 3 1 (by simp) rfl fun T kV doc pm an cdv ct us its h1 h2 => match us, its, h1, h2 with | [_, _, _], [_], _, _ => ⟨_, rfl, rfl⟩
  cases rds
  have hW : ∀ H, SqT K H wa [.str "from", .str "to"] := fun H => .inr ⟨_, _, _, v5, rfl, rfl, (show 2 ≤ sizeLine by decide), .cons ⟨_, rfl⟩ (.cons ⟨_, rfl⟩ .nil)⟩
  have gv1 := PySem.W.mg_of X G v1
  have gv2 := PySem.W.mg_of X G v2
  have gv3 := PySem.W.mg_of X G v3
  have gv4 := PySem.W.mg_of X G v4
  refine ⟨PySem.W.fnOf "law" "law" (defArgs a_law) (defBody a_law) (defScope a_law) .none kV50 dc50 pm50 an50 cd50 ct50, fun s v => .of_eq rfl, fun base _ _ => ?_⟩
  have Kwh := Kn.mk (x := "is_whole") (base := base) (w := w) (P := l.prog) (ok_whole (k := 0) F1 m7 m6 m4) g1 F1.kp b1
  have K_is_whole := Kwh
  have Kpl := Kn.mk (x := "is_place") (base := base) (w := w) (P := l.prog) (ok_place (k := 0) F2 Kwh) g2 F2.kp b2
  have K_is_place := Kpl
  have Kto := Kn.mk (x := "are_tops") (base := base) (w := w) (P := l.prog) (ok_tops (k := 0) F3 Kpl m7 m16 m8 m2 gv1 gv3) g3 F3.kp b3
  have K_are_tops := Kto
  have Ksi := Kn.mk (x := "is_side_of") (base := base) (w := w) (P := l.prog) (ok_side (k := 0) F4 Kpl m7 m16 m8 m15 gv4 hW) g4 F4.kp b4
  have K_is_side_of := Ksi
  have K_are_sides_of := Kn.mk (x := "are_sides_of") (base := base) (w := w) (P := l.prog) (ok_are_sides_of (k := 0) F5 K_is_side_of m2 m7 m16) g5 F5.kp b5
  have Kss := Kn.mk (x := "are_sides_of") (base := base) (w := w) (P := l.prog) (ok_sides (k := 0) F5 Ksi m7 m16 m2) g5 F5.kp b5
  have Kru := Kn.mk (x := "is_rule_of") (base := base) (w := w) (P := l.prog) (ok_rule (k := 0) F6 Kss m8) g6 F6.kp b6
  have K_is_rule_of := Kru
  have Krs := Kn.mk (x := "are_rules_of") (base := base) (w := w) (P := l.prog) (ok_rules (k := 0) F7 Kru m7 m16 m8 m2 gv2) g7 F7.kp b7
  have K_are_rules_of := Krs
  have K_span := Kn.mk (x := "span") (base := base) (w := w) (P := l.prog) (ok_span (k := 0) F8 TX) g8 F8.kp b8
  have K_other_side := Kn.mk (x := "other_side") (base := base) (w := w) (P := l.prog) (ok_other_side (k := 0) F9 K_span TX) g9 F9.kp b9
  have K_bars := Kn.mk (x := "bars") (base := base) (w := w) (P := l.prog) (ok_bars (k := 0) F10 K_span) g10 F10.kp b10
  have K_is_within := Kn.mk (x := "is_within") (base := base) (w := w) (P := l.prog) (ok_is_within (k := 0) F11 K_span) g11 F11.kp b11
  have K_led_by_rules := Kn.mk (x := "led_by_rules") (base := base) (w := w) (P := l.prog) (ok_led_by_rules (k := 0) F12 K_bars TX) g12 F12.kp b12
  have K_leads := Kn.mk (x := "leads") (base := base) (w := w) (P := l.prog) (ok_leads (k := 0) F13 K_is_within K_led_by_rules) g13 F13.kp b13
  have K_is_chain := Kn.mk (x := "is_chain") (base := base) (w := w) (P := l.prog) (ok_is_chain (k := 0) F14 K_are_sides_of K_leads TX m17 m2 m17) g14 F14.kp b14
  have K_reached := Kn.mk (x := "reached") (base := base) (w := w) (P := l.prog) (ok_reached (k := 0) F15 K_led_by_rules m8 m9) g15 F15.kp b15
  have K_chain_in := Kn.mk (x := "chain_in") (base := base) (w := w) (P := l.prog) (ok_chain_in (k := 0) F16 m16) g16 F16.kp b16
  have K_chain_to := Kn.mk (x := "chain_to") (base := base) (w := w) (P := l.prog) (ok_chain_to (k := 0) F17 K_reached K_is_within K_chain_in) g17 F17.kp b17
  have K_is_standing := Kn.mk (x := "is_standing") (base := base) (w := w) (P := l.prog) (ok_is_standing (k := 0) F18 K_is_place TX m17 m2 m7 m8 m16 m17) g18 F18.kp b18
  have Kin := Kn.mk (x := "is_in") (base := base) (w := w) (P := l.prog) (ok_in (k := 0) F19) g19 F19.kp b19
  have K_is_in := Kin
  have K_has := Kn.mk (x := "has") (base := base) (w := w) (P := l.prog) (ok_has (k := 0) F23 K_is_in m2) g23 F23.kp b23
  have K_follows := Kn.mk (x := "follows") (base := base) (w := w) (P := l.prog) (ok_follows (k := 0) F24 K_reached TX m17 m8 m9 m10 m11 m16) g24 F24.kp b24
  have K_barred_paper := Kn.mk (x := "barred_paper") (base := base) (w := w) (P := l.prog) (ok_barred_paper (k := 0) F25 K_reached K_bars K_chain_in m3) g25 F25.kp b25
  have K_rule_sides := Kn.mk (x := "rule_sides") (base := base) (w := w) (P := l.prog) (ok_rule_sides (k := 0) F26 K_other_side TX) g26 F26.kp b26
  have K_turning := Kn.mk (x := "turning") (base := base) (w := w) (P := l.prog) (ok_turning (k := 0) F27 K_chain_to K_other_side) g27 F27.kp b27
  have K_ring_paper := Kn.mk (x := "ring_paper") (base := base) (w := w) (P := l.prog) (ok_ring_paper (k := 0) F28 K_rule_sides K_turning K_other_side) g28 F28.kp b28
  have K_none_paper := Kn.mk (x := "none_paper") (base := base) (w := w) (P := l.prog) (ok_none_paper (k := 0) F29 K_barred_paper K_ring_paper) g29 F29.kp b29
  have K_pulled := Kn.mk (x := "pulled") (base := base) (w := w) (P := l.prog) (ok_pulled (k := 0) F30 K_follows m10 m11 m16 m17) g30 F30.kp b30
  have K_nearest := Kn.mk (x := "nearest") (base := base) (w := w) (P := l.prog) (ok_nearest (k := 0) F31 K_none_paper K_pulled) g31 F31.kp b31
  have K_come_to := Kn.mk (x := "come_to") (base := base) (w := w) (P := l.prog) (ok_come_to (k := 0) F32 ) g32 F32.kp b32
  have K_nearest_paper := Kn.mk (x := "nearest_paper") (base := base) (w := w) (P := l.prog) (ok_nearest_paper (k := 0) F33 K_nearest K_chain_to K_come_to m17 m5 m16) g33 F33.kp b33
  have K_is_pull := Kn.mk (x := "is_pull") (base := base) (w := w) (P := l.prog) (ok_is_pull (k := 0) F34 K_is_chain) g34 F34.kp b34
  have K_are_pulls := Kn.mk (x := "are_pulls") (base := base) (w := w) (P := l.prog) (ok_are_pulls (k := 0) F35 K_is_pull K_come_to m17 m5 m7 m8 m16) g35 F35.kp b35
  have Kke := Kn.mk (x := "is_kept") (base := base) (w := w) (P := l.prog) (ok_kept (k := 0) F20 Kin) g20 F20.kp b20
  have K_is_kept := Kke
  have Kbr := Kn.mk (x := "broken") (base := base) (w := w) (P := l.prog) (ok_broken (k := 0) F21 TX Kke m16 m5) g21 F21.kp b21
  have K_broken := Kbr
  have Kgo := Kn.mk (x := "is_good") (base := base) (w := w) (P := l.prog) (ok_good (k := 0) F22 Kbr) g22 F22.kp b22
  have K_is_good := Kgo
  have K_shows_nearest := Kn.mk (x := "shows_nearest") (base := base) (w := w) (P := l.prog) (ok_shows_nearest (k := 0) F36 K_is_standing K_is_good K_has K_are_pulls) g36 F36.kp b36
  have Ktake := Kn.mk (x := "_law_take") (base := base) (w := w) (P := l.prog) (ok_take (k := 0) F40) g40 F40.kp b40
  have K__law_take := Ktake
  have K__law_shared := Kn.mk (x := "_law_shared") (base := base) (w := w) (P := l.prog) (ok__law_shared (k := 0) F44 K__law_take m8 m14) g44 F44.kp b44
  have K__law_of_three := Kn.mk (x := "_law_of_three") (base := base) (w := w) (P := l.prog) (ok__law_of_three (k := 0) F45 K__law_take K__law_shared m12 m16) g45 F45.kp b45
  have K__law_middle := Kn.mk (x := "_law_middle") (base := base) (w := w) (P := l.prog) (ok__law_middle (k := 0) F46 m14 m16 m17) g46 F46.kp b46
  have K__law_alike := Kn.mk (x := "_law_alike") (base := base) (w := w) (P := l.prog) (ok__law_alike (k := 0) F47 m17 m5 m10 m11 m16) g47 F47.kp b47
  have Kbe := Kn.mk (x := "is_between") (base := base) (w := w) (P := l.prog) (ok_bet (k := 0) F38 m17 m11 m10 m2) g38 F38.kp b38
  have K_is_between := Kbe
  have K__law_three_right := ok__law_three_right F48 K__law_alike K_nearest K_nearest_paper K_shows_nearest K_is_between m13
  have Kof := Kn.mk (x := "_law_of") (base := base) (w := w) (P := l.prog) (ok_of (k := 0) F41 Ktake m8) g41 F41.kp b41
  have K__law_of := Kof
  have Kgt := Kn.mk (x := "_law_great_tops") (base := base) (w := w) (P := l.prog) (ok_gtops (k := 0) F43 Ktake Kof m12 m16) g43 F43.kp b43
  have K__law_great_tops := Kgt
  have Kst := Kn.mk (x := "_law_standing") (base := base) (w := w) (P := l.prog) (ok_stand (k := 0) F42 Ktake m16) g42 F42.kp b42
  have K__law_standing := Kst
  have Kmi := Kn.mk (x := "middle") (base := base) (w := w) (P := l.prog) (ok_middle (k := 0) F37 m17 m14 m16) g37 F37.kp b37
  have K_middle := Kmi
  have GI := ok_init (P := l.prog) (w := w) (base := base) (k := 0) FD TX Kto Krs
  have K__law_right := ok__law_right F49 K__law_great_tops K__law_standing K__law_take K__law_of_three K__law_of K__law_middle K_middle K_is_good K__law_three_right g48 F48.kp b48 TX MK GI bI m12 m13
  have Kpot := Kn.mk (x := "_law_pot") (base := base) (w := w) (P := l.prog) (ok_pot (k := 0) F39 m8 m1 m6) g39 F39.kp b39
  have K__law_pot := Kpot
  exact ok_law F50 K__law_pot K__law_right g49 F49.kp b49 m2 m8 m10 m11 m12
end K18
open PySem PySem.W PyProof.Rows
set_option maxHeartbeats 0 in
theorem PySem.Challenge.cw_notbothout_k18_whole_middles_are_the_nea_holds : PySem.Challenge.rw_notbothout_k18_whole_middles_are_the_nea.Holds := by
  w_on; o_law; k_head; (case hw => w_witness2)
  k_fill
  refine NB.walkG (l := PySem.Challenge.rw_notbothout_k18_whole_middles_are_the_nea) (n := 63) (k := 13) (x := "_law_script") (sp := fun w => K18.spLaw _) rfl (by decide) rfl ⟨rfl, by decide, by decide⟩ (fun w h Y => PySem.W.kIn_of Y) ?F (fun _ _ a ns hl hS => ⟨a, ns, rfl, hS, hl, fun _ => rfl⟩)
  case F =>
    intro w mg fa h KX G hmg
    refine' K18.all_mk KX G hmg ?a1 ?l1 ?c1 ?k1 ?a2 ?l2 ?c2 ?k2 ?a3 ?l3 ?c3 ?k3 ?a4 ?l4 ?c4 ?k4 ?a5 ?l5 ?c5 ?k5 ?a6 ?l6 ?c6 ?k6 ?a7 ?l7 ?c7 ?k7 ?a8 ?l8 ?c8 ?k8 ?a9 ?l9 ?c9 ?k9 ?a10 ?l10 ?c10 ?k10 ?a11 ?l11 ?c11 ?k11 ?a12 ?l12 ?c12 ?k12 ?a13 ?l13 ?c13 ?k13 ?a14 ?l14 ?c14 ?k14 ?a15 ?l15 ?c15 ?k15 ?a16 ?l16 ?c16 ?k16 ?a17 ?l17 ?c17 ?k17 ?a18 ?l18 ?c18 ?k18 ?a19 ?l19 ?c19 ?k19 ?a20 ?l20 ?c20 ?k20 ?a21 ?l21 ?c21 ?k21 ?a22 ?l22 ?c22 ?k22 ?a23 ?l23 ?c23 ?k23 ?a24 ?l24 ?c24 ?k24 ?a25 ?l25 ?c25 ?k25 ?a26 ?l26 ?c26 ?k26 ?a27 ?l27 ?c27 ?k27 ?a28 ?l28 ?c28 ?k28 ?a29 ?l29 ?c29 ?k29 ?a30 ?l30 ?c30 ?k30 ?a31 ?l31 ?c31 ?k31 ?a32 ?l32 ?c32 ?k32 ?a33 ?l33 ?c33 ?k33 ?a34 ?l34 ?c34 ?k34 ?a35 ?l35 ?c35 ?k35 ?a36 ?l36 ?c36 ?k36 ?a37 ?l37 ?c37 ?k37 ?a38 ?l38 ?c38 ?k38 ?a39 ?l39 ?c39 ?k39 ?a40 ?l40 ?c40 ?k40 ?a41 ?l41 ?c41 ?k41 ?a42 ?l42 ?c42 ?k42 ?a43 ?l43 ?c43 ?k43 ?a44 ?l44 ?c44 ?k44 ?a45 ?l45 ?c45 ?k45 ?a46 ?l46 ?c46 ?k46 ?a47 ?l47 ?c47 ?k47 ?a48 ?l48 ?c48 ?k48 ?a49 ?l49 ?c49 ?k49 ?a50 ?l50 ?c50 ?k50 ?aC ?aI ?iI ?lI ?cI ?kI ?lT ?pg ?hd ?po ?sa ?mk ?kc ?nTo ?nRu ?v1 ?v2 ?v3 ?v4 ?v5 ?z1 ?z2 ?z3 ?z4 ?z5 ?z6 ?z7 ?z8 ?z9 ?z10 ?z11 ?z12 ?z13 ?z14 ?z15 ?z16 ?z17
    (case a1 => k_is)
    (case l1 => k_is)
    (case c1 => k_is)
    (case k1 => k_is)
    (case a2 => k_is)
    (case l2 => k_is)
    (case c2 => k_is)
    (case k2 => k_is)
    (case a3 => k_is)
    (case l3 => k_is)
    (case c3 => k_is)
    (case k3 => k_is)
    (case a4 => k_is)
    (case l4 => k_is)
    (case c4 => k_is)
    (case k4 => k_is)
    (case a5 => k_is)
    (case l5 => k_is)
    (case c5 => k_is)
    (case k5 => k_is)
    (case a6 => k_is)
    (case l6 => k_is)
    (case c6 => k_is)
    (case k6 => k_is)
    (case a7 => k_is)
    (case l7 => k_is)
    (case c7 => k_is)
    (case k7 => k_is)
    (case a8 => k_is)
    (case l8 => k_is)
    (case c8 => k_is)
    (case k8 => k_is)
    (case a9 => k_is)
    (case l9 => k_is)
    (case c9 => k_is)
    (case k9 => k_is)
    (case a10 => k_is)
    (case l10 => k_is)
    (case c10 => k_is)
    (case k10 => k_is)
    (case a11 => k_is)
    (case l11 => k_is)
    (case c11 => k_is)
    (case k11 => k_is)
    (case a12 => k_is)
    (case l12 => k_is)
    (case c12 => k_is)
    (case k12 => k_is)
    (case a13 => k_is)
    (case l13 => k_is)
    (case c13 => k_is)
    (case k13 => k_is)
    (case a14 => k_is)
    (case l14 => k_is)
    (case c14 => k_is)
    (case k14 => k_is)
    (case a15 => k_is)
    (case l15 => k_is)
    (case c15 => k_is)
    (case k15 => k_is)
    (case a16 => k_is)
    (case l16 => k_is)
    (case c16 => k_is)
    (case k16 => k_is)
    (case a17 => k_is)
    (case l17 => k_is)
    (case c17 => k_is)
    (case k17 => k_is)
    (case a18 => k_is)
    (case l18 => k_is)
    (case c18 => k_is)
    (case k18 => k_is)
    (case a19 => k_is)
    (case l19 => k_is)
    (case c19 => k_is)
    (case k19 => k_is)
    (case a20 => k_is)
    (case l20 => k_is)
    (case c20 => k_is)
    (case k20 => k_is)
    (case a21 => k_is)
    (case l21 => k_is)
    (case c21 => k_is)
    (case k21 => k_is)
    (case a22 => k_is)
    (case l22 => k_is)
    (case c22 => k_is)
    (case k22 => k_is)
    (case a23 => k_is)
    (case l23 => k_is)
    (case c23 => k_is)
    (case k23 => k_is)
    (case a24 => k_is)
    (case l24 => k_is)
    (case c24 => k_is)
    (case k24 => k_is)
    (case a25 => k_is)
    (case l25 => k_is)
    (case c25 => k_is)
    (case k25 => k_is)
    (case a26 => k_is)
    (case l26 => k_is)
    (case c26 => k_is)
    (case k26 => k_is)
    (case a27 => k_is)
    (case l27 => k_is)
    (case c27 => k_is)
    (case k27 => k_is)
    (case a28 => k_is)
    (case l28 => k_is)
    (case c28 => k_is)
    (case k28 => k_is)
    (case a29 => k_is)
    (case l29 => k_is)
    (case c29 => k_is)
    (case k29 => k_is)
    (case a30 => k_is)
    (case l30 => k_is)
    (case c30 => k_is)
    (case k30 => k_is)
    (case a31 => k_is)
    (case l31 => k_is)
    (case c31 => k_is)
    (case k31 => k_is)
    (case a32 => k_is)
    (case l32 => k_is)
    (case c32 => k_is)
    (case k32 => k_is)
    (case a33 => k_is)
    (case l33 => k_is)
    (case c33 => k_is)
    (case k33 => k_is)
    (case a34 => k_is)
    (case l34 => k_is)
    (case c34 => k_is)
    (case k34 => k_is)
    (case a35 => k_is)
    (case l35 => k_is)
    (case c35 => k_is)
    (case k35 => k_is)
    (case a36 => k_is)
    (case l36 => k_is)
    (case c36 => k_is)
    (case k36 => k_is)
    (case a37 => k_is)
    (case l37 => k_is)
    (case c37 => k_is)
    (case k37 => k_is)
    (case a38 => k_is)
    (case l38 => k_is)
    (case c38 => k_is)
    (case k38 => k_is)
    (case a39 => k_is)
    (case l39 => k_is)
    (case c39 => k_is)
    (case k39 => k_is)
    (case a40 => k_is)
    (case l40 => k_is)
    (case c40 => k_is)
    (case k40 => k_is)
    (case a41 => k_is)
    (case l41 => k_is)
    (case c41 => k_is)
    (case k41 => k_is)
    (case a42 => k_is)
    (case l42 => k_is)
    (case c42 => k_is)
    (case k42 => k_is)
    (case a43 => k_is)
    (case l43 => k_is)
    (case c43 => k_is)
    (case k43 => k_is)
    (case a44 => k_is)
    (case l44 => k_is)
    (case c44 => k_is)
    (case k44 => k_is)
    (case a45 => k_is)
    (case l45 => k_is)
    (case c45 => k_is)
    (case k45 => k_is)
    (case a46 => k_is)
    (case l46 => k_is)
    (case c46 => k_is)
    (case k46 => k_is)
    (case a47 => k_is)
    (case l47 => k_is)
    (case c47 => k_is)
    (case k47 => k_is)
    (case a48 => k_is)
    (case l48 => k_is)
    (case c48 => k_is)
    (case k48 => k_is)
    (case a49 => k_is)
    (case l49 => k_is)
    (case c49 => k_is)
    (case k49 => k_is)
    (case a50 => k_is)
    (case l50 => k_is)
    (case c50 => k_is)
    (case k50 => k_is)
    (case aC => k_is)
    (case aI => k_is)
    (case iI => k_is)
    (case lI => k_is)
    (case cI => k_is)
    (case kI => k_is)
    (case lT => k_is)
    (case pg => k_is)
    (case hd => k_is)
    (case po => k_is)
    (case sa => k_is)
    (case mk => k_is)
    (case kc => k_is)
    (case nTo => k_is)
    (case nRu => k_is)
    (case v1 => k_is)
    (case v2 => k_is)
    (case v3 => k_is)
    (case v4 => k_is)
    (case v5 => k_is)
    (case z1 => k_is)
    (case z2 => k_is)
    (case z3 => k_is)
    (case z4 => k_is)
    (case z5 => k_is)
    (case z6 => k_is)
    (case z7 => k_is)
    (case z8 => k_is)
    (case z9 => k_is)
    (case z10 => k_is)
    (case z11 => k_is)
    (case z12 => k_is)
    (case z13 => k_is)
    (case z14 => k_is)
    (case z15 => k_is)
    (case z16 => k_is)
    (case z17 => k_is)
