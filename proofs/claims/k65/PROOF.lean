import PyProof.Rows.All
import Wide.All
import OpenK.AllK
import Wide.FinOn
import HandS.Base
import HandS.Call
import HandS.List
import HandS.Comp
import HandS.Ends
import HandS.Dict
import HandS.Iter
import HandS.Text
import HandS.Words
import HandS.WordsList
import HandS.WordsDict
import HandS.Wide
import HandS.Zip
import HandS.Flow
import HandS.Flt
import KE.GoesMore
import KE.KDictZip
import PyProof.ReprRoads
import HandS.Walk
import PyProof.TupleOfSeq
import KE.GoesEnum
import HandS.Style
import PyProof.ReprLen
import HandS.IsInst
import HandS.TupAny
import PyProof.EqAt
import PyProof.NeKinds
import HandS.Codes
import HandS.Defaults
import HandS.TupMul
import HandS.Small
import HandS.More
import HandS.DictComp
import HandS.TupSets
import HandS.Strs
import HandS.SortOrd
import HandS.SortRule
import HandS.Deep
import KE.KDictPairs
import PyProof.Rows.TupDisplay
import KE.KeyNested
import KE.KDictCopyH
import PySem.Challenge.RW_notbothout_k65_whole_letters_twice_and_i
set_option Elab.async false
set_option linter.all false
set_option maxRecDepth 100000
/-! Defs whose callers are known to show nothing (guards empty): what repr wants. -/
namespace NB
open PySem PySem.Spec PyProof.Rows L2

/-- a def's promise, wherever nothing is being shown around it -/
structure FnG (P : Program) (w : World) (K : PySem.W.Frag) (mg : Str → Option Value) (base : Heap) (k : Nat) (f : Addr) (fd : FuncData) (ps : List Str) (sp : Sp) : Prop where
  len : ∀ vs H Q E, sp vs H Q E → vs.length = ps.length
  go : ∀ (A : Around) (out : List Env) (s : Shared) (H : Hp) (ar : Args) (us : List Value) (vs : List V) (Q : VK) (E : XK),
    A.guards = some [] → Room k A → Env0 P w K mg base A out s H → BindsTo s fd ar (ps.zip us) → Vals vs us → sp vs H Q E →
    codeAny (model P w) A (.call (.ref f) ar) (CR CX0 out P w H s Q E) s

section
variable {P : Program} {w : World} {K : PySem.W.Frag} {mg : Str → Option Value} {base : Heap}

theorem FnG.of {k : Nat} {f : Addr} {fd : FuncData} {ps : List Str} {sp : Sp} (F : FnOk P w K mg base CX0 k f fd ps sp) : FnG P w K mg base k f fd ps sp :=
  ⟨F.len, fun A out s H ar us vs Q E _ => F.run A out s H ar us vs Q E⟩

theorem fnG {x qual : Str} {st : Stmt} {f : Addr} {fd : FuncData} {N ps : List Str} {k : Nat} {sp : Sp} (F : Fun K x qual st f fd)
    (S : FnScope N ps (defScope st)) (len : ∀ vs H Q E, sp vs H Q E → vs.length = ps.length)
    (body : ∀ (c : Value) (A : Around) (out : List Env) (s : Shared) (H : Hp) (vs : List V) (Q : VK) (E : XK),
      A.guards = some [] → Room k (A.deeper (envOfC qual (defScope st) s.heap.objs.size f c)) → sp vs H Q E →
      ∃ t, PSs (cxOf CX0 P w K mg base N qual (defScope st) f c A out s H E).nox (defBody st) t ∧
        t { nx := fun _ H' => Q .non H', rt := Q } (start N vs) H) :
    FnG P w K mg base (k + 1) f fd ps sp := by
  obtain ⟨oc, od, kV, doc, pm, an, c, ct, osl, rfl, lk, hc⟩ := F.ex
  refine ⟨len, fun A out s H ar us vs Q E hg hr e hb r h => ?_⟩
  have stays : ∀ b o, base.get? b = some o → s.heap.get? b = some o := fun b o q => (e.bs b o q).1
  have inH : K.In s.heap := e.mod.kin.keeps stays
  have noLim : s.heap.NoLimit := e.mod.nolimit.keeps stays
  have kinds : ∀ y ∈ ps.zip us, (defScope st).names.lookup y.1 = some .local ∨
      ((defScope st).names.lookup y.1 = some .cell ∧ ((cellsFrom (s.heap.objs.size + 1) (defScope st).names []).lookup y.1).isSome = true) := by
    intro y hy
    obtain ⟨n, v⟩ := y
    cases S.par n (List.of_mem_zip hy).1 with
    | inl q => exact .inl q
    | inr q => exact .inr ⟨q, PySem.W.cellsFrom_some _ _ _ (.inl q)⟩
  refine codeAny_call_function hr.depth (inH _ _ lk) rfl S.co S.gen rfl (PySem.W.codeRec_of inH hc) (hb _ _ _ _ ?_)
  refine wpAny_newFunctionEnv_cells S.kind kinds ?_
  rintro env rfl s1 x
  refine ⟨noLim.keeps x.toInCall.keep, codeAny_func ?_⟩
  obtain ⟨t, ht, hq⟩ := body c A out s H vs Q E hg (hr.deeper _) h
  have I := inv_start (CX := CX0) (E := E) S hr.hd e (len _ _ _ _ h) r x
  refine wpAny_mono (ht.nox.run [] s1 (start N vs) H _ I hq) ?_ fun _ _ z => z
  intro fl s' z
  cases fl with
  | ret u =>
    obtain ⟨v, σ', H', J, rv, q⟩ := z
    exact ⟨v, H', J.os, J.bare, J.base, J.hok, rv, q⟩
  | next =>
    obtain ⟨σ', H', J, q⟩ := z
    exact ⟨V.non, H', J.os, J.bare, J.base, J.hok, rfl, q⟩
  | brk => exact False.elim z.choose_spec.choose_spec.2
  | cont => exact False.elim z.choose_spec.choose_spec.2
end

section
variable {X : Cx} {k : Nat} {f : Addr} {fd : FuncData} {ps : List Str} {sp : Sp} {x : Str} {p pos : Pos} {e : Expr} {es : List Expr} {t : TA}
/-- f(..) of such a def, all arguments written -/
theorem pe_callG (hG : X.A.guards = some []) (F : FnG X.prog X.w X.K X.mg X.base k f fd ps sp) (hr : Room k X.A) (hg : Gl X x) (hm : X.mg x = some (.ref f))
    (hk : PySem.W.keepIn X.K (.ref f) = true) (hb : Binds X.K fd ps []) (ha : PA X (e :: es) t) (hdb : (x == ("__debug__" : Str)) = false := by decide)
    (he : starEach (e :: es) X.env = (false, eval e X.env) :: starEach es X.env := by rfl) (hpl : (backTo pos (starEach es X.env)).any (·.1) = false := by rfl) :
    PE X (.Call (.Name x p) (e :: es) [] pos) (tCall sp [] E0 t) := by
  refine ⟨fun pins s σ H Q I h => wpAny_Call_Name_kw (ld_glob I hg hm ?_ hdb)⟩
  refine PySem.W.callWith_K (h₀ := X.base) I.ok.mod.kin hk (thn (ha.run pos pins s σ H _ I h) ?_) he hpl
  rintro us s1 ⟨vs, H1, I1, r, q⟩
  refine ⟨I1.kIn, wpAny_call ?_⟩
  have q2 : sp vs H1 Q E0 := by
    have q' : sp (vs ++ []) H1 Q E0 := q
    rwa [List.append_nil] at q'
  have ln : us.length = ps.length := r.length.symm.trans (F.len _ _ _ _ q2)
  have bnd : BindsTo s1 fd ⟨us, []⟩ (ps.zip us) := by
    have b := hb s1 us I1.kIn (by rw [List.append_nil]; exact ln)
    rwa [List.append_nil] at b
  refine codeAny_mono (F.go X.A X.stack s1 H1 ⟨us, []⟩ us vs Q E0 hG hr I1.env0 bnd r q2) ?_
  intro rs s' z
  cases rs with
  | error e => exact False.elim z
  | ok fl =>
    cases fl with
    | ret u => exact I1.after z
    | next => exact False.elim z
    | brk => exact False.elim z
    | cont => exact False.elim z
end

section
variable {X : Cx}
/-- what repr asks of data -/
structure Showable (d : PyData) : Prop where
  sh : d.showable = true
  nd : d.hasDict = false
  dp : d.depth ≤ 60
  sz : d.shown.length ≤ sizeLine
/-- repr(x), x a list or a tuple of data -/
theorem call_reprD (hG : X.A.guards = some []) (hu : X.A.units + 64 < cLine) : CallR X (.builtin "repr") (fun xs H Q => ∃ a d, xs = [.ref a] ∧ Dp X.K H (.ref a) d ∧ Showable d ∧ Q (.str d.shown) H) := by
  intro pins s σ H xs us Q I r h
  obtain ⟨a, d, rfl, hd, S, q⟩ := h
  obtain ⟨u, rfl, ru⟩ := vals1 r
  obtain ⟨as, rd⟩ := Dp.reads I d _ u hd ru
  cases ru
  have hn := S.dp
  exact repr_of_reads' rd S.sh (PyData.noDict_hsm S.nd) hG (by omega) (fun _ _ z => z) (fun h' u tk hk => ⟨.str _, H, I.kept hk, ⟨_, rfl⟩, q⟩) S.sz
end
end NB

set_option Elab.async false
set_option linter.all false
set_option maxRecDepth 100000
set_option maxHeartbeats 1000000
/-! zip of three tuples of one length, its turns given to one name or to three. -/
namespace NB
open PySem PySem.Spec PyProof.Rows L2
open PySem.Sem (wp)

/-- a zip as it stands between two turns: a is None or the tuple given out last -/
abbrev Zat (h : Heap) (z ti to : Addr) (a b : Value) : Prop :=
  h.get? z = some { cls := .type "zip", dict := none, data := .fields #[a, b, .bool false, .ref ti, .ref to], slots := #[] }
def Out (a : Value) : Prop := a = .none ∨ ∃ T : Addr, a = rawInt T

section
variable {prog : Program} {w : World} {A : Around} {E : Value → Shared → Prop} {s : Shared} {z ti to i1 i2 i3 l1 l2 l3 : Addr} {a a1 a2 a3 : Value} {f : Bool} {xs ys zs : Array Value} {i : Nat}

theorem freeOr {Q : Bool → Shared → Prop} (ho : Out a) (hz : Zat s.heap z ti to a (.bool f))
    (h : ∀ (b : Bool) (h' : Heap) (g : Bool), Zat h' z ti to a (.bool g) → Heap.SameBut z s.heap h' → Q b { s with heap := h' }) :
    wpAny (model prog w) A (Builtin.SmallTypes.ownedTupleIsFree (.ref z)) Q E s := by
  unfold Builtin.SmallTypes.ownedTupleIsFree
  refine wpAny_bind (wpAny_field hz rfl (x := a) rfl ?_)
  rcases ho with e | ⟨T, e⟩
  · subst e
    exact wpAny_pure (h true s.heap f hz (Heap.SameBut.refl _ _))
  · subst e
    show wpAny _ _ (loadIfAlive ((T : Int).toNat) >>= _) _ _ _
    rw [Int.toNat_natCast]
    refine wpAny_bind ?_
    cases e : s.heap.get? T with
    | none =>
      have key : wpAny (model prog w) A (loadIfAlive T) (fun r s' => r = none ∧ s' = s) E s := fun _ _ _ => ⟨e, rfl⟩
      refine thn key fun r s' q => ?_
      obtain ⟨rfl, rfl⟩ := q
      exact wpAny_pure (h true _ f hz (Heap.SameBut.refl _ _))
    | some o =>
      refine PySem.W.kdx_alive e ?_
      simp only [Option.isNone_some, Bool.false_eq_true, if_false]
      refine wpAny_bind (wpAny_field hz rfl (x := .bool f) rfl ?_)
      cases f with
      | true =>
        rw [if_neg (show ¬ ((Value.bool true != Value.bool true) = true) by decide)]
        exact wpAny_pure (h false s.heap true hz (Heap.SameBut.refl _ _))
      | false =>
        rw [if_pos (show (Value.bool false != Value.bool true) = true by decide)]
        exact wpAny_bind (wpAny_setField_rec hz (by simp) fun h1 z1 s1 => wpAny_pure (h false h1 true z1 s1))

/-- the three iterators over their tuples at turn i, apart from the zip's own cells -/
abbrev St3 (h : Heap) (i1 i2 i3 l1 l2 l3 : Addr) (xs ys zs : Array Value) (i : Nat) : Prop :=
  (h.IsTupleIter i1 l1 i ∧ h.IsTuple l1 xs) ∧ (h.IsTupleIter i2 l2 i ∧ h.IsTuple l2 ys) ∧ (h.IsTupleIter i3 l3 i ∧ h.IsTuple l3 zs)

theorem keepIt {h h' : Heap} {it l : Addr} {k : Nat} {vs : Array Value} (st : h.IsTupleIter it l k ∧ h.IsTuple l vs) {x : Addr} (hs : Heap.SameBut x h h') (n1 : it ≠ x) (n2 : l ≠ x) : h'.IsTupleIter it l k ∧ h'.IsTuple l vs :=
  ⟨st.1.extBut hs.extBut n1, st.2.extBut hs.extBut n2⟩

structure Far3 (z ti to i1 i2 i3 l1 l2 l3 : Addr) : Prop where
  tiz : ti ≠ z
  toz : to ≠ z
  tito : ti ≠ to
  ti1 : ti ≠ i1
  ti2 : ti ≠ i2
  ti3 : ti ≠ i3
  to1 : to ≠ i1
  to2 : to ≠ i2
  to3 : to ≠ i3
  z1 : i1 ≠ z
  z2 : i2 ≠ z
  z3 : i3 ≠ z
  n12 : i1 ≠ i2
  n13 : i1 ≠ i3
  n23 : i2 ≠ i3
  l1n : l1 ≠ z ∧ l1 ≠ to ∧ l1 ≠ i1 ∧ l1 ≠ i2 ∧ l1 ≠ i3
  l2n : l2 ≠ z ∧ l2 ≠ to ∧ l2 ≠ i1 ∧ l2 ≠ i2 ∧ l2 ≠ i3
  l3n : l3 ≠ z ∧ l3 ≠ to ∧ l3 ≠ i1 ∧ l3 ≠ i2 ∧ l3 ≠ i3

theorem drawT {it l : Addr} {k : Nat} {vs : Array Value} {x : Value} {Q : Value → Shared → Prop} (st : s.heap.IsTupleIter it l k ∧ s.heap.IsTuple l vs) (ne : l ≠ it) (hx : vs[k]? = some x)
    (h : ∀ h', (h'.IsTupleIter it l (k + 1) ∧ h'.IsTuple l vs) → Heap.SameBut it s.heap h' → Q x { s with heap := h' }) :
    wpAny (model prog w) A (Builtin.SmallTypes.nextOf (.ref it)) Q E s :=
  RZ.nextOf_tuple_item st.1 st.2 hx fun h' q1 q2 => h h' ⟨q1, st.2.extBut q2.extBut ne⟩ q2

theorem next3 {x1 x2 x3 : Value} {Q : Value → Shared → Prop} (D : Far3 z ti to i1 i2 i3 l1 l2 l3) (ho : Out a) (hz : Zat s.heap z ti to a (.bool f))
    (hI : IsTupOf3 s.heap ti (.ref i1) (.ref i2) (.ref i3)) (hO : IsTupOf3 s.heap to a1 a2 a3) (st : St3 s.heap i1 i2 i3 l1 l2 l3 xs ys zs i)
    (hx : xs[i]? = some x1) (hy : ys[i]? = some x2) (hw : zs[i]? = some x3)
    (hQ : ∀ (h' : Heap) (a' : Value) (g : Bool) (b1 b2 b3 : Value), Out a' → Zat h' z ti to a' (.bool g) → IsTupOf3 h' to b1 b2 b3 → St3 h' i1 i2 i3 l1 l2 l3 xs ys zs (i + 1) → IsTupOf3 h' s.heap.objs.size x1 x2 x3 → h'.objs.size = s.heap.objs.size + 1 →
      (∀ c o, c ≠ z → c ≠ to → c ≠ i1 → c ≠ i2 → c ≠ i3 → s.heap.get? c = some o → h'.get? c = some o) → Q (.ref s.heap.objs.size) { s with heap := h' }) :
    wpAny (model prog w) A (Builtin.«zip.__next__» ⟨[.ref z], []⟩) (fun fin s' => ∃ v, fin = .done (.ret v) ∧ Q v s') E s := by
  obtain ⟨hp, gg, dd, tk, os⟩ := s
  show wpAny _ _ (field (.ref z) 2 >>= _) _ _ _
  refine wpAny_bind (wpAny_field hz rfl (x := .bool false) rfl ?_)
  show wpAny _ _ (field (.ref z) 3 >>= _) _ _ _
  refine wpAny_bind (wpAny_field hz rfl (x := .ref ti) rfl ?_)
  refine wpAny_bind (wpAny_seqItems hI rfl ?_)
  show wpAny _ _ (Builtin.SmallTypes.ownedTupleIsFree (.ref z) >>= _) _ _ _
  refine wpAny_bind (freeOr ho hz fun b h1 f1 hz1 hs1 => ?_)
  replace hs1 : Heap.SameBut z hp h1 := hs1
  obtain ⟨sa, sb, sc⟩ := st
  have sa1 := keepIt sa hs1 D.z1 D.l1n.1
  have sb1 := keepIt sb hs1 D.z2 D.l2n.1
  have sc1 := keepIt sc hs1 D.z3 D.l3n.1
  have hO1 : IsTupOf3 h1 to a1 a2 a3 := hs1.extBut _ _ D.toz hO
  cases b with
  | false =>
    simp only [Bool.false_eq_true, if_false]
    refine wpAny_bind ?_
    rw [← Array.forIn_toList]
    simp only [List.forIn_cons, List.forIn_nil]
    refine wpAny_bind (wpAny_bind (wpAny_holding ?_))
    show wpAny _ _ (Builtin.SmallTypes.nextOf (.ref i1) >>= _) _ _ ⟨h1, gg, dd, tk, os⟩
    refine wpAny_bind (drawT (s := ⟨h1, gg, dd, tk, os⟩) sa1 D.l1n.2.2.1 hx fun h2 sa2 hs2 => wpAny_pure (wpAny_pure ?_))
    replace hs2 : Heap.SameBut i1 h1 h2 := hs2
    have sb2 := keepIt sb1 hs2 D.n12.symm D.l2n.2.2.1
    have sc2 := keepIt sc1 hs2 D.n13.symm D.l3n.2.2.1
    refine wpAny_bind (wpAny_bind (wpAny_holding ?_))
    show wpAny _ _ (Builtin.SmallTypes.nextOf (.ref i2) >>= _) _ _ ⟨h2, gg, dd, tk, os⟩
    refine wpAny_bind (drawT (s := ⟨h2, gg, dd, tk, os⟩) sb2 D.l2n.2.2.2.1 hy fun h3 sb3 hs3 => wpAny_pure (wpAny_pure ?_))
    replace hs3 : Heap.SameBut i2 h2 h3 := hs3
    have sa3 := keepIt sa2 hs3 D.n12 D.l1n.2.2.2.1
    have sc3 := keepIt sc2 hs3 D.n23.symm D.l3n.2.2.2.1
    refine wpAny_bind (wpAny_bind (wpAny_holding ?_))
    show wpAny _ _ (Builtin.SmallTypes.nextOf (.ref i3) >>= _) _ _ ⟨h3, gg, dd, tk, os⟩
    refine wpAny_bind (drawT (s := ⟨h3, gg, dd, tk, os⟩) sc3 D.l3n.2.2.2.2 hw fun h4 sc4 hs4 => wpAny_pure (wpAny_pure (wpAny_pure ?_)))
    replace hs4 : Heap.SameBut i3 h3 h4 := hs4
    have sa4 := keepIt sa3 hs4 D.n13 D.l1n.2.2.2.2
    have sb4 := keepIt sb3 hs4 D.n23 D.l2n.2.2.2.2
    show wpAny _ _ (newTuple [x1, x2, x3] >>= _) _ _ ⟨h4, gg, dd, tk, os⟩
    refine wpAny_bind (wpAny_newTuple (wpAny_pure ⟨_, rfl, ?_⟩))
    have sz : h4.objs.size = hp.objs.size := by rw [hs4.1, hs3.1, hs2.1, hs1.1]
    have kk : ∀ c o, c ≠ z → c ≠ i1 → c ≠ i2 → c ≠ i3 → hp.get? c = some o → h4.get? c = some o := fun c o c0 c1 c2 c3 e =>
      hs4.extBut _ _ c3 (hs3.extBut _ _ c2 (hs2.extBut _ _ c1 (hs1.extBut _ _ c0 e)))
    have hz4 : Zat h4 z ti to a (.bool f1) := hs4.extBut _ _ D.z3.symm (hs3.extBut _ _ D.z2.symm (hs2.extBut _ _ D.z1.symm hz1))
    have hO4 : IsTupOf3 h4 to a1 a2 a3 := kk _ _ D.toz D.to1 D.to2 D.to3 hO
    have up : ∀ c o, h4.get? c = some o → (h4.push { cls := .type "tuple", data := .seq #[x1, x2, x3] }).get? c = some o := fun c o e => Heap.get?_push_of_some _ e
    have nw : IsTupOf3 (h4.push { cls := .type "tuple", data := .seq #[x1, x2, x3] }) h4.objs.size x1 x2 x3 := Heap.get?_push_size _ rfl
    have zw : (h4.push { cls := .type "tuple", data := .seq #[x1, x2, x3] }).objs.size = h4.objs.size + 1 := Heap.size_push ..
    show Q (.ref h4.objs.size) _
    rw [sz] at nw zw ⊢
    exact hQ _ a f1 a1 a2 a3 ho (up _ _ hz4) (up _ _ hO4)
      ⟨⟨sa4.1.at fun o e => up _ o e, sa4.2.push _⟩, ⟨sb4.1.at fun o e => up _ o e, sb4.2.push _⟩, ⟨sc4.1.at fun o e => up _ o e, sc4.2.push _⟩⟩ nw zw
      fun c o c0 _ c1 c2 c3 e => up c o (kk c o c0 c1 c2 c3 e)
  | true =>
    simp only [if_true]
    refine wpAny_bind (wpAny_rule ?_)
    refine wpAny_bind (wpAny_field (s := ⟨h1, gg, dd, tk, os⟩) hz1 rfl (x := .ref to) rfl ?_)
    refine wpAny_bind (wpAny_setField_rec (s := ⟨h1, gg, dd, tk, os⟩) hz1 (by simp) fun g0 z0 s0 => ?_)
    replace z0 : Zat g0 z ti to .ellipsis (.bool f1) := z0
    replace s0 : Heap.SameBut z h1 g0 := s0
    have ta0 := keepIt sa1 s0 D.z1 D.l1n.1
    have tb0 := keepIt sb1 s0 D.z2 D.l2n.1
    have tc0 := keepIt sc1 s0 D.z3 D.l3n.1
    have o0 : IsTupOf3 g0 to a1 a2 a3 := s0.extBut _ _ D.toz hO1
    refine wpAny_bind ?_
    simp only [List.zipIdx_cons, List.zipIdx_nil, List.forIn_cons, List.forIn_nil]
    refine wpAny_bind (wpAny_bind (wpAny_onRaise ?_))
    show wpAny _ _ (Builtin.SmallTypes.nextOf (.ref i1) >>= _) _ _ ⟨g0, gg, dd, tk, os⟩
    refine wpAny_bind (drawT (s := ⟨g0, gg, dd, tk, os⟩) ta0 D.l1n.2.2.1 hx fun p1 ta1 s1 => wpAny_pure ?_)
    replace s1 : Heap.SameBut i1 g0 p1 := s1
    have o1 : IsTupOf3 p1 to a1 a2 a3 := s1.extBut _ _ D.to1 o0
    refine wpAny_bind (wpAny_seqItems (s := ⟨p1, gg, dd, tk, os⟩) o1 rfl ?_)
    refine wpAny_bind (updateSeq_IsTupOf3 (s := ⟨p1, gg, dd, tk, os⟩) o1 fun q1 u1 r1 => wpAny_bind (wpAny_letGo (wpAny_pure ?_)))
    replace u1 : IsTupOf3 q1 to x1 a2 a3 := u1
    replace r1 : Heap.SameBut to p1 q1 := r1
    have ta2 := keepIt ta1 r1 D.to1.symm D.l1n.2.1
    have tb2 := keepIt (keepIt tb0 s1 D.n12.symm D.l2n.2.2.1) r1 D.to2.symm D.l2n.2.1
    have tc2 := keepIt (keepIt tc0 s1 D.n13.symm D.l3n.2.2.1) r1 D.to3.symm D.l3n.2.1
    refine wpAny_bind (wpAny_bind (wpAny_onRaise ?_))
    show wpAny _ _ (Builtin.SmallTypes.nextOf (.ref i2) >>= _) _ _ ⟨q1, gg, dd, tk, os⟩
    refine wpAny_bind (drawT (s := ⟨q1, gg, dd, tk, os⟩) tb2 D.l2n.2.2.2.1 hy fun p2 tb3 s2 => wpAny_pure ?_)
    replace s2 : Heap.SameBut i2 q1 p2 := s2
    have o2 : IsTupOf3 p2 to x1 a2 a3 := s2.extBut _ _ D.to2 u1
    refine wpAny_bind (wpAny_seqItems (s := ⟨p2, gg, dd, tk, os⟩) o2 rfl ?_)
    refine wpAny_bind (updateSeq_IsTupOf3 (s := ⟨p2, gg, dd, tk, os⟩) o2 fun q2 u2 r2 => wpAny_bind (wpAny_letGo (wpAny_pure ?_)))
    replace u2 : IsTupOf3 q2 to x1 x2 a3 := u2
    replace r2 : Heap.SameBut to p2 q2 := r2
    have ta4 := keepIt (keepIt ta2 s2 D.n12 D.l1n.2.2.2.1) r2 D.to1.symm D.l1n.2.1
    have tb4 := keepIt tb3 r2 D.to2.symm D.l2n.2.1
    have tc4 := keepIt (keepIt tc2 s2 D.n23.symm D.l3n.2.2.2.1) r2 D.to3.symm D.l3n.2.1
    refine wpAny_bind (wpAny_bind (wpAny_onRaise ?_))
    show wpAny _ _ (Builtin.SmallTypes.nextOf (.ref i3) >>= _) _ _ ⟨q2, gg, dd, tk, os⟩
    refine wpAny_bind (drawT (s := ⟨q2, gg, dd, tk, os⟩) tc4 D.l3n.2.2.2.2 hw fun p3 tc5 s3 => wpAny_pure ?_)
    replace s3 : Heap.SameBut i3 q2 p3 := s3
    have o3 : IsTupOf3 p3 to x1 x2 a3 := s3.extBut _ _ D.to3 u2
    refine wpAny_bind (wpAny_seqItems (s := ⟨p3, gg, dd, tk, os⟩) o3 rfl ?_)
    refine wpAny_bind (updateSeq_IsTupOf3 (s := ⟨p3, gg, dd, tk, os⟩) o3 fun q3 u3 r3 => wpAny_bind (wpAny_letGo (wpAny_pure (wpAny_pure ?_))))
    replace u3 : IsTupOf3 q3 to x1 x2 x3 := u3
    replace r3 : Heap.SameBut to p3 q3 := r3
    have ta6 := keepIt (keepIt ta4 s3 D.n13 D.l1n.2.2.2.2) r3 D.to1.symm D.l1n.2.1
    have tb6 := keepIt (keepIt tb4 s3 D.n23 D.l2n.2.2.2.2) r3 D.to2.symm D.l2n.2.1
    have tc6 := keepIt tc5 r3 D.to3.symm D.l3n.2.1
    refine wpAny_bind (wpAny_seqItems (s := ⟨q3, gg, dd, tk, os⟩) u3 rfl (wpAny_bind (wpAny_newTuple ?_)))
    have sz : q3.objs.size = hp.objs.size := by rw [r3.1, s3.1, r2.1, s2.1, r1.1, s1.1, s0.1, hs1.1]
    have hz3 : Zat q3 z ti to .ellipsis (.bool f1) := r3.extBut _ _ D.toz.symm (s3.extBut _ _ D.z3.symm (r2.extBut _ _ D.toz.symm (s2.extBut _ _ D.z2.symm (r1.extBut _ _ D.toz.symm (s1.extBut _ _ D.z1.symm z0)))))
    have kk : ∀ c o, c ≠ z → c ≠ to → c ≠ i1 → c ≠ i2 → c ≠ i3 → hp.get? c = some o → q3.get? c = some o := fun c o c0 ct c1 c2 c3 e =>
      r3.extBut _ _ ct (s3.extBut _ _ c3 (r2.extBut _ _ ct (s2.extBut _ _ c2 (r1.extBut _ _ ct (s1.extBut _ _ c1 (s0.extBut _ _ c0 (hs1.extBut _ _ c0 e)))))))
    have zlt : z < q3.objs.size := Heap.lt_size hz3
    show wpAny _ _ (Builtin.SmallTypes.ownedTupleHandOut (.ref z) (.ref q3.objs.size) >>= _) _ _ ⟨q3.push { cls := .type "tuple", data := .seq #[x1, x2, x3] }, gg, dd, tk, os⟩
    refine wpAny_bind ?_
    unfold Builtin.SmallTypes.ownedTupleHandOut
    have z5 : Zat (q3.push { cls := .type "tuple", data := .seq #[x1, x2, x3] }) z ti to .ellipsis (.bool f1) := Heap.get?_push_of_some _ hz3
    refine wpAny_bind (wpAny_setField_rec z5 (by simp) fun h7 z7 s7 => ?_)
    replace z7 : Zat h7 z ti to (rawInt q3.objs.size) (.bool f1) := z7
    replace s7 : Heap.SameBut z (q3.push { cls := .type "tuple", data := .seq #[x1, x2, x3] }) h7 := s7
    refine wpAny_setField_rec z7 (by simp) fun h8 z8 s8 => ?_
    replace z8 : Zat h8 z ti to (rawInt q3.objs.size) (.bool false) := z8
    replace s8 : Heap.SameBut z h7 h8 := s8
    have up : ∀ c o, c ≠ z → q3.get? c = some o → h8.get? c = some o := fun c o c1 e => s8.extBut _ _ c1 (s7.extBut _ _ c1 (Heap.get?_push_of_some _ e))
    have nw : IsTupOf3 h8 q3.objs.size x1 x2 x3 := s8.extBut _ _ (Nat.ne_of_gt zlt) (s7.extBut _ _ (Nat.ne_of_gt zlt) (Heap.get?_push_size _ rfl))
    have zw : h8.objs.size = q3.objs.size + 1 := by rw [s8.1, s7.1, Heap.size_push]
    have fin : ∀ {it l : Addr} {k : Nat} {vs : Array Value}, (q3.IsTupleIter it l k ∧ q3.IsTuple l vs) → it ≠ z → l ≠ z → h8.IsTupleIter it l k ∧ h8.IsTuple l vs := fun {it l k vs} st n1 n2 =>
      keepIt (keepIt ⟨st.1.at fun o e => Heap.get?_push_of_some _ e, st.2.push _⟩ s7 n1 n2) s8 n1 n2
    refine wpAny_pure ⟨_, rfl, ?_⟩
    show Q (.ref q3.objs.size) _
    rw [sz] at nw zw z8 ⊢
    exact hQ h8 _ false x1 x2 x3 (.inr ⟨_, rfl⟩) z8 (up _ _ D.toz u3) ⟨fin ta6 D.z1 D.l1n.1, fin tb6 D.z2 D.l2n.1, fin tc6 D.z3 D.l3n.1⟩ nw zw
      fun c o c0 ct c1 c2 c3 e => up c o c0 (kk c o c0 ct c1 c2 c3 e)

theorem end3 {Q : Fin → Shared → Prop} (hh : A.handled = none) (D : Far3 z ti to i1 i2 i3 l1 l2 l3) (ho : Out a) (hz : Zat s.heap z ti to a (.bool f))
    (hI : IsTupOf3 s.heap ti (.ref i1) (.ref i2) (.ref i3)) (st : s.heap.IsTupleIter i1 l1 i ∧ s.heap.IsTuple l1 xs) (hx : xs[i]? = none)
    (hE : ∀ h' e, (∀ c o, c ≠ z → c ≠ to → c ≠ i1 → c ≠ i2 → c ≠ i3 → s.heap.get? c = some o → h'.get? c = some o) → (∃ o, h'.get? e = some o ∧ o.cls = .type "StopIteration") → E (.ref e) { s with heap := h' }) :
    wpAny (model prog w) A (Builtin.«zip.__next__» ⟨[.ref z], []⟩) Q E s := by
  obtain ⟨hp, gg, dd, tk, os⟩ := s
  show wpAny _ _ (field (.ref z) 2 >>= _) _ _ _
  refine wpAny_bind (wpAny_field hz rfl (x := .bool false) rfl ?_)
  show wpAny _ _ (field (.ref z) 3 >>= _) _ _ _
  refine wpAny_bind (wpAny_field hz rfl (x := .ref ti) rfl ?_)
  refine wpAny_bind (wpAny_seqItems hI rfl ?_)
  show wpAny _ _ (Builtin.SmallTypes.ownedTupleIsFree (.ref z) >>= _) _ _ _
  refine wpAny_bind (freeOr ho hz fun b h1 f1 hz1 hs1 => ?_)
  replace hs1 : Heap.SameBut z hp h1 := hs1
  have sa1 := keepIt st hs1 D.z1 D.l1n.1
  cases b with
  | false =>
    simp only [Bool.false_eq_true, if_false]
    refine wpAny_bind ?_
    rw [← Array.forIn_toList]
    simp only [List.forIn_cons, List.forIn_nil]
    refine wpAny_bind (wpAny_bind (wpAny_holding ?_))
    show wpAny _ _ (Builtin.SmallTypes.nextOf (.ref i1) >>= _) _ _ ⟨h1, gg, dd, tk, os⟩
    refine wpAny_bind (RZ.nextOf_tuple_end (s := ⟨h1, gg, dd, tk, os⟩) hh sa1.1 sa1.2 hx fun h2 e hs2 he => ?_)
    exact hE h2 e (fun c o c0 _ c1 _ _ q => hs2 _ _ c1 (hs1.extBut _ _ c0 q)) he
  | true =>
    simp only [if_true]
    refine wpAny_bind (wpAny_rule ?_)
    refine wpAny_bind (wpAny_field (s := ⟨h1, gg, dd, tk, os⟩) hz1 rfl (x := .ref to) rfl ?_)
    refine wpAny_bind (wpAny_setField_rec (s := ⟨h1, gg, dd, tk, os⟩) hz1 (by simp) fun g0 z0 s0 => ?_)
    replace z0 : Zat g0 z ti to .ellipsis (.bool f1) := z0
    replace s0 : Heap.SameBut z h1 g0 := s0
    have ta0 := keepIt sa1 s0 D.z1 D.l1n.1
    refine wpAny_bind ?_
    simp only [List.zipIdx_cons, List.zipIdx_nil, List.forIn_cons, List.forIn_nil]
    refine wpAny_bind (wpAny_bind (wpAny_onRaise ?_))
    show wpAny _ _ (Builtin.SmallTypes.nextOf (.ref i1) >>= _) _ _ ⟨g0, gg, dd, tk, os⟩
    refine wpAny_bind (RZ.nextOf_tuple_end (s := ⟨g0, gg, dd, tk, os⟩) hh ta0.1 ta0.2 hx fun h2 e hs2 he => ?_)
    obtain ⟨oe, hoe, hce⟩ := he
    replace hs2 : Heap.ExtBut i1 g0 h2 := hs2
    replace hoe : h2.get? e = some oe := hoe
    have z2 : Zat h2 z ti to .ellipsis (.bool f1) := hs2 _ _ D.z1.symm z0
    have ne : e ≠ z := fun q => by subst q; rw [z2] at hoe; cases hoe; simp at hce
    refine wpAny_setField_rec (s := ⟨h2, gg, dd, tk, os⟩) z2 (by simp) fun h3 _ s3 => ?_
    replace s3 : Heap.SameBut z h2 h3 := s3
    exact hE h3 e (fun c o c0 _ c1 _ _ q => s3.extBut _ _ c0 (hs2 _ _ c1 (s0.extBut _ _ c0 (hs1.extBut _ _ c0 q)))) ⟨oe, s3.extBut _ _ ne hoe, hce⟩
end
end NB

set_option Elab.async false
set_option linter.all false
set_option maxRecDepth 100000
set_option maxHeartbeats 1000000
namespace NB
open PySem PySem.Spec PyProof.Rows L2

section
variable {prog : Program} {w : World} {A : Around} {E : Value → Shared → Prop} {s : Shared} {z ti to i1 i2 i3 l1 l2 l3 : Addr} {a a1 a2 a3 : Value} {f : Bool} {xs ys zs : Array Value} {i : Nat}

theorem pyNext3 {x1 x2 x3 : Value} {Q : Option Value → Shared → Prop} (D : Far3 z ti to i1 i2 i3 l1 l2 l3) (ho : Out a) (hz : Zat s.heap z ti to a (.bool f))
    (hI : IsTupOf3 s.heap ti (.ref i1) (.ref i2) (.ref i3)) (hO : IsTupOf3 s.heap to a1 a2 a3) (st : St3 s.heap i1 i2 i3 l1 l2 l3 xs ys zs i)
    (hx : xs[i]? = some x1) (hy : ys[i]? = some x2) (hw : zs[i]? = some x3)
    (hQ : ∀ (h' : Heap) (a' : Value) (g : Bool) (b1 b2 b3 : Value), Out a' → Zat h' z ti to a' (.bool g) → IsTupOf3 h' to b1 b2 b3 → St3 h' i1 i2 i3 l1 l2 l3 xs ys zs (i + 1) → IsTupOf3 h' s.heap.objs.size x1 x2 x3 → h'.objs.size = s.heap.objs.size + 1 →
      (∀ c o, c ≠ z → c ≠ to → c ≠ i1 → c ≠ i2 → c ≠ i3 → s.heap.get? c = some o → h'.get? c = some o) → Q (some (.ref s.heap.objs.size)) { s with heap := h' }) :
    wpAny (model prog w) A (pyNext (.ref z)) Q E s := by
  have ty : s.TypeIs (.ref z) "zip" := ⟨_, hz, rfl⟩
  unfold pyNext
  refine wpAny_bind (wpAny_attempt (wpAny_callSpecial?_slot (name := Str.ofString "__next__") ty F.slot_zip_next ?_))
  refine wpAny_call_entry F.slot_zip_next ty F.entry_zip_next ?_ (F.args_zip_next_1 _)
  exact next3 D ho hz hI hO st hx hy hw fun h' a' g b1 b2 b3 c1 c2 c3 c4 c5 c6 c7 => wpAny_pure (hQ h' a' g b1 b2 b3 c1 c2 c3 c4 c5 c6 c7)

theorem pyEnd3 {Q : Option Value → Shared → Prop} (hh : A.handled = none) (D : Far3 z ti to i1 i2 i3 l1 l2 l3) (ho : Out a) (hz : Zat s.heap z ti to a (.bool f))
    (hI : IsTupOf3 s.heap ti (.ref i1) (.ref i2) (.ref i3)) (st : s.heap.IsTupleIter i1 l1 i ∧ s.heap.IsTuple l1 xs) (hx : xs[i]? = none)
    (hQ : ∀ h', (∀ c o, c ≠ z → c ≠ to → c ≠ i1 → c ≠ i2 → c ≠ i3 → s.heap.get? c = some o → h'.get? c = some o) → Q none { s with heap := h' }) :
    wpAny (model prog w) A (pyNext (.ref z)) Q E s := by
  have ty : s.TypeIs (.ref z) "zip" := ⟨_, hz, rfl⟩
  unfold pyNext
  refine wpAny_bind (wpAny_attempt (wpAny_callSpecial?_slot (name := Str.ofString "__next__") ty F.slot_zip_next ?_))
  refine wpAny_call_entry F.slot_zip_next ty F.entry_zip_next (end3 hh D ho hz hI st hx fun h' e hk he => ?_) (F.args_zip_next_1 _)
  obtain ⟨o, h1, h2⟩ := he
  exact wpAny_bind (wpAny_isInstance (T := "StopIteration") (b := true) ⟨o, h1, h2⟩ isSubtype_stop (wpAny_pure (hQ _ hk)))

/-- ahead of the target's store: a target of several names lets the tuple go -/
theorem letGo3 {tg : Expr} {T : Addr} {Q : Unit → Shared → Prop} (ho : Out a) (hz : Zat s.heap z ti to a (.bool f))
    (h : ∀ (h' : Heap) (a' : Value), Out a' → Zat h' z ti to a' (.bool f) → Heap.SameBut z s.heap h' → Q () { s with heap := h' }) :
    wpAny (model prog w) A (letOwnedTupleGo tg (.ref z) (.ref T)) Q E s := by
  have same : Q () s := h s.heap a ho hz (Heap.SameBut.refl _ _)
  have main : wpAny (model prog w) A (do
      let o ← load z
      match o.cls, o.data with
      | .type n, .fields vs =>
        if ["enumerate", "zip", "dict_itemiterator", "dict_reverseitemiterator", "odict_iterator", "itertools.zip_longest", "itertools.pairwise"].contains n && vs[0]? == some (rawInt T) then
          rule "for.unpacks-the-owned-tuple"
          updateField z 0 .none
      | _, _ => pure ()) Q E s := by
    refine wpAny_bind (wpAny_load hz ?_)
    dsimp only
    split
    · refine wpAny_bind (wpAny_rule ?_)
      show wpAny _ _ (setField (.ref z) 0 .none) Q E s
      exact wpAny_setField_rec hz (by simp) fun h' z' s' => h h' .none (.inl rfl) z' s'
    · exact wpAny_pure same
  unfold letOwnedTupleGo
  cases tg <;> first
    | exact wpAny_pure same
    | exact main

theorem iter3 {Q : Value → Shared → Prop} (hz : Zat s.heap z ti to a (.bool f)) (h : Q (.ref z) s) : wpAny (model prog w) A (pyIter (.ref z)) Q E s := by
  have ty : s.TypeIs (.ref z) "zip" := ⟨_, hz, rfl⟩
  refine wpAny_pyIter_slot ty F.slot_zip_iter (wpAny_call_entry F.slot_zip_iter ty F.entry_zip_iter ?_ (F.args_zip_iter_1 _))
  show wpAny _ _ (ret (.ref z)) _ _ s
  exact wpAny_pure ⟨_, rfl, "zip", _, ty, F.slot_zip_next.lookup, h⟩
end

/-- three tuples of one length, turn by turn: a new tuple of the three items -/
def It3 (K : PySem.W.Frag) (a b c : Addr) : It :=
  ⟨fun i H => ∃ (xs ys zs : List V) (x y z : V), SqT K H a xs ∧ SqT K H b ys ∧ SqT K H c zs ∧ xs[i]? = some x ∧ ys[i]? = some y ∧ zs[i]? = some z,
    fun i H v H' => ∃ T x y z, v = .ref T ∧ H T = none ∧ H' = upd H T (.tup [x, y, z]) ∧ (∀ xs, SqT K H a xs → xs[i]? = some x) ∧ (∀ ys, SqT K H b ys → ys[i]? = some y) ∧ ∀ zs, SqT K H c zs → zs[i]? = some z,
    fun i H => ∃ xs : List V, SqT K H a xs ∧ xs.length ≤ i⟩

theorem turn3 {P : Program} {w : World} {K : PySem.W.Frag} {tg : Expr} {a b c z ti to i1 i2 i3 : Addr} (D : Far3 z ti to i1 i2 i3 a b c) :
    Turn P w K tg (It3 K a b c) [z, ti, to, i1, i2, i3] z (fun i h => (∃ v f, Out v ∧ Zat h z ti to v (.bool f)) ∧ IsTupOf3 h ti (.ref i1) (.ref i2) (.ref i3) ∧ (∃ b1 b2 b3, IsTupOf3 h to b1 b2 b3) ∧
      h.IsTupleIter i1 a i ∧ h.IsTupleIter i2 b i ∧ h.IsTupleIter i3 c i) where
  mem := by simp
  obj := fun i h st q hq => by
    obtain ⟨⟨v, f, _, hz⟩, hI, ⟨b1, b2, b3, hO⟩, ⟨o1, e1, _, d1⟩, ⟨o2, e2, _, d2⟩, ⟨o3, e3, _, d3⟩⟩ := st
    have e' : q = z ∨ q = ti ∨ q = to ∨ q = i1 ∨ q = i2 ∨ q = i3 := by simpa using hq
    rcases e' with r | r | r | r | r | r
    · rw [r]; exact ⟨_, hz, fun v q => nomatch q⟩
    · rw [r]; exact ⟨_, hI, fun v q => nomatch q⟩
    · rw [r]; exact ⟨_, hO, fun v q => nomatch q⟩
    · rw [r]; exact ⟨o1, e1, fun v q => by rw [d1] at q; cases q⟩
    · rw [r]; exact ⟨o2, e2, fun v q => by rw [d2] at q; cases q⟩
    · rw [r]; exact ⟨o3, e3, fun v q => by rw [d3] at q; cases q⟩
  keep := fun i h h' st k => by
    obtain ⟨⟨v, f, ho, hz⟩, hI, ⟨b1, b2, b3, hO⟩, h1, h2, h3⟩ := st
    exact ⟨⟨v, f, ho, k z (by simp) _ hz⟩, k ti (by simp) _ hI, ⟨b1, b2, b3, k to (by simp) _ hO⟩, h1.at fun o q => k i1 (by simp) o q, h2.at fun o q => k i2 (by simp) o q, h3.at fun o q => k i3 (by simp) o q⟩
  item := by
    intro X hP hw hK hc i pins s σ H E I hf st hg
    subst hP hw hK
    obtain ⟨⟨v, f, ho, hz⟩, hI, ⟨b1, b2, b3, hO⟩, h1, h2, h3⟩ := st
    obtain ⟨xs, ys, zs, x, y, u, qx, qy, qu, hx, hy, hu⟩ := hg
    obtain ⟨t1, r1, p1, _⟩ := I.tuple qx
    obtain ⟨t2, r2, p2, _⟩ := I.tuple qy
    obtain ⟨t3, r3, p3, _⟩ := I.tuple qu
    obtain ⟨v1, g1, rv1⟩ := r1.get hx
    obtain ⟨v2, g2, rv2⟩ := r2.get hy
    obtain ⟨v3, g3, rv3⟩ := r3.get hu
    have zl : z < s.heap.objs.size := Heap.lt_size hz
    refine pyNext3 D ho hz hI hO ⟨⟨h1, p1⟩, ⟨h2, p2⟩, ⟨h3, p3⟩⟩ (x1 := v1) (x2 := v2) (x3 := v3) (by simpa using g1) (by simpa using g2) (by simpa using g3) fun h' v' f' c1 c2 c3 ho' hz' hO' st' hT hsz hk => ?_
    refine ⟨_, rfl, letGo3 (s := { s with heap := h' }) ho' hz' fun h'' v'' ho'' hz'' sb => ?_⟩
    have hT2 : h''.get? s.heap.objs.size = some { cls := .type "tuple", data := .seq #[v1, v2, v3] } := (sb.2 _ (Nat.ne_of_gt zl)).trans hT
    have new : ObjOk X.prog X.w (upd H s.heap.objs.size (.tup [x, y, u])) h'' s.heap.objs.size (.tup [x, y, u]) :=
      ⟨by show 3 ≤ sizeLine; decide, [v1, v2, v3], .cons rv1 (.cons rv2 (.cons rv3 .nil)), ⟨_, hT2, rfl, _, rfl⟩⟩
    have I1 : Inv X pins σ (upd H s.heap.objs.size (.tup [x, y, u])) { s with heap := h'' } :=
      I.turnedNew (t' := s.toks) (ch := [z, ti, to, i1, i2, i3]) (fun q o hb e => (sb.2 q (fun q' => hb (by simp [q']))).trans
        (hk q o (fun q' => hb (by simp [q'])) (fun q' => hb (by simp [q'])) (fun q' => hb (by simp [q'])) (fun q' => hb (by simp [q'])) (fun q' => hb (by simp [q'])) e)) hf (Nat.le_refl _) new
    refine ⟨.ref s.heap.objs.size, _, I1, rfl, ⟨_, x, y, u, rfl, I.hok.fresh (Nat.le_refl _), rfl, fun l hl => by rw [I.tuple_inj hl qx]; exact hx, fun l hl => by rw [I.tuple_inj hl qy]; exact hy, fun l hl => by rw [I.tuple_inj hl qu]; exact hu⟩,
      ⟨⟨v'', f', ho'', hz''⟩, ?_, ⟨c1, c2, c3, (sb.2 _ D.toz).trans hO'⟩, st'.1.1.at fun o q => (sb.2 _ D.z1).trans q, st'.2.1.1.at fun o q => (sb.2 _ D.z2).trans q, st'.2.2.1.at fun o q => (sb.2 _ D.z3).trans q⟩, fun q hq => ?_⟩
    · exact (sb.2 _ D.tiz).trans (hk _ _ D.tiz D.tito D.ti1 D.ti2 D.ti3 hI)
    · have lt : q < s.heap.objs.size := by
        have e' : q = z ∨ q = ti ∨ q = to ∨ q = i1 ∨ q = i2 ∨ q = i3 := by simpa using hq
        rcases e' with r | r | r | r | r | r
        · rw [r]; exact zl
        · rw [r]; exact Heap.lt_size hI
        · rw [r]; exact Heap.lt_size hO
        · rw [r]; obtain ⟨_, e1, _⟩ := h1; exact Heap.lt_size e1
        · rw [r]; obtain ⟨_, e1, _⟩ := h2; exact Heap.lt_size e1
        · rw [r]; obtain ⟨_, e1, _⟩ := h3; exact Heap.lt_size e1
      rw [upd_ne (Nat.ne_of_lt lt)]
      exact (hf q hq).1
  done := by
    intro X hP hw hK hc i pins s σ H E I hf st hg
    subst hP hw hK
    obtain ⟨⟨v, f, ho, hz⟩, hI, ⟨b1, b2, b3, hO⟩, h1, h2, h3⟩ := st
    obtain ⟨xs, qx, hlen⟩ := hg
    obtain ⟨t1, r1, p1, _⟩ := I.tuple qx
    have le := r1.length
    refine pyEnd3 (I.ok.hd hc) D ho hz hI ⟨h1, p1⟩ (by simp; omega) fun h' hk => ⟨rfl, I.turnedL (t' := s.toks) (ch := [z, ti, to, i1, i2, i3]) (fun q o hb e => ?_) hf⟩
    exact hk q o (fun q' => hb (by simp [q'])) (fun q' => hb (by simp [q'])) (fun q' => hb (by simp [q'])) (fun q' => hb (by simp [q'])) (fun q' => hb (by simp [q'])) e
  self := fun A i s Q E st h => by
    obtain ⟨⟨v, f, _, hz⟩, _⟩ := st
    exact iter3 hz h

theorem far_at (n a b c : Nat) (ha : a < n) (hb : b < n) (hc : c < n) : Far3 (n + 5) (n + 3) (n + 4) n (n + 1) (n + 2) a b c := by
  constructor <;> first | (show (_ : Nat) ≠ _; omega) | (refine ⟨?_, ?_, ?_, ?_, ?_⟩ <;> (show (_ : Nat) ≠ _; omega))

def iZip3 (K : PySem.W.Frag) (ta : TA) : TI := fun σ H R => ta σ H fun vs H1 => ∃ a b c xs ys zs, vs = [.ref a, .ref b, .ref c] ∧ SqT K H1 a xs ∧ SqT K H1 b ys ∧ SqT K H1 c zs ∧ R (It3 K a b c) H1
/-- zip(e, e2, e3), tuples of one length; any target -/
theorem pi_zip3 {X : Cx} {tg e e2 e3 : Expr} {ta : TA} {p pos : Pos} (hg : Gl X "zip") (hm : X.mg "zip" = none) (ha : PA X [e, e2, e3] ta)
    (hs : starEach [e, e2, e3] X.env = (false, eval e X.env) :: starEach [e2, e3] X.env := by rfl) (hpl : (backTo pos (starEach [e2, e3] X.env)).any (·.1) = false := by rfl) :
    PI X tg (.Call (.Name "zip" p) [e, e2, e3] [] pos) (iZip3 X.K ta) := by
  refine ⟨fun pins s σ H R I h => ?_⟩
  refine Call_ (ld_blt I hg hm PyProof.Rows.boot_zip (PyProof.Rows.callWith_type1 (thn (ha.run pos pins s σ H _ I h) fun us s1 q => ?_) hs hpl))
  obtain ⟨vs, H1, I1, r1, a, b, c, xs, ys, zs, ex, q1, q2, q3, q⟩ := q
  subst ex
  cases r1 with
  | cons ra rr =>
    cases rr with
    | cons rb rr =>
      cases rr with
      | cons rc rr =>
        cases rr
        cases ra
        cases rb
        cases rc
        obtain ⟨t1, r1, p1, _⟩ := I1.tuple q1
        obtain ⟨t2, r2, p2, _⟩ := I1.tuple q2
        obtain ⟨t3, r3, p3, _⟩ := I1.tuple q3
        obtain ⟨o1, g1, _⟩ := id p1
        obtain ⟨o2, g2, _⟩ := id p2
        obtain ⟨o3, g3, _⟩ := id p3
        refine zip_begins3 (begins_tuple a t1.toArray) (begins_tuple b t2.toArray) (begins_tuple c t3.toArray) p1 p2 p3 fun h' hz hI hO e1 e2 e3 hsz hk => iter3 hz ?_
        have I2 : Inv X pins σ H1 { s1 with heap := h' } := I1.kept (t' := s1.toks) hk
        refine ⟨s1.heap.objs.size + 5, [s1.heap.objs.size + 5, s1.heap.objs.size + 3, s1.heap.objs.size + 4, s1.heap.objs.size, s1.heap.objs.size + 1, s1.heap.objs.size + 2], _, _, H1, rfl, I2, turn3 (far_at s1.heap.objs.size a b c (Heap.lt_size g1) (Heap.lt_size g2) (Heap.lt_size g3)),
          ⟨⟨.none, false, .inl rfl, hz⟩, hI, ⟨_, _, _, hO⟩, ⟨_, e1, rfl, rfl⟩, ⟨_, e2, rfl, rfl⟩, ⟨_, e3, rfl, rfl⟩⟩, fun q hq => ?_, q⟩
        have le : s1.heap.objs.size ≤ q := by
          have e' : q = s1.heap.objs.size + 5 ∨ q = s1.heap.objs.size + 3 ∨ q = s1.heap.objs.size + 4 ∨ q = s1.heap.objs.size ∨ q = s1.heap.objs.size + 1 ∨ q = s1.heap.objs.size + 2 := by simpa using hq
          rcases e' with r | r | r | r | r | r <;> rw [r] <;> first | exact Nat.le_add_right _ _ | exact Nat.le_refl _
        exact I1.fpOk le (I1.hok.fresh le)

/-- a new triple of the i-th ones -/
def Y3 (xs ys zs : List V) : Nat → Hp → V → Hp → Prop := fun i H v H' => ∃ T x y z, v = .ref T ∧ H T = none ∧ H' = upd H T (.tup [x, y, z]) ∧ xs[i]? = some x ∧ ys[i]? = some y ∧ zs[i]? = some z
theorem walk_zip3 {K : PySem.W.Frag} {a b c : Addr} {xs ys zs : List V} (h2 : ys.length = xs.length) (h3 : zs.length = xs.length) :
    Walk (It3 K a b c) xs.length (fun H => SqT K H a xs ∧ SqT K H b ys ∧ SqT K H c zs) (Y3 xs ys zs) := by
  refine ⟨fun i _ hi q => ?_, fun _ q => ⟨xs, q.1, Nat.le_refl _⟩, fun i H v H' _ q y => ?_⟩
  · exact ⟨xs, ys, zs, xs[i], ys[i]'(by omega), zs[i]'(by omega), q.1, q.2.1, q.2.2, by simp [hi], by simp [show i < ys.length by omega], by simp [show i < zs.length by omega]⟩
  · obtain ⟨T, x, y, z, e1, e2, e3, f1, f2, f3⟩ := y
    exact ⟨T, x, y, z, e1, e2, e3, f1 xs q.1, f2 ys q.2.1, f3 zs q.2.2⟩
theorem walk_zipT {K : PySem.W.Frag} {a b : Addr} {xs ys : List V} (h2 : ys.length = xs.length) :
    Walk (RZ.ItzT K a b) xs.length (fun H => SqT K H a xs ∧ SqT K H b ys) (YPair (fun i => xs[i]?) (fun i => ys[i]?)) := by
  refine ⟨fun i _ hi q => ?_, fun _ q => ⟨xs, ys, q.1, q.2, by omega⟩, fun i H v H' _ q y => ?_⟩
  · exact ⟨xs, ys, xs[i], ys[i]'(by omega), q.1, q.2, by simp [hi], by simp [show i < ys.length by omega]⟩
  · obtain ⟨T, x, u, e1, e2, e3, f1, f2⟩ := y
    exact ⟨T, x, u, e1, e2, e3, f1 xs q.1, f2 ys q.2⟩
end NB

set_option Elab.async false
set_option linter.all false
set_option maxRecDepth 100000
set_option maxHeartbeats 1000000
namespace NB
open PySem PySem.Spec PyProof.Rows L2

/-- the law's own call, its def kept to its promise where nothing is being shown -/
theorem law_end {P : Program} {w : World} {K : PySem.W.Frag} {mg mb : Str → Option Value} {k : Nat} {fa a : Addr} {fd : FuncData} {x : Str} {sp : Sp} {s : Shared} {vs : List Value} {ns : List Int}
    (hK : K.In s.heap) (hN : s.heap.Ns mainGlobals mg) (hB : s.heap.Ns builtinsNs mb) (hbb : ∀ x : Str, x ≠ "__name__" → mb x = bootBuiltins x) (lim : s.heap.NoLimit) (hg : s.gens = #[])
    (ha : s.heap.get? a = some { cls := .type "list", data := .seq vs.toArray }) (hi : IntsAre vs ns) (hl : ns.length ≤ sizeLine) (hr : Room k callerA)
    (F : ∀ base : Heap, K.In base → base.Ns mainGlobals mg → FnG P w K mg base k fa fd [x] sp) (hb : ∀ (s : Shared) (u : Value), BindsTo s fd ⟨[u], []⟩ [(x, u)])
    (hsp : ∀ H : Hp, SqL K H a (ns.map V.int) → sp [.ref a] H (fun v _ => v = .bl true) E0) :
    codeAny (model P w) callerA (.call (.ref fa) ⟨[.ref a], []⟩) (fun r s' => r = .ok (.ret (.bool true)) ∧ OldK s.heap s'.heap ∧ s'.os = s.os ∧ AllBare s'.gens) s := by
  have rv := vals_ints hi
  have lv := hi.length
  -- H: the script alone is tracked, or nothing
  suffices go : ∀ H : Hp, (∀ b, H b ≠ none → b = a ∧ K.lookup a = none ∧ ∃ o xs, H b = some (.frz o (.lst xs))) → SqL K H a (ns.map V.int) → HOk P w H s.heap →
      codeAny (model P w) callerA (.call (.ref fa) ⟨[.ref a], []⟩) (fun r s' => r = .ok (.ret (.bool true)) ∧ OldK s.heap s'.heap ∧ s'.os = s.os ∧ AllBare s'.gens) s by
    cases hk : K.lookup a with
    | some o =>
      have e := hK a o hk
      rw [ha] at e
      cases e
      refine go (fun _ => none) (fun b q => absurd rfl q) (.inr ⟨_, vs.toArray, _, hk, rfl, rfl, rfl, ?_, by simpa using rv⟩) (fun b u q => by cases (show (none : Option HO) = some u from q))
      rw [List.size_toArray, lv]
      exact hl
    | none =>
      refine go (fun b => if b = a then some (.frz { cls := .type "list", data := .seq vs.toArray } (.lst (ns.map V.int))) else none) (fun b q => ?_) (.inl (.inr ⟨_, if_pos rfl⟩)) (fun b u q => ?_)
      · by_cases h : b = a
        · exact ⟨h, hk, _, _, if_pos h⟩
        · exact absurd (if_neg h) q
      · by_cases h : b = a
        · have q' := (if_pos h).symm.trans q
          cases q'
          subst h
          exact ⟨ha, by rw [List.length_map]; exact hl, vs, _, rv, ha⟩
        · have q' := (if_neg h).symm.trans q
          cases q'
  intro H hO hS ok
  have dictFree : ∀ {b : Addr} {o : Obj} {es : Array DictEntry} {ep : Nat}, s.heap.get? b = some o → o.data = .dict es ep → H b = none := by
    intro b o es ep e d
    cases q : H b with
    | none => rfl
    | some u =>
      obtain ⟨e', _⟩ := hO b (by rw [q]; simp)
      subst e'
      rw [ha] at e
      cases e
      cases (show Data.seq vs.toArray _ = Data.dict es ep from d)
  have ns' : ∀ {b : Addr} {m : Str → Option Value}, s.heap.Ns b m → (hidT s.heap H).Ns b m := by
    rintro b m ⟨o, es, ep, e, d, r⟩
    exact ⟨o, es, ep, hidT_get e (dictFree e d), d, r⟩
  have kB : K.In (hidT s.heap H) := by
    intro b o e
    refine hidT_get (hK b o e) ?_
    cases q : H b with
    | none => rfl
    | some u =>
      obtain ⟨e', n, _⟩ := hO b (by rw [q]; simp)
      subst e'
      rw [n] at e
      cases e
  have md : Mod K mg (hidT s.heap H) := by
    obtain ⟨mc, h1, h2⟩ := lim
    exact ⟨kB, ns' hN, ⟨mb, ns' hB, hbb⟩, ⟨mc, ns' h1, h2⟩⟩
  have e0 : Env0 P w K mg (hidT s.heap H) callerA [] s H :=
    ⟨rfl, md, fun b o e => of_hidT e, Nat.le_of_eq (hidT_size _ _), trivial, fun b q => absurd (show b ∈ ([] : List Addr) from q) (by simp), ok, .of_eq hg⟩
  refine codeAny_mono ((F _ kB (ns' hN)).go callerA [] s H ⟨[.ref a], []⟩ [.ref a] [.ref a] _ _ rfl hr e0 (hb s (.ref a)) (.cons rfl .nil) (hsp H hS)) ?_
  intro r s' q
  cases r with
  | error e => exact False.elim q
  | ok fl =>
    cases fl with
    | next => exact False.elim q
    | brk => exact False.elim q
    | cont => exact False.elim q
    | ret u =>
      obtain ⟨v, H', os, bare, un, ok', r', q'⟩ := q
      have q2 : v = .bl true := q'
      subst q2
      obtain rfl : u = Value.bool true := r'
      refine ⟨rfl, OldK.of_keep fun b o e => ?_, os, bare⟩
      cases q : H b with
      | none => exact un.keep b o e q (fun z => absurd (show b ∈ ([] : List Addr) from z) (by simp)) (by simp)
      | some u =>
        obtain ⟨_, _, ob, xs, z⟩ := hO b (by rw [q]; simp)
        obtain ⟨e1, _⟩ := ok b _ z
        obtain ⟨e2, _⟩ := ok' b _ (un.frzs b ob _ z)
        rw [e] at e1
        cases e1
        exact e2

/-- what k_head leaves, from the promise of the law's def -/
theorem walkG {l : PySem.W.OpenLaw} {n k : Nat} {q : Program} {loose : List Str} {XP : (Str → Option Value) → Heap → Prop} {YP : World → Heap → Prop} {d : DefRec} {K : Params → PySem.W.Frag} {sp : World → Sp} {x : Str}
    (hn : l.most = some n) (hn2 : n ≤ sizeLine) (hdf : d.params.defaults = []) (hr : Room k callerA) (hY : ∀ (w : World) (h : Heap), YP w h → (K w.params).In h)
    (F : ∀ (w : World) (mg : Str → Option Value) (fa : Addr) (h : Heap), (K w.params).In h → h.Ns mainGlobals mg → mg d.name = some (.ref fa) →
      ∃ fd : FuncData, (∀ (s : Shared) (u : Value), BindsTo s fd ⟨[u], []⟩ [(x, u)]) ∧
        ∀ base : Heap, (K w.params).In base → base.Ns mainGlobals mg → FnG l.prog w (K w.params) mg base k fa fd [x] (sp w))
    (hsp : ∀ (w : World) (H : Hp) (a : Addr) (ns : List Int), ns.length ≤ n → SqL (K w.params) H a (ns.map V.int) → sp w [.ref a] H (fun v _ => v = .bl true) E0) :
    PySem.W.WalkO q loose XP YP l.row.toRowW d [] (fun f vs => PySem.call f vs) := by
  refine Att.attach_call hn hdf ?_
  intro w s₀ s₁ mg mb fa o pm cd doc a vs ns G Y ho hd hcd hmg hobj hints hlen hg
  have kX := hY w _ Y
  obtain ⟨fd, hb, hF⟩ := F w mg fa _ kX G.T.g hmg
  exact law_end kX G.T.g G.T.b G.T.builtins G.T.nolimit hg hobj hints (Nat.le_trans hlen hn2) hr hF hb fun H hS => hsp w H a ns hlen hS
end NB

set_option Elab.async false
set_option linter.all false
set_option maxRecDepth 100000
set_option maxHeartbeats 1000000
namespace NB
open PySem PySem.Spec PyProof.Rows L2
section
variable {prog : Program} {w : World} {A : Around} {E : Value → Shared → Prop} {s : Shared}
theorem sortedTuple {t : Addr} {vs : List Value} {ns : List Int} {Q : Value → Shared → Prop} (hl : s.heap.IsTuple t vs.toArray) (hI : IntsAre vs ns) (h64 : vs.length < 64)
    (h : ∀ (h1 h' : Heap) (p : Addr) (out : Array Value) (ep : Nat) (ns' : List Int), IntsAre out.toList ns' → ns'.Perm ns → ns'.Pairwise (· ≤ ·) → (∀ b o, s.heap.get? b = some o → h1.get? b = some o) → (∀ b o, h1.get? b = some o → h'.get? b = some o) → h1.objs.size ≤ p →
      h'.get? p = some (seqObj "list" out ep) → Q (.ref p) { s with heap := h' }) :
    wpAny (model prog w) A (call (.builtin "sorted") [.ref t]) Q E s := by
  obtain ⟨o, ho, hc, n, hd⟩ := hl
  refine Calls.call_function_entry kind_sorted plain_sorted entry_sorted (args_sorted1 _) ?_
  unfold Builtin.«sorted»
  refine wpAny_bind (m := checkCount "sorted" 1 1 _) (wpAny_pure ?_)
  refine wpAny_bind (wpAny_collect_seq t (.inr rfl) ho hc hd (fun h1 hk => ?_) (by rw [List.size_toArray, sizeLine_eq]; omega))
  refine wpAny_bind (wpAny_newList ?_)
  have e0 : (vs.toArray.toList) = vs := rfl
  have hoL : (h1.push (seqObj "list" vs.toArray 0)).get? h1.objs.size = some (seqObj "list" vs.toArray 0) := Heap.get?_push_size _ rfl
  show wpAny _ _ _ _ _ { s with heap := h1.push (seqObj "list" vs.toArray 0) }
  refine wpAny_bind (wpAny_holding (wpAny_call_entry slot_list_sort ⟨_, hoL, rfl⟩ entry_list_sort (list_sort_tree hoL hI h64 fun out ns' q1 q2 q3 => ⟨_, rfl, ?_⟩) (args_list_sort _)))
  refine wpAny_pure ⟨_, rfl, ?_⟩
  obtain ⟨ep, hat⟩ := sortedHeap_at (vs := vs) (out := out) hoL
  refine h h1 _ h1.objs.size out ep ns' q1 q2 q3 hk (fun b o q => ?_) (Nat.le_refl _) hat
  have lt := Heap.lt_size q
  rw [sortedHeap_old (Nat.ne_of_lt lt) (by rw [size_push']; exact Nat.lt_succ_of_lt lt)]
  exact Heap.get?_push_of_some _ q
end
section
variable {X : Cx}
/-- sorted(t), t a tuple of few ints -/
def rSortT (K : PySem.W.Frag) : List V → Hp → VK → Prop := fun vs H Q => ∃ (a : Addr) (ns : List Int), vs = [V.ref a] ∧ SqT K H a (ns.map V.int) ∧ ns.length < 64 ∧
  ∀ (ns' : List Int) (p : Addr), ns'.Perm ns → ns'.Pairwise (· ≤ ·) → H p = none → Q (.ref p) (upd H p (.lst (ns'.map V.int)))
theorem cr_sortT : CallR X (.builtin "sorted") (rSortT X.K) := by
  intro pins s σ H vs us Q I r h
  obtain ⟨a, ns, rfl, hs, h64, q⟩ := h
  obtain ⟨its, rv, hl, _⟩ := I.tuple hs
  rw [Vals.ref1 r]
  have hi := rv.ints
  refine sortedTuple hl hi (by rw [hi.length]; exact h64) fun h1 h' p out ep ns' q1 q2 q3 k1 k2 hp hat => ?_
  have I1 : Inv X pins σ H { s with heap := h1 } := I.kept (t' := s.toks) k1
  have hlen : (ns'.map V.int).length ≤ sizeLine := by rw [List.length_map, q2.length_eq]; exact small64 h64
  exact ⟨.ref p, upd H p (.lst (ns'.map V.int)), I1.laid (t' := s.toks) k2 hp ⟨hlen, out.toList, ep, vals_of_ints q1, hat⟩, rfl, q ns' p q2 q3 (I1.hok.fresh hp)⟩

theorem perm_sum {l l' : List Int} (h : l.Perm l') : l.sum = l'.sum := by
  induction h with
  | nil => rfl
  | cons x _ ih => simp only [List.sum_cons, ih]
  | swap x y l => simp only [List.sum_cons]; omega
  | trans _ _ i1 i2 => exact i1.trans i2
/-- the middle one of three -/
def mid3 (a b c : Int) : Int := if a ≤ b then (if b ≤ c then b else if a ≤ c then c else a) else (if a ≤ c then a else if b ≤ c then c else b)
theorem mid_of_sorted {a b c x y z : Int} (p : [x, y, z].Perm [a, b, c]) (s : [x, y, z].Pairwise (· ≤ ·)) : y = mid3 a b c := by
  have h1 : x ≤ y ∧ y ≤ z := by
    rw [List.pairwise_cons, List.pairwise_cons] at s
    exact ⟨s.1 y (by simp), s.2.1 z (by simp)⟩
  have ha : a ∈ [x, y, z] := p.symm.subset (by simp)
  have hb : b ∈ [x, y, z] := p.symm.subset (by simp)
  have hc : c ∈ [x, y, z] := p.symm.subset (by simp)
  have hs : x + y + z = a + b + c := by
    have e := perm_sum p
    simp only [List.sum_cons, List.sum_nil] at e
    omega
  simp only [List.mem_cons, List.not_mem_nil, or_false] at ha hb hc
  unfold mid3
  rcases ha with e | e | e <;> rcases hb with f | f | f <;> rcases hc with g | g | g <;> split <;> split <;> (try split) <;> omega
theorem max3 (hc : X.calm = true) : CallR X (.builtin "max") (fun xs H Q => ∃ i j k : Int, xs = [.int i, .int j, .int k] ∧ Q (.int (max (max i j) k)) H) := by
  intro pins s σ H xs us Q I r h
  obtain ⟨i, j, k, rfl, q⟩ := h
  refine call_max3Nu hc pins s σ H _ us Q I r ⟨_, _, _, _, rfl, ?_, q⟩
  have two : ∀ a b : Int, nuMax2 (.int a) (.int b) = some (.int (max a b)) := fun a b => by
    show some (if decide (a < b) = true then V.int b else V.int a) = _
    by_cases h : a < b
    · rw [if_pos (decide_eq_true h), Int.max_eq_right (Int.le_of_lt h)]
    · rw [if_neg (by simpa using h), Int.max_eq_left (by omega)]
  show (nuMax2 (.int i) (.int j)).bind (fun m => nuMax2 m (.int k)) = _
  rw [two]
  exact two _ _
theorem min3 (hc : X.calm = true) : CallR X (.builtin "min") (fun xs H Q => ∃ i j k : Int, xs = [.int i, .int j, .int k] ∧ Q (.int (min (min i j) k)) H) := by
  intro pins s σ H xs us Q I r h
  obtain ⟨i, j, k, rfl, q⟩ := h
  refine call_min3Nu hc pins s σ H _ us Q I r ⟨_, _, _, _, rfl, ?_, q⟩
  have two : ∀ a b : Int, nuMin2 (.int a) (.int b) = some (.int (min a b)) := fun a b => by
    show some (if decide (b < a) = true then V.int b else V.int a) = _
    by_cases h : b < a
    · rw [if_pos (decide_eq_true h), Int.min_eq_right (Int.le_of_lt h)]
    · rw [if_neg (by simpa using h), Int.min_eq_left (by omega)]
  show (nuMin2 (.int i) (.int j)).bind (fun m => nuMin2 m (.int k)) = _
  rw [two]
  exact two _ _
/-- a ** b: the result within 2 ^ 27 bits -/
def CPowW (i j : Int) : Prop := 0 ≤ j ∧ (Builtin.Int.intBits i : Int) * j ≤ 2 ^ 27
theorem op_powW : OpR X (binaryOp .Pow) (rI CPowW fun i j => .int (i ^ j.toNat)) := opI fun _ _ _ _ _ _ _ hc q => pow_int hc.1 hc.2 q
end
end NB

set_option Elab.async false
set_option linter.all false
set_option maxRecDepth 100000
set_option maxHeartbeats 1000000
/-! enumerate of a tuple -/
namespace NB
open PySem PySem.Spec PyProof.Rows L2

theorem enumNewT (l : Addr) (items : Array Value) : Meets (Builtin.«enumerate.__new__» ⟨[.type "enumerate", .ref l], []⟩) (fun _ R s => s.heap.IsTuple l items ∧
      R (.ok (.ret (.ref (s.heap.push { cls := .type "tuple_iterator", data := .fields #[.ref l, .int 0 0] }).objs.size)))
        { s with heap := (s.heap.push { cls := .type "tuple_iterator", data := .fields #[.ref l, .int 0 0] }).push { cls := .type "enumerate", data := .fields #[.none, .bool false, .ref s.heap.objs.size, rawInt 0, .none, .none] } }) :=
  .of_wp fun prog w A R s h => by
    obtain ⟨hp, g, d, tk, os⟩ := s
    obtain ⟨hl, h⟩ := h
    have hsub := sub_enumerate
    have hL : Heap.IsTuple (Shared.heap ⟨hp, g, d, tk, os⟩) l items := hl
    wp_walk
    refine wpAny_stack_any fun st => wpAny_pure ?_
    split
    · rename_i c _ _ _ _ _
      cases (c == Value.type "enumerate")
      · wp_walk using wpAny_pyIter_tuple hL
        exact ⟨_, rfl, h⟩
      · wp_walk using wpAny_pyIter_tuple hL
        exact ⟨_, rfl, h⟩
    · wp_walk using wpAny_pyIter_tuple hL
      exact ⟨_, rfl, h⟩
section
variable {prog : Program} {w : World} {A : Around} {E : Value → Shared → Prop} {s : Shared}
theorem enumT {l : Addr} {items : Array Value} {Q : Value → Shared → Prop} (hL : s.heap.IsTuple l items)
    (h : ∀ h', IsEnum h' (s.heap.objs.size + 1) s.heap.objs.size 0 .none → h'.IsTupleIter s.heap.objs.size l 0 → (∀ b o, s.heap.get? b = some o → h'.get? b = some o) → Q (.ref (s.heap.objs.size + 1)) { s with heap := h' }) :
    wpAny (model prog w) A (call (.type "enumerate") [.ref l]) Q E s := by
  refine callType_new F.called_enumerate (by decide) (F.typeCall_enumerate_1 _) (F.newCall_enumerate_1 _) (fun obj => F.args_object_init_2 obj _) F.entry_enumerate_new (enumNewT l items) ⟨hL, ?_⟩
  have z : (s.heap.push { cls := .type "tuple_iterator", data := .fields #[.ref l, .int 0 0] }).objs.size = s.heap.objs.size + 1 := Heap.size_push ..
  have he := Heap.get?_push_size (s.heap.push { cls := .type "tuple_iterator", data := .fields #[.ref l, .int 0 0] }) (o := { cls := .type "enumerate", data := .fields #[.none, .bool false, .ref s.heap.objs.size, rawInt 0, .none, .none] }) rfl
  show _ ∧ _
  rw [z] at he ⊢
  exact ⟨⟨_, he, rfl⟩, h _ he ⟨_, Heap.get?_push_of_some _ (Heap.get?_push_size _ rfl), rfl, rfl⟩ fun b o x => Heap.get?_push_of_some _ (Heap.get?_push_of_some _ x)⟩
end
/-- a tuple's items with their numbers, in new pairs -/
def ItE (K : PySem.W.Frag) (a : Addr) : It :=
  ⟨fun i H => ∃ (xs : List V) (x : V), SqT K H a xs ∧ xs[i]? = some x,
    fun i H v H' => ∃ T x, v = .ref T ∧ H T = none ∧ H' = upd H T (.tup [.int (i : Nat), x]) ∧ ∀ xs, SqT K H a xs → xs[i]? = some x,
    fun i H => ∃ xs : List V, SqT K H a xs ∧ xs.length = i⟩
theorem turnE {P : Program} {w : World} {K : PySem.W.Frag} {elts : List Expr} {kk : Nat} {tpos : Pos} (a e it : Addr) (n1 : e ≠ it) (n2 : a ≠ it) (n3 : e ≠ a) :
    Turn P w K (.Tuple elts kk tpos) (ItE K a) [e, it] e (fun i h => (∃ old, IsEnum h e it ((i : Nat) : Int) old) ∧ h.IsTupleIter it a i) where
  mem := by simp
  obj := fun i h st b hb => by
    obtain ⟨⟨old, he⟩, ⟨o, ho, hc, hd⟩⟩ := st
    have e' : b = e ∨ b = it := by simpa using hb
    rcases e' with z | z
    · rw [z]; exact ⟨_, he, fun v q => nomatch q⟩
    · rw [z]; exact ⟨o, ho, fun v q => by rw [hd] at q; cases q⟩
  keep := fun i h h' st k => by
    obtain ⟨⟨old, he⟩, hi⟩ := st
    exact ⟨⟨old, k e (by simp) _ he⟩, hi.at fun o q => k it (by simp) o q⟩
  item := by
    intro X hP hw hK hc i pins s σ H E I hf st hg
    subst hP hw hK
    obtain ⟨⟨old, he⟩, hit⟩ := st
    obtain ⟨xs, x, hq, hx⟩ := hg
    obtain ⟨its, rv, p, hz⟩ := I.tuple hq
    obtain ⟨u, hu, ru⟩ := rv.get hx
    have hel : e < s.heap.objs.size := Heap.lt_size he
    have hil : it < s.heap.objs.size := by obtain ⟨_, q, _⟩ := hit; exact Heap.lt_size q
    have lt : i < its.toArray.size := by
      have : i < its.length := by
        rcases Nat.lt_or_ge i its.length with q | q
        · exact q
        · rw [List.getElem?_eq_none q] at hu
          cases hu
      simpa using this
    have hD := I.ok.hd hc
    refine wpAny_pyNext_enum_itemD (Draws.tuple (A := X.A.in1) hD it a n2 its.toArray) he ⟨hit, p⟩ lt n1 (by simp; exact ⟨n1, n3⟩) fun y h' tk hy ho st' hT hsz hk => ?_
    have ey : y = u := by
      have q : its.toArray[i]? = some u := by simpa using hu
      exact Option.some.inj (hy.symm.trans q)
    subst ey
    refine ⟨_, rfl, wpAny_letOwnedTupleGo_enum (s := { s with heap := h', toks := tk + 1 }) ho fun h'' he' sb => ?_⟩
    have hT2 : h''.get? s.heap.objs.size = some { cls := .type "tuple", data := .seq #[.int i tk, y] } := (sb.2 _ (Nat.ne_of_gt hel)).trans hT
    have new : ObjOk X.prog X.w (upd H s.heap.objs.size (.tup [.int (i : Nat), x])) h'' s.heap.objs.size (.tup [.int (i : Nat), x]) :=
      ⟨by show 2 ≤ sizeLine; decide, [.int i tk, y], .cons ⟨_, rfl⟩ (.cons ru .nil), ⟨_, hT2, rfl, _, rfl⟩⟩
    have I1 : Inv X pins σ (upd H s.heap.objs.size (.tup [.int (i : Nat), x])) { s with heap := h'', toks := tk + 1 } :=
      I.turnedNew (ch := [e, it]) (fun b ob hb q => (sb.2 b (fun z => hb (by simp [z]))).trans (hk b ob (fun z => hb (by simp [z])) (fun z => hb (by simp [z])) q)) hf (Nat.le_refl _) new
    refine ⟨.ref s.heap.objs.size, _, I1, rfl, ⟨_, x, rfl, I.hok.fresh (Nat.le_refl _), rfl, fun ys hy => by rw [I.tuple_inj hy hq]; exact hx⟩, ⟨⟨y, ?_⟩, st'.1.at fun o q => (sb.2 it n1.symm).trans q⟩, fun b hb => ?_⟩
    · rw [show ((i + 1 : Nat) : Int) = (i : Int) + 1 by omega]
      exact he'
    · have hb' : b < s.heap.objs.size := by
        have e' : b = e ∨ b = it := by simpa using hb
        rcases e' with z | z
        · rw [z]; exact hel
        · rw [z]; exact hil
      rw [upd_ne (Nat.ne_of_lt hb')]
      exact (hf b hb).1
  done := by
    intro X hP hw hK hc i pins s σ H E I hf st hg
    subst hP hw hK
    obtain ⟨⟨old, he⟩, hit⟩ := st
    obtain ⟨xs, hq, hx⟩ := hg
    obtain ⟨its, rv, p, hz⟩ := I.tuple hq
    obtain ⟨f0, f1, f2, f3, f4, f5⟩ := hf it (by simp)
    have le : i = its.toArray.size := by
      have := rv.length
      simp
      omega
    subst le
    exact wpAny_pyNext_enum_endD (Draws.tuple (A := X.A.in1) (I.ok.hd hc) it a n2 its.toArray) he ⟨hit, p⟩ fun h' eb => ⟨rfl, I.turned (t' := s.toks) (fun b o hb q => eb b o hb q) f0 f1 f3 f4 f5⟩
  self := fun A i s Q E st h => by
    obtain ⟨⟨_, he⟩, _⟩ := st
    exact wpAny_pyIter_enum he h
def iEnumT (K : PySem.W.Frag) (ta : TA) : TI := fun σ H R => ta σ H fun vs H1 => ∃ a xs, vs = [.ref a] ∧ SqT K H1 a xs ∧ R (ItE K a) H1
theorem pi_enumT {X : Cx} {e : Expr} {ta : TA} {p pos tpos : Pos} {elts : List Expr} {kk : Nat} (hg : Gl X "enumerate") (hm : X.mg "enumerate" = none) (ha : PA X [e] ta) (hs : starEach [e] X.env = [(false, eval e X.env)] := by rfl) :
    PI X (.Tuple elts kk tpos) (.Call (.Name "enumerate" p) [e] [] pos) (iEnumT X.K ta) := by
  refine ⟨fun pins s σ H R I h => ?_⟩
  refine Call_ (ld_blt I hg hm boot_enumerate (PyProof.Rows.callWith_type1 (thn (ha.run pos pins s σ H _ I h) ?_) hs rfl))
  rintro us s1 ⟨vs, H1, I1, r1, a, xs, ex, hq, q⟩
  subst ex
  cases r1 with
  | cons r rr =>
    cases rr
    cases r
    obtain ⟨its, rv, p', hz⟩ := I1.tuple hq
    obtain ⟨o, g, _⟩ := id p'
    have la : a < s1.heap.objs.size := Heap.lt_size g
    refine enumT (items := its.toArray) p' fun h' he hit hk => wpAny_pyIter_enum he ?_
    have I2 : Inv X pins σ H1 { s1 with heap := h' } := I1.kept (t' := s1.toks) hk
    refine ⟨s1.heap.objs.size + 1, [s1.heap.objs.size + 1, s1.heap.objs.size], _, _, H1, rfl, I2, turnE a (s1.heap.objs.size + 1) s1.heap.objs.size (Nat.succ_ne_self _) (Nat.ne_of_lt la) (Nat.ne_of_gt (Nat.lt_succ_of_lt la)), ⟨⟨.none, he⟩, hit⟩, fun b hb => ?_, q⟩
    have e' : b = s1.heap.objs.size + 1 ∨ b = s1.heap.objs.size := by simpa using hb
    have hle : s1.heap.objs.size ≤ b := by
      rcases e' with z | z
      · rw [z]; exact Nat.le_add_right _ _
      · rw [z]; exact Nat.le_refl _
    exact I1.fpOk hle (I1.hok.fresh hle)
theorem walk_enumT {K : PySem.W.Frag} {a : Addr} {xs : List V} : Walk (ItE K a) xs.length (fun H => SqT K H a xs) (YPair (fun i => some (.int (i : Nat))) (fun i => xs[i]?)) := by
  refine ⟨fun i _ hi q => ⟨xs, xs[i], q, by simp [hi]⟩, fun _ q => ⟨xs, q, rfl⟩, fun i H v H' _ q y => ?_⟩
  obtain ⟨T, x, h1, h2, h3, h4⟩ := y
  exact ⟨T, .int (i : Nat), x, h1, h2, h3, rfl, h4 xs q⟩
end NB

set_option Elab.async false
set_option linter.all false
set_option maxRecDepth 100000
/-! t[::-1] of a tuple; repr of a truth. -/
namespace NB
open PySem PySem.Spec PyProof.Rows L2 HT

section
variable {prog : Program} {w : World} {A : Around} {E : Value → Shared → Prop} {s : Shared}
theorem adjust_back (n : Nat) : Builtin.Slice.sliceAdjust none none (-1) (n : Int) = ((n : Int) - 1, -1) := by
  unfold Builtin.Slice.sliceAdjust
  first
  | rfl
  | simp
theorem places_back (n : Nat) : Builtin.Slice.slicePlaces ((n : Int) - 1) (-1) (-1) = n := by
  unfold Builtin.Slice.slicePlaces
  have h1 : ¬ ((-1 : Int) > 0) := by decide
  simp only [h1, if_false]
  split <;> simp <;> omega
theorem sliceBack {sl : Addr} {vl vu vk : Value} {n : Nat} {Q : Int × Int × Nat → Shared → Prop} (hs : s.heap.IsSliceOf sl vl vu vk) (pl : IsPart vl none) (pu : IsPart vu none) (pk : IsPart vk (some (-1)))
    (h : Q ((n : Int) - 1, -1, n) s) : wpAny (model prog w) A (Builtin.Slice.sliceApplied (.ref sl) (pure (n : Int))) Q E s := by
  obtain ⟨os, hos, hcs, hds⟩ := id hs
  unfold Builtin.Slice.sliceApplied Builtin.Slice.sliceFields
  refine wpAny_bind (wpAny_bind (wpAny_field hos hds (x := vl) rfl (wpAny_bind (wpAny_field hos hds (x := vu) rfl (wpAny_bind (wpAny_field hos hds (x := vk) rfl (wpAny_pure ?_)))))))
  refine wpAny_bind (slicePart_ pk ?_)
  show wpAny _ _ (if ((-1 : Int) == 0) = true then _ else _) _ _ s
  rw [if_neg (by decide)]
  refine wpAny_bind (slicePart_ pl (wpAny_bind (slicePart_ pu (wpAny_bind (wpAny_pure ?_)))))
  show wpAny _ _ (match Builtin.Slice.sliceAdjust none none (-1) (n : Int) with | (lo, hi) => pure (lo, (-1 : Int), Builtin.Slice.slicePlaces lo hi (-1))) _ _ s
  rw [adjust_back n]
  show wpAny _ _ (pure ((n : Int) - 1, (-1 : Int), Builtin.Slice.slicePlaces ((n : Int) - 1) (-1) (-1))) _ _ s
  rw [places_back]
  exact wpAny_pure h
theorem pick_back (xs : Array Value) : ((List.range xs.size).filterMap fun (m : Nat) => xs[(((xs.size : Int) - 1) + (m : Int) * -1).toNat]?).toArray = xs.toList.reverse.toArray := by
  have e : ((List.range xs.size).filterMap fun (m : Nat) => xs[(((xs.size : Int) - 1) + (m : Int) * -1).toNat]?) = ((List.range xs.size).map fun k => xs.size - 1 - k).filterMap (xs[·]?) := by
    rw [List.filterMap_map]
    congr 1
    funext m
    have : (((xs.size : Int) - 1) + (m : Int) * -1).toNat = xs.size - 1 - m := by omega
    rw [this]
    rfl
  rw [e, PySem.W.krv_range, List.filterMap_reverse, PySem.W.krv_all]
theorem getItem_tuple_back {t sl : Addr} {items : Array Value} {vl vu vk : Value} {Q : Value → Shared → Prop} (ht : IsTup s.heap t items) (hs : s.heap.IsSliceOf sl vl vu vk) (pl : IsPart vl none) (pu : IsPart vu none) (pk : IsPart vk (some (-1)))
    (h : Q (.ref s.heap.objs.size) { s with heap := s.heap.push { cls := .type "tuple", data := .seq items.toList.reverse.toArray } })
    (hsz : items.size ≤ sizeLine) : wpAny (model prog w) A (getItem (.ref t) (.ref sl)) Q E s := by
  have htake : sizeOk (.seq items.toList.reverse.toArray) := by
    show items.toList.reverse.toArray.size ≤ sizeLine
    rw [List.size_toArray, List.length_reverse, Array.length_toList]
    exact hsz
  obtain ⟨os, hos, hcs, hds⟩ := id hs
  have hTs : s.TypeIs (.ref sl) "slice" := ⟨os, hos, hcs⟩
  unfold getItem
  try with_reducible refine wpAny_holding ?_
  first | refine wpAny_bind (wpAny_pure ?_) | skip
  refine wpAny_bind (wpAny_sequenceKey ht.typeIs (by decide) ?_)
  refine wpAny_bind (wpAny_callSpecial?_slot (name := Str.ofString "__getitem__") ht.typeIs PyProof.Rows.slot_tuple_getitem
    (wpAny_call_entry PyProof.Rows.slot_tuple_getitem ht.typeIs entry_tuple_getitem ?_ (args_tuple_getitem _ _)))
  show wpAny _ _ (Builtin.Tuple.tupleItemsOf (.ref t) >>= _) _ _ s
  refine wpAny_bind (tupleItemsOf_ ht ?_)
  refine wpAny_bind (wpAny_typeOf hTs ?_)
  rw [if_pos (by decide)]
  refine wpAny_bind (sliceBack hs pl pu pk ?_)
  have hno : ¬ ((((items.size : Int) - 1) == 0 && (-1 : Int) == 1 && items.size == items.size) = true) := by
    intro q
    rw [Bool.and_eq_true, Bool.and_eq_true] at q
    exact absurd q.1.2 (by decide)
  show wpAny _ _ (if (((items.size : Int) - 1) == 0 && (-1 : Int) == 1 && items.size == items.size) = true then _ else _) _ _ s
  rw [if_neg hno, pick_back]
  first
    | exact wpAny_bind (m := Builtin.Tuple.tupleExact _) (wpAny_newObj_type (wpAny_pure ⟨_, rfl, wpAny_pure h⟩) htake)
    | exact wpAny_bind (m := Builtin.Tuple.tupleExact _) (wpAny_newObj_type (wpAny_bind (wpAny_pure (wpAny_pure ⟨_, rfl, wpAny_pure h⟩))) htake)
    | exact wpAny_bind (wpAny_bind (m := Builtin.Tuple.tupleExact _) (wpAny_newObj_type (wpAny_pure (wpAny_pure ⟨_, rfl, wpAny_pure h⟩)) htake))
    | exact wpAny_bind (wpAny_bind (m := Builtin.Tuple.tupleExact _) (wpAny_newObj_type (wpAny_pure ⟨_, rfl, wpAny_pure h⟩) htake))
end

section
variable {X : Cx}
def tRevT (K : PySem.W.Frag) (te : TE) : TE := fun σ H Q => te σ H fun x H1 => ∃ a xs, x = .ref a ∧ SqT K H1 a xs ∧ ∀ p, H1 p = none → Q (.ref p) (upd H1 p (.tup xs.reverse))
theorem pe_revT {e : Expr} {te : TE} {k : Nat} {p1 p2 p3 pos : Pos} (he : PE X e te) : PE X (.Subscript e (.Slice none none (some (.UnaryOp .USub (.Constant (.int 1) k p1) p2)) p3) pos) (tRevT X.K te) := by
  refine ⟨fun pins s σ H Q I h => ?_⟩
  refine Subscript_ (thn (he.run pins s σ H _ I h) fun v s1 ⟨x, H1, I1, r1, q1⟩ => ?_)
  obtain ⟨a, xs, ex, hx, q⟩ := q1
  subst ex
  cases r1
  have hst : PO X (some (.UnaryOp .USub (.Constant (.int 1) k p1) p2)) (tPart (tUn (rU fun i => .int (-i)) (tC (.int 1)))) := po_some (pe_un un_neg pe_int)
  refine wpAny_Slice (thn (po_none.run pins s1 σ H1 (fun o H2 => o = none ∧ H2 = H1) I1 ⟨rfl, rfl⟩) fun vl s2 ⟨l, H2, I2, pl, el, e2⟩ => ?_)
  subst el e2
  refine thn (po_none.run pins s2 σ H2 (fun o H3 => o = none ∧ H3 = H2) I2 ⟨rfl, rfl⟩) fun vu s3 ⟨u, H3, I3, pu, eu, e3⟩ => ?_
  subst eu e3
  refine thn (hst.run pins s3 σ H3 (fun o H4 => o = some (-1) ∧ H4 = H3) I3 ⟨1, rfl, -1, rfl, rfl, rfl⟩) fun vs s4 ⟨o, H4, I4, ps, eo, e4⟩ => ?_
  subst eo e4
  have I5 : Inv X pins σ H4 { s4 with heap := s4.heap.push { cls := .type "slice", data := .fields #[vl, vu, vs] } } := I4.kept (t' := s4.toks) fun b ob q => Heap.get?_push_of_some _ q
  obtain ⟨its, r, ht, hz⟩ := I5.tuple hx
  have hlen := r.length
  show wpAny (model X.prog X.w) X.A (subscriptTail e (.Slice none none (some (.UnaryOp .USub (.Constant (.int 1) k p1) p2)) p3) (.ref a) (.ref s4.heap.objs.size)) (EP X pins σ Q) X.xe { s4 with heap := s4.heap.push { cls := .type "slice", data := .fields #[vl, vu, vs] } }
  refine tail_any (ops := [.ref a, .ref s4.heap.objs.size]) ht.typeIs (PyProof.Rows.slot_tuple_getitem.lookup) ?_ (by with_unfolding_all rfl)
  refine getItem_tuple_back ht (Heap.IsSliceOf.new _ vl vu vs) pl pu ps ?_ (by rw [List.size_toArray]; omega)
  refine ⟨.ref _, _, I5.laid (t' := s4.toks) (o := .tup xs.reverse) (fun b ob q => Heap.get?_push_of_some _ q) (Nat.le_refl _) ?_, rfl, q _ (I5.hok.fresh (Nat.le_refl _))⟩
  exact ⟨by rw [List.length_reverse]; exact hz, _, r.reverse, IsTup.new _ _⟩

/-- how a truth is written -/
def shB (b : Bool) : Str := if b then "True" else "False"
/-- repr(b), b a truth -/
theorem call_reprB : CallR X (.builtin "repr") (fun xs H Q => ∃ b, xs = [.bl b] ∧ Q (.str (shB b)) H) := by
  intro pins s σ H xs us Q I r h
  obtain ⟨b, rfl, q⟩ := h
  obtain ⟨u, rfl, r1⟩ := vals1 r
  cases r1
  exact P.repr_of_bool ⟨.str (shB b), H, I.tok _, ⟨_, rfl⟩, q⟩
end
end NB

set_option Elab.async false
set_option linter.all false
set_option maxRecDepth 100000
namespace NB
open PySem PySem.Spec PyProof.Rows L2
/-- data that repr writes: at most w by weight, nested at most n deep -/
structure Small (d : PyData) (w n : Nat) : Prop where
  sh : d.showable = true
  nd : d.hasDict = false
  dp : d.depth ≤ n
  lv : d.leavesShort 100 = true
  wt : d.weight ≤ w
structure SmallAll (ds : List PyData) (w n : Nat) : Prop where
  sh : PyData.showableAll ds = true
  nd : PyData.hasDictAll ds = false
  dp : PyData.depthAll ds ≤ n
  lv : PyData.leavesShortAll 100 ds = true
  wt : PyData.weightAll ds ≤ w
theorem Small.int {i : Int} (h : i.natAbs < 10 ^ 90) : Small (.int i) 310 0 := by
  have lg : i.natAbs.log2 < 300 := by
    have h2 : i.natAbs < 2 ^ 300 := Nat.lt_of_lt_of_le h (by decide)
    by_cases e : i.natAbs = 0
    · rw [e]; decide
    · exact (Nat.log2_lt e).mpr h2
  refine ⟨?_, rfl, Nat.le_refl _, ?_, ?_⟩
  · simp only [PyData.showable, decide_eq_true_eq]
    omega
  · simp only [PyData.leavesShort, decide_eq_true_eq]
    have e := int_text_length_le10 (k := 90) (by decide) h
    show (Str.ofString (toString i)).length ≤ 100
    rw [PySem.ofString_length]
    omega
  · show (if i == 0 then 0 else i.natAbs.log2 + 1) ≤ 310
    split <;> omega
theorem Small.bool (b : Bool) : Small (.bool b) 0 0 := ⟨rfl, rfl, Nat.le_refl _, rfl, Nat.le_refl _⟩
theorem Small.none : Small .none 0 0 := ⟨rfl, rfl, Nat.le_refl _, rfl, Nat.le_refl _⟩
theorem SmallAll.nil : SmallAll [] 0 0 := ⟨rfl, rfl, Nat.le_refl _, rfl, Nat.le_refl _⟩
theorem SmallAll.cons {d : PyData} {ds : List PyData} {w v n m : Nat} (h : Small d w n) (h' : SmallAll ds v m) : SmallAll (d :: ds) (w + 1 + v) (max n m) := by
  obtain ⟨a1, a2, a3, a4, a5⟩ := h
  obtain ⟨b1, b2, b3, b4, b5⟩ := h'
  refine ⟨?_, ?_, ?_, ?_, ?_⟩
  · simp only [PyData.showableAll, a1, b1, Bool.and_self]
  · simp only [PyData.hasDictAll, a2, b2, Bool.or_self]
  · simp only [PyData.depthAll]
    omega
  · simp only [PyData.leavesShortAll, a4, b4, Bool.and_self]
  · simp only [PyData.weightAll]
    omega
theorem Small.list {ds : List PyData} {w n : Nat} (h : SmallAll ds w n) : Small (.list ds) w (n + 1) := by
  obtain ⟨a1, a2, a3, a4, a5⟩ := h
  refine ⟨?_, ?_, ?_, ?_, ?_⟩
  · simpa only [PyData.showable] using a1
  · simpa only [PyData.hasDict] using a2
  · simp only [PyData.depth]
    omega
  · simpa only [PyData.leavesShort] using a4
  · simpa only [PyData.weight] using a5
theorem Small.tuple {ds : List PyData} {w n : Nat} (h : SmallAll ds w n) : Small (.tuple ds) w (n + 1) := by
  obtain ⟨a1, a2, a3, a4, a5⟩ := h
  refine ⟨?_, ?_, ?_, ?_, ?_⟩
  · simpa only [PyData.showable] using a1
  · simpa only [PyData.hasDict] using a2
  · simp only [PyData.depth]
    omega
  · simpa only [PyData.leavesShort] using a4
  · simpa only [PyData.weight] using a5
theorem SmallAll.ints : ∀ {xs : List Int}, (∀ x ∈ xs, x.natAbs < 10 ^ 90) → SmallAll (xs.map PyData.int) (311 * xs.length) 0
  | [], _ => .nil
  | x :: xs, h => by
    have c := SmallAll.cons (Small.int (h x List.mem_cons_self)) (SmallAll.ints fun y hy => h y (List.mem_cons_of_mem _ hy))
    refine ⟨c.sh, c.nd, c.dp, c.lv, Nat.le_trans c.wt ?_⟩
    rw [List.length_cons]
    omega
theorem Small.ok {d : PyData} {w n : Nat} (h : Small d w n) (hw : w ≤ 150000) (hn : n ≤ 60) : Showable d := by
  refine ⟨h.sh, h.nd, Nat.le_trans h.dp hn, ?_⟩
  have e := PyData.shown_le 100 (by decide) d h.lv
  have := h.wt
  rw [sizeLine_eq]
  have : (100 + 2) * d.weight ≤ (100 + 2) * 150000 := Nat.mul_le_mul_left _ (Nat.le_trans h.wt hw)
  omega
/-- what Dp reads of a tuple of ints -/
theorem dp_ints {K : PySem.W.Frag} {H : Hp} : ∀ xs : List Int, DpAll K H (xs.map V.int) (xs.map PyData.int)
  | [] => .nil
  | x :: xs => .cons (.int x) (dp_ints xs)
theorem dp_tup {K : PySem.W.Frag} {H : Hp} {p : Addr} {xs : List Int} (h : SqT K H p (xs.map V.int)) : Dp K H (.ref p) (.tuple (xs.map PyData.int)) := .tup h (dp_ints xs)
end NB

set_option Elab.async false
set_option linter.all false
set_option maxRecDepth 100000
set_option maxHeartbeats 1000000
/-! Data of any kind: None, truths, whole numbers, texts, lists, tuples, dicts. -/
namespace NB
open PySem PySem.Spec PyProof.Rows L2

def kD : Key → PyData
  | .inl i => .int i
  | .inr x => .str x
mutual
/-- the value v is the data d; its lists stand apart from n -/
inductive Da (n : Addr) (H : Hp) : V → PyData → Prop
  | non : Da n H .non .none
  | bl (b : Bool) : Da n H (.bl b) (.bool b)
  | int (i : Int) : Da n H (.int i) (.int i)
  | str (x : Str) : Da n H (.str x) (.str x)
  | lst {a : Addr} {xs : List V} {ds : List PyData} : H a = some (.lst xs) → a ≠ sysModules → a ≠ n → DaAll n H xs ds → Da n H (.ref a) (.list ds)
  | tup {a : Addr} {xs : List V} {ds : List PyData} : H a = some (.tup xs) → DaAll n H xs ds → Da n H (.ref a) (.tuple ds)
  | dct {a : Addr} {kvs : List (Key × V)} {ds : List (PyData × PyData)} : H a = some (.dK kvs) → DaKv n H kvs ds → Da n H (.ref a) (.dict ds)
inductive DaAll (n : Addr) (H : Hp) : List V → List PyData → Prop
  | nil : DaAll n H [] []
  | cons {v : V} {vs : List V} {d : PyData} {ds : List PyData} : Da n H v d → DaAll n H vs ds → DaAll n H (v :: vs) (d :: ds)
inductive DaKv (n : Addr) (H : Hp) : List (Key × V) → List (PyData × PyData) → Prop
  | nil : DaKv n H [] []
  | cons {k : Key} {v : V} {kvs : List (Key × V)} {d : PyData} {ds : List (PyData × PyData)} : Da n H v d → DaKv n H kvs ds → DaKv n H ((k, v) :: kvs) ((kD k, d) :: ds)
end
mutual
theorem Da.keep {n : Addr} {H H' : Hp} (hn : ∃ zs, H n = some (.lst zs)) (k : ∀ b o, b ≠ n → H b = some o → H' b = some o) : ∀ (d : PyData) (v : V), Da n H v d → Da n H' v d
  | .none, _, h => by cases h; exact .non
  | .bool b, _, h => by cases h; exact .bl b
  | .int i, _, h => by cases h; exact .int i
  | .str x, _, h => by cases h; exact .str x
  | .list ds, _, h => by
    cases h with
    | lst e n1 n2 ha => exact .lst (k _ _ n2 e) n1 n2 (DaAll.keep hn k ds _ ha)
  | .tuple ds, _, h => by
    cases h with
    | tup e ha =>
      refine .tup (k _ _ (fun z => ?_) e) (DaAll.keep hn k ds _ ha)
      obtain ⟨zs, q⟩ := hn
      rw [z, q] at e
      cases e
  | .dict ds, _, h => by
    cases h with
    | dct e ha =>
      refine .dct (k _ _ (fun z => ?_) e) (DaKv.keep hn k ds _ ha)
      obtain ⟨zs, q⟩ := hn
      rw [z, q] at e
      cases e
theorem DaAll.keep {n : Addr} {H H' : Hp} (hn : ∃ zs, H n = some (.lst zs)) (k : ∀ b o, b ≠ n → H b = some o → H' b = some o) : ∀ (ds : List PyData) (vs : List V), DaAll n H vs ds → DaAll n H' vs ds
  | [], _, h => by cases h; exact .nil
  | d :: ds, _, h => by
    cases h with
    | cons h1 h2 => exact .cons (Da.keep hn k d _ h1) (DaAll.keep hn k ds _ h2)
theorem DaKv.keep {n : Addr} {H H' : Hp} (hn : ∃ zs, H n = some (.lst zs)) (k : ∀ b o, b ≠ n → H b = some o → H' b = some o) : ∀ (ds : List (PyData × PyData)) (kvs : List (Key × V)), DaKv n H kvs ds → DaKv n H' kvs ds
  | [], _, h => by cases h; exact .nil
  | (_, d) :: ds, _, h => by
    cases h with
    | cons h1 h2 => exact .cons (Da.keep hn k d _ h1) (DaKv.keep hn k ds _ h2)
end
mutual
theorem Da.sameD {n : Addr} {H H' : Hp} (k : Same H H') : ∀ (d : PyData) (v : V), Da n H v d → Da n H' v d
  | .none, _, h => by cases h; exact .non
  | .bool b, _, h => by cases h; exact .bl b
  | .int i, _, h => by cases h; exact .int i
  | .str x, _, h => by cases h; exact .str x
  | .list ds, _, h => by
    cases h with
    | lst e n1 n2 ha => exact .lst (k _ _ e) n1 n2 (DaAll.sameD k ds _ ha)
  | .tuple ds, _, h => by
    cases h with
    | tup e ha => exact .tup (k _ _ e) (DaAll.sameD k ds _ ha)
  | .dict ds, _, h => by
    cases h with
    | dct e ha => exact .dct (k _ _ e) (DaKv.sameD k ds _ ha)
theorem DaAll.sameD {n : Addr} {H H' : Hp} (k : Same H H') : ∀ (ds : List PyData) (vs : List V), DaAll n H vs ds → DaAll n H' vs ds
  | [], _, h => by cases h; exact .nil
  | d :: ds, _, h => by
    cases h with
    | cons h1 h2 => exact .cons (Da.sameD k d _ h1) (DaAll.sameD k ds _ h2)
theorem DaKv.sameD {n : Addr} {H H' : Hp} (k : Same H H') : ∀ (ds : List (PyData × PyData)) (kvs : List (Key × V)), DaKv n H kvs ds → DaKv n H' kvs ds
  | [], _, h => by cases h; exact .nil
  | (_, d) :: ds, _, h => by
    cases h with
    | cons h1 h2 => exact .cons (Da.sameD k d _ h1) (DaKv.sameD k ds _ h2)
end
theorem Da.same {n : Addr} {H H' : Hp} {v : V} {d : PyData} (h : Da n H v d) (k : Same H H') : Da n H' v d := Da.sameD k d v h
theorem DaAll.same {n : Addr} {H H' : Hp} {vs : List V} {ds : List PyData} (h : DaAll n H vs ds) (k : Same H H') : DaAll n H' vs ds := DaAll.sameD k ds vs h
theorem DaAll.len {n : Addr} {H : Hp} {vs : List V} {ds : List PyData} (h : DaAll n H vs ds) : vs.length = ds.length := by
  induction ds generalizing vs with
  | nil => cases h; rfl
  | cons d ds ih =>
    cases h with
    | cons h1 h2 => rw [List.length_cons, List.length_cons, ih h2]
theorem DaAll.get {n : Addr} {H : Hp} {vs : List V} {ds : List PyData} (h : DaAll n H vs ds) (i : Nat) (v : V) (e : vs[i]? = some v) : ∃ d, ds[i]? = some d ∧ Da n H v d := by
  induction ds generalizing vs i with
  | nil => cases h; simp at e
  | cons d ds ih =>
    cases h with
    | cons h1 h2 =>
      cases i with
      | zero => exact ⟨d, rfl, by cases e; exact h1⟩
      | succ i => exact ih h2 i e
theorem DaAll.mem {n : Addr} {H : Hp} {vs : List V} {ds : List PyData} (h : DaAll n H vs ds) {v : V} (hv : v ∈ vs) : ∃ d ∈ ds, Da n H v d := by
  obtain ⟨i, hi, e⟩ := List.getElem_of_mem hv
  obtain ⟨d, e1, e2⟩ := h.get i v (by rw [List.getElem?_eq_getElem hi, e])
  exact ⟨d, List.mem_of_getElem? e1, e2⟩
theorem DaAll.app {n : Addr} {H : Hp} {vs us : List V} {ds es : List PyData} (h : DaAll n H vs ds) (h' : DaAll n H us es) : DaAll n H (vs ++ us) (ds ++ es) := by
  induction ds generalizing vs with
  | nil => cases h; exact h'
  | cons d ds ih =>
    cases h with
    | cons h1 h2 => exact .cons h1 (ih h2)
theorem DaAll.take {n : Addr} {H : Hp} {vs : List V} {ds : List PyData} (h : DaAll n H vs ds) (i : Nat) : DaAll n H (vs.take i) (ds.take i) := by
  induction ds generalizing vs i with
  | nil => cases h; simp only [List.take_nil]; exact .nil
  | cons d ds ih =>
    cases h with
    | cons h1 h2 =>
      cases i with
      | zero => simp only [List.take_zero]; exact .nil
      | succ i => simp only [List.take_succ_cons]; exact .cons h1 (ih h2 i)
theorem DaAll.drop {n : Addr} {H : Hp} {vs : List V} {ds : List PyData} (h : DaAll n H vs ds) (i : Nat) : DaAll n H (vs.drop i) (ds.drop i) := by
  induction ds generalizing vs i with
  | nil => cases h; simp only [List.drop_nil]; exact .nil
  | cons d ds ih =>
    cases h with
    | cons h1 h2 =>
      cases i with
      | zero => simp only [List.drop_zero]; exact .cons h1 h2
      | succ i => simp only [List.drop_succ_cons]; exact ih h2 i
theorem DaAll.ints {n : Addr} {H : Hp} : ∀ xs : List Int, DaAll n H (xs.map V.int) (xs.map PyData.int)
  | [] => .nil
  | x :: xs => .cons (.int x) (DaAll.ints xs)
/-- of which kind it is -/
def tyD : PyData → String
  | .none => "NoneType"
  | .bool _ => "bool"
  | .int _ => "int"
  | .str _ => "str"
  | .list _ => "list"
  | .tuple _ => "tuple"
  | .dict _ => "dict"
theorem Da.ty {K : PySem.W.Frag} {n : Addr} {H : Hp} {v : V} {d : PyData} (h : Da n H v d) : TyX K H v (.type (tyD d)) := by
  cases h with
  | non => exact .base .non
  | bl b => exact .base (.bl b)
  | int i => exact .base (.int i)
  | str x => exact .base (.str x)
  | lst e _ _ _ => exact .base (.lst e)
  | tup e _ => exact .base (.tup e)
  | dct e _ => exact .base (.dK e)
def isTupD : PyData → Bool
  | .tuple _ => true
  | _ => false
def isIntD : PyData → Bool
  | .int _ => true
  | .bool _ => true
  | _ => false
def isBoolD : PyData → Bool
  | .bool _ => true
  | _ => false
def isStrD : PyData → Bool
  | .str _ => true
  | _ => false
theorem kit_tup (d : PyData) : kitB (tyD d) "tuple" = some (isTupD d) := by cases d <;> (simp only [tyD, isTupD, isIntD, isBoolD, isStrD]; decide +kernel)
theorem kit_int (d : PyData) : kitB (tyD d) "int" = some (isIntD d) := by cases d <;> (simp only [tyD, isTupD, isIntD, isBoolD, isStrD]; decide +kernel)
theorem kit_bool (d : PyData) : kitB (tyD d) "bool" = some (isBoolD d) := by cases d <;> (simp only [tyD, isTupD, isIntD, isBoolD, isStrD]; decide +kernel)
theorem kit_str (d : PyData) : kitB (tyD d) "str" = some (isStrD d) := by cases d <;> (simp only [tyD, isTupD, isIntD, isBoolD, isStrD]; decide +kernel)
section
variable {X : Cx} {pins : List (Addr × Obj)} {σ : L2.St} {H : Hp} {s : Shared}
theorem key_reads {h : Heap} {k : Key} {u : Value} (e : keyIs k u = true) : Reads h u (kD k) [] := by
  rcases keyIs_shape e with ⟨i, t, rfl, rfl⟩ | ⟨x, t, rfl, rfl⟩
  · exact .int i t
  · exact .str x t
mutual
theorem Da.reads {n : Addr} (I : Inv X pins σ H s) : ∀ (d : PyData) (v : V) (u : Value), Da n H v d → RelV v u → ∃ as, Reads s.heap u d as ∧ sysModules ∉ as
  | .none, _, _, h, r => by
    cases h
    cases r
    exact ⟨_, Reads.none, List.not_mem_nil⟩
  | .bool b, _, _, h, r => by
    cases h
    cases r
    exact ⟨_, Reads.bool b, List.not_mem_nil⟩
  | .int i, _, _, h, r => by
    cases h
    obtain ⟨t, rfl⟩ := r
    exact ⟨_, Reads.int i t, List.not_mem_nil⟩
  | .str x, _, _, h, r => by
    cases h
    obtain ⟨t, rfl⟩ := r
    exact ⟨_, Reads.str x t, List.not_mem_nil⟩
  | .list ds, _, _, h, r => by
    cases h with
    | lst e n1 n2 ha =>
      cases r
      obtain ⟨its, rv, ⟨o, m, ho, hc, _, hd⟩, _⟩ := I.list (.inl (.inl e))
      obtain ⟨as, hr, hm⟩ := Da.readsAll I ds _ its ha rv
      refine ⟨_, Reads.list ho hc hd hr, fun z => ?_⟩
      rcases List.mem_cons.mp z with q | q
      · exact n1 q.symm
      · exact hm q
  | .tuple ds, _, _, h, r => by
    cases h with
    | tup e ha =>
      cases r
      obtain ⟨its, rv, ⟨o, ho, hc, m, hd⟩, _⟩ := I.tuple (.inl (.inl e))
      obtain ⟨as, hr, hm⟩ := Da.readsAll I ds _ its ha rv
      exact ⟨_, Reads.tuple ho hc hd hr, hm⟩
  | .dict ds, _, _, h, r => by
    cases h with
    | dct e ha =>
      rename_i a kvs
      cases r
      obtain ⟨_, hsys, vs, rel, o, es, ep, h1, h2, h3, _, pr, _⟩ := (show ObjOk X.prog X.w H s.heap a (.dK kvs) from I.hok a _ e)
      obtain ⟨as, bs, q1, m1, q2, m2⟩ := Da.readsKv I ds kvs vs es.toList ha rel pr
      refine ⟨_, Reads.dict h1 h2.1 h3 q1 q2, fun z => ?_⟩
      rw [List.cons_append] at z
      rcases List.mem_cons.mp z with q | q
      · exact beq_eq_false_iff_ne.mp hsys q.symm
      · rcases List.mem_append.mp q with q | q
        · exact m1 q
        · exact m2 q
theorem Da.readsAll {n : Addr} (I : Inv X pins σ H s) : ∀ (ds : List PyData) (vs : List V) (us : List Value), DaAll n H vs ds → Vals vs us → ∃ as, ReadsAll s.heap us ds as ∧ sysModules ∉ as
  | [], _, _, h, r => by
    cases h
    cases r
    exact ⟨_, ReadsAll.nil, List.not_mem_nil⟩
  | d :: ds, _, _, h, r => by
    cases h with
    | cons h1 h2 =>
      cases r with
      | cons r1 r2 =>
        obtain ⟨as, q1, m1⟩ := Da.reads I d _ _ h1 r1
        obtain ⟨bs, q2, m2⟩ := Da.readsAll I ds _ _ h2 r2
        refine ⟨_, ReadsAll.cons q1 q2, fun z => ?_⟩
        rcases List.mem_append.mp z with q | q
        · exact m1 q
        · exact m2 q
theorem Da.readsKv {n : Addr} (I : Inv X pins σ H s) : ∀ (ds : List (PyData × PyData)) (kvs : List (Key × V)) (vs : List (Key × Value)) (es : List DictEntry), DaKv n H kvs ds → KV kvs vs → Pairs (mixKind X.prog X.w) es vs →
    ∃ as bs, ReadsAll s.heap (es.map (·.key)) (ds.map (·.1)) as ∧ sysModules ∉ as ∧ ReadsAll s.heap (es.map (·.val)) (ds.map (·.2)) bs ∧ sysModules ∉ bs
  | [], _, _, _, h, r, p => by
    cases h
    cases r
    cases p
    exact ⟨_, _, ReadsAll.nil, List.not_mem_nil, ReadsAll.nil, List.not_mem_nil⟩
  | (_, d) :: ds, _, _, _, h, r, p => by
    cases h with
    | cons h1 h2 =>
      cases r with
      | cons r1 r2 =>
        cases p with
        | cons p1 p2 p3 =>
          obtain ⟨as, bs, q1, m1, q2, m2⟩ := Da.readsKv I ds _ _ _ h2 r2 p3
          obtain ⟨cs, q3, m3⟩ := Da.reads I d _ _ h1 r1.2
          refine ⟨_, _, ReadsAll.cons (key_reads (by have e := r1.1; simp only at e; show keyIs _ _ = true; rw [e]; exact p1)) q1, ?_, ReadsAll.cons (by show Reads s.heap (DictEntry.val _) d _; rw [p2]; exact q3) q2, fun z => ?_⟩
          · rw [List.nil_append]
            exact m1
          · rcases List.mem_append.mp z with q | q
            · exact m3 q
            · exact m2 q
end
end
/-- data that repr writes: at most w by weight, nested at most k deep -/
structure Sm (d : PyData) (w k : Nat) : Prop where
  sh : d.showable = true
  dp : d.depth ≤ k
  lv : d.leavesShort 100 = true
  wt : d.weight ≤ w
theorem Sm.mono {d : PyData} {w v k m : Nat} (h : Sm d w k) (hw : w ≤ v) (hk : k ≤ m) : Sm d v m := ⟨h.sh, Nat.le_trans h.dp hk, h.lv, Nat.le_trans h.wt hw⟩
/-- each of them -/
def SmE (ds : List PyData) (k : Nat) : Prop := ∀ d ∈ ds, d.showable = true ∧ d.depth ≤ k ∧ d.leavesShort 100 = true
theorem smE_iff : ∀ (ds : List PyData) (k : Nat), SmE ds k ↔ PyData.showableAll ds = true ∧ PyData.depthAll ds ≤ k ∧ PyData.leavesShortAll 100 ds = true
  | [], k => by
    refine ⟨fun _ => ⟨rfl, Nat.zero_le _, rfl⟩, fun _ d h => absurd h List.not_mem_nil⟩
  | d :: ds, k => by
    have ih := smE_iff ds k
    constructor
    · intro h
      have h1 := h d List.mem_cons_self
      have h2 := ih.mp fun e he => h e (List.mem_cons_of_mem _ he)
      refine ⟨?_, ?_, ?_⟩
      · simp only [PyData.showableAll, h1.1, h2.1, Bool.and_self]
      · simp only [PyData.depthAll]
        omega
      · simp only [PyData.leavesShortAll, h1.2.2, h2.2.2, Bool.and_self]
    · rintro ⟨h1, h2, h3⟩ e he
      simp only [PyData.showableAll, Bool.and_eq_true] at h1
      simp only [PyData.depthAll] at h2
      simp only [PyData.leavesShortAll, Bool.and_eq_true] at h3
      rcases List.mem_cons.mp he with rfl | he
      · exact ⟨h1.1, by omega, h3.1⟩
      · exact ih.mpr ⟨h1.2, by omega, h3.2⟩ e he
theorem smE_iff_depth : ∀ (ds : List PyData) (k : Nat), PyData.depthAll ds ≤ k ↔ ∀ d ∈ ds, d.depth ≤ k
  | [], k => ⟨fun _ d h => absurd h List.not_mem_nil, fun _ => Nat.zero_le _⟩
  | d :: ds, k => by
    have ih := smE_iff_depth ds k
    simp only [PyData.depthAll]
    constructor
    · intro h e he
      rcases List.mem_cons.mp he with rfl | he
      · omega
      · exact ih.mp (by omega) e he
    · intro h
      have h1 := h d List.mem_cons_self
      have h2 := ih.mpr fun e he => h e (List.mem_cons_of_mem _ he)
      omega
theorem wt_app : ∀ xs ys : List PyData, PyData.weightAll (xs ++ ys) = PyData.weightAll xs + PyData.weightAll ys
  | [], ys => by simp [PyData.weightAll]
  | x :: xs, ys => by
    rw [List.cons_append]
    simp only [PyData.weightAll, wt_app xs ys]
    omega
theorem wt_len : ∀ xs : List PyData, xs.length ≤ PyData.weightAll xs
  | [] => by simp [PyData.weightAll]
  | x :: xs => by
    have := wt_len xs
    simp only [PyData.weightAll, List.length_cons]
    omega
theorem wt_mem : ∀ {xs : List PyData} {d : PyData}, d ∈ xs → d.weight + 1 ≤ PyData.weightAll xs
  | [], d, h => absurd h List.not_mem_nil
  | x :: xs, d, h => by
    simp only [PyData.weightAll]
    rcases List.mem_cons.mp h with rfl | h
    · omega
    · have := wt_mem h
      omega
theorem Sm.tup {ds : List PyData} {w k : Nat} (h : SmE ds k) (hw : PyData.weightAll ds ≤ w) : Sm (.tuple ds) w (k + 1) := by
  obtain ⟨a, b, c⟩ := (smE_iff ds k).mp h
  refine ⟨?_, ?_, ?_, ?_⟩
  · simpa only [PyData.showable] using a
  · simp only [PyData.depth]
    omega
  · simpa only [PyData.leavesShort] using c
  · simpa only [PyData.weight] using hw
theorem Sm.lst {ds : List PyData} {w k : Nat} (h : SmE ds k) (hw : PyData.weightAll ds ≤ w) : Sm (.list ds) w (k + 1) := by
  obtain ⟨a, b, c⟩ := (smE_iff ds k).mp h
  refine ⟨?_, ?_, ?_, ?_⟩
  · simpa only [PyData.showable] using a
  · simp only [PyData.depth]
    omega
  · simpa only [PyData.leavesShort] using c
  · simpa only [PyData.weight] using hw
theorem Sm.of_tup {ds : List PyData} {w k : Nat} (h : Sm (.tuple ds) w k) : ∃ j, k = j + 1 ∧ SmE ds j ∧ PyData.weightAll ds ≤ w := by
  obtain ⟨a, b, c, e⟩ := h
  simp only [PyData.showable] at a
  simp only [PyData.depth] at b
  simp only [PyData.leavesShort] at c
  simp only [PyData.weight] at e
  refine ⟨k - 1, by omega, (smE_iff ds _).mpr ⟨a, by omega, c⟩, e⟩
theorem Sm.int {i : Int} (h : i.natAbs < 10 ^ 90) : Sm (.int i) 310 0 := by
  have s := Small.int h
  exact ⟨s.sh, s.dp, s.lv, s.wt⟩
theorem Sm.bool (b : Bool) : Sm (.bool b) 0 0 := ⟨rfl, Nat.le_refl _, rfl, Nat.le_refl _⟩
theorem Sm.none : Sm .none 0 0 := ⟨rfl, Nat.le_refl _, rfl, Nat.le_refl _⟩
theorem Sm.e {d : PyData} {w k : Nat} (h : Sm d w k) : d.showable = true ∧ d.depth ≤ k ∧ d.leavesShort 100 = true := ⟨h.sh, h.dp, h.lv⟩
theorem Sm.dict0 : Sm (.dict []) 0 1 := ⟨rfl, by decide, rfl, Nat.le_refl _⟩
theorem Sm.dict1 {x : Str} {d : PyData} {w v k : Nat} (hx : Sm (.str x) v k) (h : Sm d w k) : Sm (.dict [(.str x, d)]) (v + w + 2) (k + 1) := by
  have a := hx.wt
  have b := h.wt
  have c := hx.dp
  have e := h.dp
  refine ⟨?_, ?_, ?_, ?_⟩
  · simp only [PyData.showable, PyData.showableKv, h.sh, Bool.and_self]
  · simp only [PyData.depth, PyData.depthKv]
    omega
  · have e1 := hx.lv
    simp only [PyData.leavesShort, PyData.leavesShortKv] at e1 ⊢
    rw [e1, h.lv]
    rfl
  · simp only [PyData.weight, PyData.weightKv] at a ⊢
    omega
theorem Sm.long {d : PyData} {w k : Nat} (h : Sm d w k) (hw : w ≤ 150000) : d.shown.length ≤ sizeLine := by
  have e := PyData.shown_le 100 (by decide) d h.lv
  have := h.wt
  rw [sizeLine_eq]
  have : (100 + 2) * d.weight ≤ (100 + 2) * 150000 := Nat.mul_le_mul_left _ (Nat.le_trans h.wt hw)
  omega
section
variable {X : Cx}
/-- isinstance(x, T), x data -/
theorem call_isiD : CallR X (.builtin "isinstance") (fun xs H Q => ∃ n v d T b, xs = [v, .ty T] ∧ Da n H v d ∧ kitB (tyD d) T = some b ∧ Q (.bl b) H) := by
  intro pins s σ H xs us Q I r h
  obtain ⟨n, v, d, T, b, rfl, hd, hk, q⟩ := h
  exact call_isi pins s σ H _ us Q I r ⟨v, .ty T, _, _, b, rfl, .ty T, hd.ty, kit_ty hk, q⟩
/-- repr(x), x data -/
theorem call_reprA (hG : X.A.guards = some []) (hu : X.A.units + 64 < cLine) : CallR X (.builtin "repr") (fun xs H Q => ∃ n v d w k, xs = [v] ∧ Da n H v d ∧ Sm d w k ∧ w ≤ 150000 ∧ k ≤ 60 ∧ Q (.str d.shown) H) := by
  intro pins s σ H xs us Q I r h
  obtain ⟨n, v, d, w, k, rfl, hd, S, hw, hk, q⟩ := h
  obtain ⟨u, rfl, ru⟩ := vals1 r
  have hz := S.long hw
  have hsh := S.sh
  cases v with
  | ref a =>
    obtain ⟨as, rd, nm⟩ := Da.reads I d _ u hd ru
    cases ru
    have hn := S.dp
    exact repr_of_reads' rd S.sh (fun _ => nm) hG (by omega) (fun _ _ z => z) (fun h' u tk hk => ⟨.str _, H, I.kept hk, ⟨_, rfl⟩, q⟩) hz
  | non =>
    cases hd
    cases ru
    exact P.repr_of_none ⟨.str "None", H, I.tok _, ⟨_, rfl⟩, q⟩
  | bl b =>
    cases hd
    cases ru
    exact P.repr_of_bool ⟨.str (if b then "True" else "False"), H, I.tok _, ⟨_, rfl⟩, q⟩
  | int i =>
    cases hd
    obtain ⟨t, rfl⟩ := ru
    simp only [PyData.showable, decide_eq_true_eq] at hsh
    exact P.repr_of_int hsh ⟨.str (toString i), H, I.tok _, ⟨_, rfl⟩, q⟩
  | str x =>
    cases hd
    obtain ⟨t, rfl⟩ := ru
    exact P.repr_of_str ⟨.str (reprText x), H, I.tok _, ⟨_, rfl⟩, q⟩ hz
  | _ => cases hd
/-- t == (), t any tuple -/
theorem op_eq0 (hu : X.A.units < cLine) : OpR X (compareOp .Eq) (fun x y H Q => ∃ a b xs, x = .ref a ∧ y = .ref b ∧ SqT X.K H a xs ∧ SqT X.K H b [] ∧ Q (.bl xs.isEmpty) H) := by
  intro pins s σ H x y v u Q I rx ry h
  obtain ⟨a, b, xs, rfl, rfl, ha, hb, q⟩ := h
  cases rx
  cases ry
  obtain ⟨i1, r1, p1, _⟩ := I.tuple ha
  obtain ⟨i2, r2, p2, _⟩ := I.tuple hb
  cases r2
  refine SeqAt.eq_tupleAt (e := fun _ => true) p1 p2 hu (fun j h1 h2 => absurd h2 (by simp)) ?_
  refine ⟨.bl xs.isEmpty, H, I, ?_, q⟩
  have e := r1.length
  cases xs with
  | nil =>
    cases r1
    rfl
  | cons z zs =>
    cases r1
    simp [L2.RelV]
/-- x is y, x is not y, of truths -/
theorem op_isB : OpR X (compareOp .Is) (fun x y H Q => ∃ a b, x = .bl a ∧ y = .bl b ∧ Q (.bl (a == b)) H) := by
  intro pins s σ H x y v u Q I rx ry h
  obtain ⟨a, b, rfl, rfl, q⟩ := h
  cases rx
  cases ry
  exact wpAny_pure ⟨.bl (a == b), H, I, by cases a <;> cases b <;> rfl, q⟩
theorem op_isnotB : OpR X (compareOp .IsNot) (fun x y H Q => ∃ a b, x = .bl a ∧ y = .bl b ∧ Q (.bl (!(a == b))) H) := by
  intro pins s σ H x y v u Q I rx ry h
  obtain ⟨a, b, rfl, rfl, q⟩ := h
  cases rx
  cases ry
  exact wpAny_pure ⟨.bl (!(a == b)), H, I, by cases a <;> cases b <;> rfl, q⟩
/-- t != (), t any tuple -/
theorem op_ne0 (hu : X.A.units < cLine) : OpR X (compareOp .NotEq) (fun x y H Q => ∃ a b xs, x = .ref a ∧ y = .ref b ∧ SqT X.K H a xs ∧ SqT X.K H b [] ∧ Q (.bl (!xs.isEmpty)) H) := by
  intro pins s σ H x y v u Q I rx ry h
  obtain ⟨a, b, xs, rfl, rfl, ha, hb, q⟩ := h
  cases rx
  cases ry
  obtain ⟨i1, r1, p1, _⟩ := I.tuple ha
  obtain ⟨i2, r2, p2, _⟩ := I.tuple hb
  cases r2
  refine SeqAt.RcNeAt.tuples (e := fun _ => true) p1 p2 hu (fun j h1 h2 => absurd h2 (by simp)) X.prog X.w X.xe _ ?_
  refine ⟨.bl (!xs.isEmpty), H, I, ?_, q⟩
  cases xs with
  | nil =>
    cases r1
    rfl
  | cons z zs =>
    cases r1
    simp [L2.RelV]
/-- a written list stands apart from what the machine keeps by itself -/
def tLstN (t : TA) : TE := fun σ H Q => t σ H fun xs H1 => xs.length ≤ sizeLine ∧ ∀ p, H1 p = none → p ≠ sysModules → Q (.ref p) (upd H1 p (.lst xs))
theorem pe_lstN {es : List Expr} {pos : Pos} {t : TA} (h : PA X es t) : PE X (.List es pos) (tLstN t) := by
  refine ⟨fun pins s σ H Q I hq => ?_⟩
  refine wpAny_List_spliced (thn (h.run pos pins s σ H _ I hq) fun us s1 ⟨xs, H1, I1, r, z, q⟩ => ⟨by rw [← r.length]; exact z, ?_⟩)
  have hf : H1 s1.heap.objs.size = none := I1.hok.fresh (Nat.le_refl _)
  refine ⟨.ref s1.heap.objs.size, upd H1 s1.heap.objs.size (.lst xs), I1.laid (t' := s1.toks) (fun b u e => Heap.get?_push_of_some _ e) (Nat.le_refl _) ?_, rfl, q _ hf (Nat.ne_of_gt I1.big)⟩
  exact ⟨z, us, 0, r, Heap.get?_push_size _ rfl⟩
/-- list(t), t a tuple -/
theorem call_list_ofN : CallR X (.type "list") (fun xs H Q => ∃ p ys, xs = [.ref p] ∧ SqT X.K H p ys ∧ ∀ l, H l = none → l ≠ sysModules → Q (.ref l) (upd H l (.lst ys))) := by
  intro pins s σ H xs us Q I r h
  obtain ⟨p, ys, rfl, hq, q⟩ := h
  obtain ⟨u, rfl, rx⟩ := vals1 r
  cases rx
  have fin : ∀ (its : List Value), Vals ys its → ys.length ≤ sizeLine → ∀ (h' : Heap) (c' : Nat), (∀ b o', s.heap.get? b = some o' → h'.get? b = some o') →
      h'.get? s.heap.objs.size = some { cls := .type "list", dict := none, data := .seq its.toArray c', slots := #[] } → EP X pins σ Q (.ref s.heap.objs.size) { s with heap := h' } := fun its r' hz h' c' kp e =>
    ⟨.ref s.heap.objs.size, _, I.laid (t' := s.toks) kp (Nat.le_refl _) (show ObjOk X.prog X.w _ h' _ (.lst ys) from ⟨hz, its, c', r', e⟩), rfl, q _ (I.hok.fresh (Nat.le_refl _)) (Nat.ne_of_gt I.big)⟩
  obtain ⟨its, r', pl, hz⟩ := I.tuple hq
  have hlen := r'.length
  obtain ⟨o, ho, hc, n, hd⟩ := pl
  exact call_list_seq p (.inr rfl) ho hc hd (fun h' c' kp e => fin its r' hz h' c' kp e) (by simp only [List.size_toArray] <;> omega)
end
/-- two ways that come to the same -/
theorem join2 {c : Bool} {A B : VK → Prop} {Q : VK} (R : V → Hp → Prop) (hA : ∀ Q' : VK, (∀ v H, R v H → Q' v H) → A Q') (hB : ∀ Q' : VK, (∀ v H, R v H → Q' v H) → B Q') (hQ : ∀ v H, R v H → Q v H) : if c = true then A Q else B Q := by
  cases c
  · exact iteF (hB Q hQ)
  · exact iteT (hA Q hQ)
theorem inV_int2 (i j k : Int) : inV (V.int i) [V.int j, V.int k] = (decide (i = j) || decide (i = k)) := by
  rw [Bool.eq_iff_iff]
  simp only [inV, eqV, List.any_cons, List.any_nil, Bool.or_false, Bool.or_eq_true, beq_iff_eq, decide_eq_true_eq]
  constructor
  · rintro (h | h)
    · exact .inl h.symm
    · exact .inr h.symm
  · rintro (h | h)
    · exact .inl h.symm
    · exact .inr h.symm
theorem inV_str2 (z x y : Str) : inV (V.str z) [V.str x, V.str y] = (decide (z = x) || decide (z = y)) := by
  rw [Bool.eq_iff_iff]
  simp only [inV, eqV, List.any_cons, List.any_nil, Bool.or_false, Bool.or_eq_true, beq_iff_eq, decide_eq_true_eq]
  constructor
  · rintro (h | h)
    · exact .inl h.symm
    · exact .inr h.symm
  · rintro (h | h)
    · exact .inl h.symm
    · exact .inr h.symm
theorem wipe1 {σ : L2.St} {k : Nat} {v : Option V} {n : Str} : wipe ((wipe σ ([(n, k)].map (·.2))).set k v) ([(n, k)].map (·.2)) = wipe σ ([(n, k)].map (·.2)) := by
  show ((σ.set k none).set k v).set k none = σ.set k none
  rw [List.set_set, List.set_set]
end NB

set_option Elab.async false
set_option linter.all false
set_option maxRecDepth 100000
namespace K65
open PySem PySem.Spec PyProof.Rows L2 NB
def topS (i : Nat) : Stmt := PySem.Challenge.pw_notbothout_k65_whole_letters_twice_and_i.main.body.getD i (.Pass ⟨0, 0, 0, 0⟩)

/-- all that was tracked stands, but for what is at a -/
def But (a : Addr) (H H' : Hp) : Prop := ∀ b o, b ≠ a → H b = some o → H' b = some o
theorem But.of {a : Addr} {H H' : Hp} (h : Same H H') : But a H H' := fun b o _ e => h b o e
theorem But.trans {a : Addr} {H H1 H2 : Hp} (h : But a H H1) (h' : But a H1 H2) : But a H H2 := fun b o n e => h' b o n (h b o n e)
theorem But.seq {K : PySem.W.Frag} {a l : Addr} {H H' : Hp} {xs : List V} (h : But a H H') (n : l ≠ a) (q : SqL K H l xs) : SqL K H' l xs := by
  rcases q with (q | ⟨o, q⟩) | q
  · exact .inl (.inl (h _ _ n q))
  · exact .inl (.inr ⟨o, h _ _ n q⟩)
  · exact .inr q
theorem But.tup {K : PySem.W.Frag} {a l : Addr} {H H' : Hp} {xs : List V} (h : But a H H') (n : l ≠ a) (q : SqT K H l xs) : SqT K H' l xs := by
  rcases q with (q | ⟨o, q⟩) | q
  · exact .inl (.inl (h _ _ n q))
  · exact .inl (.inr ⟨o, h _ _ n q⟩)
  · exact .inr q
theorem sameT {K : PySem.W.Frag} {l : Addr} {H H' : Hp} {xs : List V} (h : Same H H') (q : SqT K H l xs) : SqT K H' l xs := by
  rcases q with (q | ⟨o, q⟩) | q
  · exact .inl (.inl (h _ _ q))
  · exact .inl (.inr ⟨o, h _ _ q⟩)
  · exact .inr q
theorem same_new {H : Hp} {p : Addr} {o : HO} (h : H p = none) : Same H (upd H p o) := fun b x e => by
  rw [upd_ne (ne_of_none e h)]
  exact e
/-- a cell that was free and is written stands apart from what was -/
theorem same_over {H H' : Hp} {p : Addr} {o : HO} (h : Same H H') (n : H p = none) : Same H (upd H' p o) := fun b x e => by
  rw [upd_ne (ne_of_none e n)]
  exact h b x e

theorem mapGet {α β : Type} {f : α → β} {xs : List α} {i : Nat} {y : β} (h : (xs.map f)[i]? = some y) : ∃ x, xs[i]? = some x ∧ y = f x := by
  rw [List.getElem?_map] at h
  cases e : xs[i]? with
  | none => rw [e] at h; cases h
  | some x => rw [e] at h; exact ⟨x, rfl, (Option.some.inj h).symm⟩

theorem take_map {α β : Type} (f : α → β) (xs : List α) (i : Nat) (y : α) (h : xs[i]? = some y) : (xs.take (i + 1)).map f = (xs.take i).map f ++ [f y] := by
  rw [List.take_add_one, h, List.map_append]
  rfl
theorem take_small {α : Type} {xs : List α} {i : Nat} (h : xs.length ≤ 1000) {β : Type} (f : α → β) : ((xs.take i).map f).length < sizeLine := by
  rw [List.length_map, List.length_take]
  exact Nat.lt_of_le_of_lt (Nat.min_le_right _ _) (small1000 h)

abbrev sPot : Stmt := topS 21
abbrev sTake : Stmt := topS 22
abbrev sOf : Stmt := topS 23
theorem scPot : FnScope ["_law_script", "_law_k", "_law_cell", "_law_great"] ["_law_script", "_law_k"] (defScope sPot) := ⟨rfl, rfl, rfl, by decide +kernel, rfl, by decide +kernel, by decide +kernel⟩
theorem scTake : FnScope ["_law_pot_here", "_law_many", "_law_digit", "_law_prime", "_law_mixed"] ["_law_pot_here", "_law_many"] (defScope sTake) := ⟨rfl, rfl, rfl, by decide +kernel, rfl, by decide +kernel, by decide +kernel⟩
theorem scOf : FnScope ["_law_pot_here", "_law_some"] ["_law_pot_here", "_law_some"] (defScope sOf) := ⟨rfl, rfl, rfl, by decide +kernel, rfl, by decide +kernel, by decide +kernel⟩

/-- a pot out of which at most c numbers were taken by reckoning -/
def PotAt (H : Hp) (a : Addr) (c : Nat) : Prop := ∃ p q r : Int, H a = some (.lst [.int p, .int q, .int r]) ∧ 0 ≤ p ∧ 0 ≤ r ∧ r ≤ c
theorem PotAt.mono {H : Hp} {a : Addr} {c d : Nat} (h : PotAt H a c) (le : c ≤ d) : PotAt H a d := by
  obtain ⟨p, q, r, e, h1, h2, h3⟩ := h
  exact ⟨p, q, r, e, h1, h2, by omega⟩
theorem PotAt.keep {H H' : Hp} {a : Addr} {c : Nat} (h : PotAt H a c) (s : Same H H') : PotAt H' a c := by
  obtain ⟨p, q, r, e, h1, h2, h3⟩ := h
  exact ⟨p, q, r, s _ _ e, h1, h2, h3⟩
theorem PotAt.ne {H : Hp} {a b : Addr} {c : Nat} (h : PotAt H a c) (n : H b = none) : b ≠ a := by
  obtain ⟨p, q, r, e, _⟩ := h
  exact (ne_of_none e n).symm
theorem But.free {a b : Addr} {H H' : Hp} (h : But a H H') (ne : b ≠ a) (n : H' b = none) : H b = none := by
  cases e : H b with
  | none => rfl
  | some o =>
    rw [h b o ne e] at n
    cases n
theorem but_new {a p : Addr} {H H' : Hp} {o : HO} (h : But a H H') (n : H p = none) : But a H (upd H' p o) := fun b x ne e => by
  rw [upd_ne (ne_of_none e n)]
  exact h b x ne e
theorem but_at {a : Addr} {H H' : Hp} {o : HO} (h : But a H H') : But a H (upd H' a o) := fun b x ne e => by
  rw [upd_ne ne]
  exact h b x ne e

theorem prime_at (j : Int) (h0 : 0 ≤ j) (h4 : j < 4) : ∃ pr : Int, atI [V.int 2305843009213693951, V.int 999999999989, V.int 1000000000039, V.int 67280421310721] j = some (.int pr) ∧ 0 < pr ∧ pr < 2 ^ 62 := by
  have : j = 0 ∨ j = 1 ∨ j = 2 ∨ j = 3 := by omega
  rcases this with rfl | rfl | rfl | rfl
  · exact ⟨_, atI_nat (j := 0) rfl, by decide, by decide⟩
  · exact ⟨_, atI_nat (j := 1) rfl, by decide, by decide⟩
  · exact ⟨_, atI_nat (j := 2) rfl, by decide, by decide⟩
  · exact ⟨_, atI_nat (j := 3) rfl, by decide, by decide⟩

section
variable {P : Program} {w : World} {K : PySem.W.Frag} {mg : Str → Option Value} {base : Heap}

def spPot (K : PySem.W.Frag) : Sp := fun vs H Q _ => ∃ (a : Addr) (ns : List Int) (k : Nat), vs = [.ref a, .int k] ∧ SqL K H a (ns.map V.int) ∧ k ≤ 1000 ∧
  ∀ H' p, Same H H' → H p = none → PotAt H' p 0 → Q (.ref p) H'
theorem ok_pot {f : Addr} {fd : FuncData} {k : Nat} (F : Fun K "_law_pot" "_law_pot" sPot f fd) (ml : mg "len" = none) (ma : mg "abs" = none) (mi : mg "int" = none) : FnOk P w K mg base CX0 (k + 1) f fd ["_law_script", "_law_k"] (spPot K) := by
  refine F.ok scPot (fun vs H Q E h => ?_) (fun cdv A outer s H vs Q E hr h => ?_)
  · obtain ⟨a, ns, k, rfl, _⟩ := h
    rfl
  · obtain ⟨a, ns, k, rfl, hS, hk, q⟩ := h
    refine ⟨_, pss_cons (ps_set (i := 2) scPot.nd rfl (.inl rfl) (pe_ifExp (pt_cmpR op_lt (pv 1) (pe_callB call_len_seq (by rfl) ml PySem.boot_len (pa_cons (pv 0) pa_nil)) (nomark _)) (pe_ix ix_list (pv 0) (pv 1) (fun _ _ => rfl)) (pe_op op_add (pe_op op_mul pe_int (pv 1)) pe_int)))
      (pss_cons (ps_set (i := 3) scPot.nd rfl (.inl rfl) (pe_op op_mul (pe_op op_mod (pe_callB call_abs (by rfl) ma (by decide +kernel) (pa_cons (pv 2) pa_nil)) (pe_op op_powW (pe_op op_pow pe_int pe_int) pe_int))
          (pe_callTy call_int1 (by rfl) mi (by decide +kernel) (pa_cons (pe_cmpR op_ge (pe_callB call_abs (by rfl) ma (by decide +kernel) (pa_cons (pv 2) pa_nil)) (pe_op op_pow pe_int pe_int) (nomark _)) pa_nil))))
      (pss_one (ps_ret (pe_lst (pa_cons (pv 3) (pa_cons (pe_op op_mod (pe_op op_mul (pe_op op_add (pe_op op_add (pe_op op_mod (pv 2) pe_int) (pe_op op_mul (pe_op op_mul pe_int (pv 1)) (pv 1))) pe_int) pe_int) pe_int) (pa_cons pe_int pa_nil))))))), ?_⟩
    have k1 : -(2 ^ 64) < (k : Int) ∧ (k : Int) < 2 ^ 64 := by omega
    have big : (0 : Int) < (10 ^ (60 : Int).toNat) ^ (5 : Int).toNat := by decide +kernel
    have one : ∀ b : Bool, -(2 ^ 64) < (if b = true then (1 : Int) else 0) ∧ (if b = true then (1 : Int) else 0) < 2 ^ 64 := fun b => by cases b <;> decide
    have nn : ∀ (x : Int) (b : Bool), 0 ≤ x % (10 ^ (60 : Int).toNat) ^ (5 : Int).toNat * (if b = true then (1 : Int) else 0) := fun x b => Int.mul_nonneg (Int.emod_nonneg _ (Int.ne_of_gt big)) (by cases b <;> decide)
    refine ⟨.int k, rfl, .ref a, rfl, a, _, rfl, .inl hS, _, _, rfl, rfl, _, rfl, ite2 (fun c => ?_) (fun c => ?_)⟩
    · have c' := of_decide_eq_true c
      rw [List.length_map] at c'
      have lt : k < ns.length := by omega
      refine ⟨.ref a, rfl, .int k, rfl, a, _, k, .int ns[k], rfl, rfl, hS, atI_nat (by rw [List.getElem?_map, List.getElem?_eq_getElem lt]; rfl), ?_⟩
      refine ⟨.int ns[k], rfl, _, rfl, 10, 60, rfl, rfl, ⟨by decide, by decide, by decide⟩, _, 5, rfl, rfl, ⟨by decide, by decide +kernel⟩, _, _, rfl, rfl, big, .int ns[k], rfl, _, rfl, 10, 18, rfl, rfl, ⟨by decide, by decide, by decide⟩, _, _, rfl, rfl, .inr ⟨_, rfl, _, _, rfl, rfl, .inr (one _), ?_⟩⟩
      refine ⟨_, rfl, .int ns[k], rfl, _, 2305843009213693951, rfl, rfl, (show (0 : Int) < 2305843009213693951 by decide), .int k, rfl, 7919, k, rfl, rfl, .inl ⟨by decide, by decide⟩, .int k, rfl, _, k, rfl, rfl, .inr k1, _, _, rfl, rfl, _, 17, rfl, rfl, _, 48271, rfl, rfl, .inr ⟨by decide, by decide⟩, _, 2305843009213693921, rfl, rfl, (show (0 : Int) < 2305843009213693921 by decide), (show 3 ≤ sizeLine by decide), fun p np => ?_⟩
      exact q _ p (same_new np) np ⟨_, _, 0, upd_same, nn _ _, Int.le_refl _, Int.le_refl _⟩
    · refine ⟨.int k, rfl, 7, _, rfl, rfl, .inl ⟨by decide, by decide⟩, _, 3, rfl, rfl, ?_⟩
      refine ⟨_, rfl, _, rfl, 10, 60, rfl, rfl, ⟨by decide, by decide, by decide⟩, _, 5, rfl, rfl, ⟨by decide, by decide +kernel⟩, _, _, rfl, rfl, big, _, rfl, _, rfl, 10, 18, rfl, rfl, ⟨by decide, by decide, by decide⟩, _, _, rfl, rfl, .inr ⟨_, rfl, _, _, rfl, rfl, .inr (one _), ?_⟩⟩
      refine ⟨_, rfl, _, rfl, _, 2305843009213693951, rfl, rfl, (show (0 : Int) < 2305843009213693951 by decide), .int k, rfl, 7919, k, rfl, rfl, .inl ⟨by decide, by decide⟩, .int k, rfl, _, k, rfl, rfl, .inr k1, _, _, rfl, rfl, _, 17, rfl, rfl, _, 48271, rfl, rfl, .inr ⟨by decide, by decide⟩, _, 2305843009213693921, rfl, rfl, (show (0 : Int) < 2305843009213693921 by decide), (show 3 ≤ sizeLine by decide), fun p np => ?_⟩
      exact q _ p (same_new np) np ⟨_, _, 0, upd_same, nn _ _, Int.le_refl _, Int.le_refl _⟩

/-- a drawn number -/
def spTake : Sp := fun vs H Q _ => ∃ (a : Addr) (m : Int) (c : Nat), vs = [.ref a, .int m] ∧ PotAt H a c ∧ 1 ≤ m ∧ m < 2 ^ 200 ∧ c < 1000000 ∧
  ∀ (d : Int) H', But a H H' → PotAt H' a (c + 1) → 0 ≤ d → d < m → Q (.int d) H'
theorem ok_take {f : Addr} {fd : FuncData} {k : Nat} (F : Fun K "_law_take" "_law_take" sTake f fd) : FnOk P w K mg base CX0 (k + 1) f fd ["_law_pot_here", "_law_many"] spTake := by
  refine F.ok scTake (fun vs H Q E h => ?_) (fun cdv A outer s H vs Q E hr h => ?_)
  · obtain ⟨a, m, c, rfl, _⟩ := h
    rfl
  · obtain ⟨a, m, c, rfl, ⟨p0, p1, p2, ea, n0, n2, l2⟩, m1, m2, hc, q⟩ := h
    refine ⟨_, pss_cons (ps_if (pt_cmpR op_gt (pe_ix ix_list (pv 0) pe_int (fun _ _ => rfl)) pe_int (nomark _))
        (pss_cons (ps_set (i := 2) scTake.nd rfl (.inl rfl) (pe_op op_mod (pe_ix ix_list (pv 0) pe_int (fun _ _ => rfl)) (pv 1)))
        (pss_cons (ps_asg (pe_op op_fdivW (pe_ix ix_list (pv 0) pe_int (fun _ _ => rfl)) (pv 1)) (pg_sub (pv 0) pe_int set_list))
        (pss_one (ps_ret (pv 2))))) pss_nil)
      (pss_cons (ps_asg (pe_op op_add (pe_ix ix_list (pv 0) pe_int (fun _ _ => rfl)) pe_int) (pg_sub (pv 0) pe_int set_list))
      (pss_cons (ps_set (i := 3) scTake.nd rfl (.inl rfl) (pe_ix ix_list (pe_lst (pa_cons pe_int (pa_cons pe_int (pa_cons pe_int (pa_cons pe_int pa_nil))))) (pe_op op_mod (pe_ix ix_list (pv 0) pe_int (fun _ _ => rfl)) pe_int) (fun _ _ => rfl)))
      (pss_cons (ps_set (i := 4) scTake.nd rfl (.inl rfl) (pe_op op_mod (pe_op op_add (pe_op op_add (pe_ix ix_list (pv 0) pe_int (fun _ _ => rfl)) (pe_op op_mul (pe_op op_mul pe_int (pe_ix ix_list (pv 0) pe_int (fun _ _ => rfl))) (pe_ix ix_list (pv 0) pe_int (fun _ _ => rfl)))) (pe_op op_mul pe_int (pe_ix ix_list (pv 0) pe_int (fun _ _ => rfl)))) (pv 3)))
      (pss_cons (ps_set (i := 4) scTake.nd rfl (.inl rfl) (pe_op op_mod (pe_op op_pow (pv 4) pe_int) (pv 3)))
      (pss_one (ps_ret (pe_op op_mod (pe_op op_add (pe_op op_fdiv (pv 4) pe_int) (pe_op op_mul (pe_op op_fdiv (pv 4) pe_int) pe_int)) (pv 1)))))))), ?_⟩
    have mpos : (0 : Int) < m := by omega
    refine ⟨.ref a, rfl, a, _, 0, .int p0, rfl, rfl, .inl (.inl ea), atI_nat (j := 0) rfl, _, 0, rfl, rfl, _, rfl, ite2 (fun _ => ?_) (fun _ => ?_)⟩
    · refine ⟨.ref a, rfl, a, _, 0, .int p0, rfl, rfl, .inl (.inl ea), atI_nat (j := 0) rfl, .int m, rfl, p0, m, rfl, rfl, mpos, ?_⟩
      refine ⟨.ref a, rfl, a, _, 0, .int p0, rfl, rfl, .inl (.inl ea), atI_nat (j := 0) rfl, .int m, rfl, p0, m, rfl, rfl, wide_div (b := 200) mpos (by omega) (by decide) (by decide), ?_⟩
      refine ⟨.ref a, rfl, a, _, 0, 0, rfl, rfl, ea, rfl, ?_⟩
      refine ⟨.int (p0 % m), rfl, ?_⟩
      refine q _ _ (but_at (fun _ _ _ e => e)) ⟨p0 / m, p1, p2, upd_same, Int.ediv_nonneg n0 (by omega), n2, by omega⟩ (Int.emod_nonneg _ (by omega)) (Int.emod_lt_of_pos _ mpos)
    · refine ⟨.ref a, rfl, a, _, 2, .int p2, rfl, rfl, .inl (.inl ea), atI_nat (j := 2) rfl, p2, 1, rfl, rfl, ?_⟩
      refine ⟨.ref a, rfl, a, _, 2, 2, rfl, rfl, ea, rfl, ?_⟩
      obtain ⟨pr, epr, pp, pl⟩ := prime_at ((p2 + 1) % 4) (Int.emod_nonneg _ (by decide)) (Int.emod_lt_of_pos _ (by decide))
      have ea2 : (upd H a (.lst [.int p0, .int p1, .int (p2 + 1)])) a = some (.lst [.int p0, .int p1, .int (p2 + 1)]) := upd_same
      refine ⟨(show 4 ≤ sizeLine by decide), fun l nl => ?_⟩
      have nla : a ≠ l := ne_of_none ea2 nl
      have ea3 : (upd (upd H a (.lst [.int p0, .int p1, .int (p2 + 1)])) l (.lst [V.int 2305843009213693951, V.int 999999999989, V.int 1000000000039, V.int 67280421310721])) a = some (.lst [.int p0, .int p1, .int (p2 + 1)]) := (upd_ne nla).trans ea2
      refine ⟨.ref a, rfl, a, _, 2, .int (p2 + 1), rfl, rfl, .inl (.inl ea3), atI_nat (j := 2) rfl, p2 + 1, 4, rfl, rfl, (show (0 : Int) < 4 by decide), l, _, (p2 + 1) % 4, .int pr, rfl, rfl, .inl (.inl upd_same), epr, ?_⟩
      have b2 : -(2 ^ 64) < p2 + 1 ∧ p2 + 1 < 2 ^ 64 := by omega
      refine ⟨.ref a, rfl, a, _, 1, .int p1, rfl, rfl, .inl (.inl ea3), atI_nat (j := 1) rfl, .ref a, rfl, a, _, 2, .int (p2 + 1), rfl, rfl, .inl (.inl ea3), atI_nat (j := 2) rfl, 7919, p2 + 1, rfl, rfl, .inl ⟨by decide, by decide⟩, .ref a, rfl, a, _, 2, .int (p2 + 1), rfl, rfl, .inl (.inl ea3), atI_nat (j := 2) rfl, _, p2 + 1, rfl, rfl, .inr b2, _, _, rfl, rfl,
        .ref a, rfl, a, _, 2, .int (p2 + 1), rfl, rfl, .inl (.inl ea3), atI_nat (j := 2) rfl, 65537, p2 + 1, rfl, rfl, .inl ⟨by decide, by decide⟩, _, _, rfl, rfl, .int pr, rfl, _, pr, rfl, rfl, pp, ?_⟩
      have mx : ∀ e : Int, (e % pr).natAbs < 2 ^ 64 := fun e => by
        have h1 := Int.emod_nonneg e (Int.ne_of_gt pp)
        have h2 := Int.emod_lt_of_pos e pp
        omega
      refine ⟨_, rfl, _, 5, rfl, rfl, ⟨by decide, by decide, mx _⟩, .int pr, rfl, _, pr, rfl, rfl, pp, ?_⟩
      refine ⟨_, rfl, _, 4099, rfl, rfl, ⟨by decide, by decide⟩, _, rfl, _, 1000003, rfl, rfl, ⟨by decide, by decide⟩, _, 7, rfl, rfl, .inr ⟨by decide, by decide⟩, _, _, rfl, rfl, .int m, rfl, _, m, rfl, rfl, mpos, ?_⟩
      refine q _ _ ?_ ⟨p0, p1, p2 + 1, ea3, n0, by omega, by omega⟩ (Int.emod_nonneg _ (by omega)) (Int.emod_lt_of_pos _ mpos)
      exact but_new (but_at (fun _ _ _ e => e)) (by rw [upd_ne nla.symm] at nl; exact nl)
end

/-- a def that is known by its promise -/
structure Kn (P : Program) (w : World) (K : PySem.W.Frag) (mg : Str → Option Value) (base : Heap) (k : Nat) (x : Str) (ps : List Str) (sp : Sp) (f : Addr) (fd : FuncData) : Prop where
  ok : FnOk P w K mg base CX0 k f fd ps sp
  gl : mg x = some (.ref f)
  kp : PySem.W.keepIn K (.ref f) = true
  bi : Binds K fd ps []
theorem pe_kn {X : Cx} {k j : Nat} {x : Str} {ps : List Str} {sp : Sp} {f : Addr} {fd : FuncData} {p pos : Pos} {e : Expr} {es : List Expr} {t : TA} (C : Kn X.prog X.w X.K X.mg X.base k x ps sp f fd) (hr : Room j X.A) (hj : k ≤ j) (ha : PA X (e :: es) t) (hg : Gl X x := by rfl) (hdb : (x == ("__debug__" : Str)) = false := by decide)
    (he : starEach (e :: es) X.env = (false, eval e X.env) :: starEach es X.env := by rfl) (hpl : (backTo pos (starEach es X.env)).any (·.1) = false := by rfl) :
    PE X (.Call (.Name x p) (e :: es) [] pos) (tCall sp [] E0 t) := pe_call C.ok (hr.mono hj) hg C.gl C.kp C.bi .nil pass0 ha hdb he hpl

theorem But.tupP {K : PySem.W.Frag} {a t : Addr} {H H' : Hp} {c : Nat} {xs : List V} (b : But a H H') (p : PotAt H a c) (q : SqT K H t xs) : SqT K H' t xs := by
  obtain ⟨_, _, _, e, _⟩ := p
  rcases q with (q | ⟨o, q⟩) | q
  · exact .inl (.inl (b _ _ (ne_of q e (by intro z; cases z)) q))
  · exact .inl (.inr ⟨o, b _ _ (ne_of q e (by intro z; cases z)) q⟩)
  · exact .inr q
/-- places, or tops -/
def Pl (xs : List Int) : Prop := ∀ x ∈ xs, 0 ≤ x ∧ x < 10 ^ 30
theorem Pl.snoc {xs : List Int} {x : Int} (h : Pl xs) (h0 : 0 ≤ x) (h1 : x < 10 ^ 30) : Pl (xs ++ [x]) := fun y hy => by
  rcases List.mem_append.mp hy with q | q
  · exact h y q
  · rw [List.mem_singleton.mp q]
    exact ⟨h0, h1⟩

section
variable {P : Program} {w : World} {K : PySem.W.Frag} {mg : Str → Option Value} {base : Heap}

/-- one of some -/
def spOf (K : PySem.W.Frag) : Sp := fun vs H Q _ => ∃ (a l : Addr) (xs : List V) (c : Nat), vs = [.ref a, .ref l] ∧ PotAt H a c ∧ l ≠ a ∧ (SqL K H l xs ∨ SqT K H l xs) ∧ 1 ≤ xs.length ∧ xs.length ≤ 1000000 ∧ c < 1000000 ∧
  ∀ x H', x ∈ xs → But a H H' → PotAt H' a (c + 1) → Q x H'
theorem ok_of {f fT : Addr} {fd fdT : FuncData} {k : Nat} (F : Fun K "_law_of" "_law_of" sOf f fd) (T : Kn P w K mg base 1 "_law_take" ["_law_pot_here", "_law_many"] spTake fT fdT) (ml : mg "len" = none) : FnOk P w K mg base CX0 (k + 2) f fd ["_law_pot_here", "_law_some"] (spOf K) := by
  refine F.ok scOf (fun vs H Q E h => ?_) (fun cdv A outer s H vs Q E hr h => ?_)
  · obtain ⟨a, l, xs, c, rfl, _⟩ := h
    rfl
  · obtain ⟨a, l, xs, c, rfl, pa, ne, hl, l1, l2, hc, q⟩ := h
    refine ⟨_, pss_one (ps_ret (pe_ix ix_seq (pv 1) (pe_kn T hr (Nat.le_add_left 1 k) (pa_cons (pv 0) (pa_cons (pe_callB call_len_seq (by rfl) ml PySem.boot_len (pa_cons (pv 1) pa_nil)) pa_nil))) (fun _ _ => rfl))), ?_⟩
    refine ⟨.ref l, rfl, .ref a, rfl, .ref l, rfl, l, xs, rfl, hl, a, _, c, rfl, pa, by omega, ?_, hc, fun d H' b p' d0 dm => ?_⟩
    · have : (xs.length : Int) ≤ 1000000 := by omega
      exact Int.lt_of_le_of_lt this (by decide)
    have lt : d.toNat < xs.length := by omega
    have ei : atI xs d = some xs[d.toNat] := by
      have := atI_nat (xs := xs) (j := d.toNat) (List.getElem?_eq_getElem lt)
      rwa [Int.toNat_of_nonneg d0] at this
    have fin := q xs[d.toNat] H' (List.getElem_mem lt) b p'
    rcases hl with h | h
    · exact .inl ⟨l, xs, d, _, rfl, rfl, b.seq ne h, ei, fin⟩
    · exact .inr (.inl ⟨l, xs, d, _, rfl, rfl, b.tup ne h, ei, fin⟩)

/-- none beyond its top -/
def Le (st tops : List Int) : Prop := ∀ (i : Nat) (x t : Int), st[i]? = some x → tops[i]? = some t → x ≤ t
theorem Le.snoc {st tops : List Int} {x t : Int} (h : Le st tops) (e : tops[st.length]? = some t) (l : x ≤ t) : Le (st ++ [x]) tops := fun i y u h1 h2 => by
  rcases Nat.lt_or_ge i st.length with q | q
  · rw [List.getElem?_append_left q] at h1
    exact h i y u h1 h2
  · rw [List.getElem?_append_right q] at h1
    have e0 : i - st.length = 0 := by
      rcases Nat.eq_zero_or_pos (i - st.length) with z | z
      · exact z
      · rw [List.getElem?_eq_none (by simp only [List.length_cons, List.length_nil]; omega)] at h1
        cases h1
    have ei : i = st.length := by omega
    subst ei
    rw [e0] at h1
    cases h1
    rw [e] at h2
    cases h2
    exact l
end

section
variable {P : Program} {w : World} {K : PySem.W.Frag} {mg : Str → Option Value} {base : Heap}

theorem pot_upd {H : Hp} {a p : Addr} {c : Nat} {o : HO} (h : PotAt H a c) (n : p ≠ a) : PotAt (upd H p o) a c := by
  obtain ⟨x, y, z, e, r⟩ := h
  exact ⟨x, y, z, (upd_ne n.symm).trans e, r⟩
theorem e15 : (10 : Int) ^ (15 : Int).toNat = 1000000000000000 := by decide
theorem e30 : (10 : Int) ^ (30 : Int).toNat = 10 ^ 30 := by decide

end
end K65

set_option Elab.async false
set_option linter.all false
set_option maxRecDepth 100000
namespace K65
open PySem PySem.Spec PyProof.Rows L2 NB
def Keep (H H' : Hp) : Prop := ∀ b o, (∀ xs, o ≠ .lst xs) → H b = some o → H' b = some o
theorem Keep.refl (H : Hp) : Keep H H := fun _ _ _ e => e
theorem Keep.trans {H H1 H2 : Hp} (a : Keep H H1) (b : Keep H1 H2) : Keep H H2 := fun c o n e => b c o n (a c o n e)
theorem Keep.same {H H' : Hp} (h : Same H H') : Keep H H' := fun b o _ e => h b o e
theorem Keep.but {a : Addr} {H H' : Hp} {c : Nat} (h : But a H H') (p : PotAt H a c) : Keep H H' := fun b o n e => by
  obtain ⟨x, y, z, ea, _⟩ := p
  exact h b o (fun q => n _ (by rw [q, ea] at e; exact (Option.some.inj e).symm)) e
theorem Keep.upd {H : Hp} {l : Addr} {o : HO} {xs : List V} (e : H l = some (.lst xs)) : Keep H (upd H l o) := fun b x n q => by
  rw [upd_ne (fun z => n xs (by rw [z, e] at q; exact (Option.some.inj q).symm))]
  exact q
theorem Keep.tup {H H' : Hp} {p : Addr} {xs : List V} (k : Keep H H') (e : H p = some (.tup xs)) : H' p = some (.tup xs) := k _ _ (fun _ q => by cases q) e
theorem Keep.sq {K : PySem.W.Frag} {H H' : Hp} {p : Addr} {xs : List V} (k : Keep H H') (e : SqT K H p xs) : SqT K H' p xs := by
  rcases e with (q | ⟨o, q⟩) | q
  · exact .inl (.inl (k _ _ (fun _ q => by cases q) q))
  · exact .inl (.inr ⟨o, k _ _ (fun _ q => by cases q) q⟩)
  · exact .inr q

abbrev Sd := Nat × Bool × Int
abbrev Rl := Sd × Sd
def word (b : Bool) : Str := if b then "from" else "to"
def SideAt (H : Hp) (p : Addr) (s : Sd) : Prop := H p = some (.tup [.int s.1, .str (word s.2.1), .int s.2.2])
def RuleAt (H : Hp) (r : Addr) (q : Rl) : Prop := ∃ p1 p2, H r = some (.tup [.ref p1, .ref p2]) ∧ SideAt H p1 q.1 ∧ SideAt H p2 q.2
theorem SideAt.keep {H H' : Hp} {p : Addr} {s : Sd} (h : SideAt H p s) (k : Keep H H') : SideAt H' p s := k.tup h
theorem RuleAt.keep {H H' : Hp} {p : Addr} {q : Rl} (h : RuleAt H p q) (k : Keep H H') : RuleAt H' p q := by
  obtain ⟨p1, p2, e, h1, h2⟩ := h
  exact ⟨p1, p2, k.tup e, h1.keep k, h2.keep k⟩
theorem word_in (b : Bool) : inV (.str (word b)) [.str "from", .str "to"] = true := by cases b <;> decide +kernel
theorem word_from : word true = "from" := rfl

end K65

set_option Elab.async false
set_option linter.all false
set_option maxRecDepth 100000
namespace K65
open PySem PySem.Spec PyProof.Rows L2 NB

/-! ### letters, of anything -/
def wholeD : PyData → Bool
  | .int _ => true
  | _ => false
def countD : PyData → Bool
  | .int i => decide (0 ≤ i)
  | _ => false
def noneD : PyData → Bool
  | .none => true
  | _ => false
def posD : PyData → Bool
  | .int i => decide (1 ≤ i)
  | _ => false
def standD : PyData → Bool
  | .tuple ps => (decide (1 ≤ ps.length) && decide (ps.length ≤ 12)) && ps.all countD
  | _ => false
def wishD : PyData → Bool
  | .tuple ds => decide (ds.length = 2) && (posD (ds.getD 0 .none) && standD (ds.getD 1 .none))
  | _ => false
def strIs (z : Str) : PyData → Bool
  | .str x => decide (x = z)
  | _ => false
def letterD : PyData → Bool
  | .tuple ds => if ds.length = 2 then strIs "word" (ds.getD 0 .none) && wishD (ds.getD 1 .none)
      else decide (ds.length = 4) && ((strIs "ask" (ds.getD 0 .none) || strIs "leave" (ds.getD 0 .none)) && ((countD (ds.getD 1 .none) && countD (ds.getD 2 .none)) && (noneD (ds.getD 3 .none) || wishD (ds.getD 3 .none))))
  | _ => false
theorem tup_or (d : PyData) : (∃ ds, d = .tuple ds) ∨ isTupD d = false := by
  cases d with
  | tuple ds => exact .inl ⟨ds, rfl⟩
  | _ => exact .inr rfl
theorem not_tup {d : PyData} (h : isTupD d = false) : wishD d = false ∧ letterD d = false ∧ standD d = false := by
  cases d with
  | tuple ds => cases h
  | _ => exact ⟨rfl, rfl, rfl⟩
theorem all_take {α : Type} (g : α → Bool) (xs : List α) (i : Nat) (y : α) (h : xs[i]? = some y) : ((xs.take (i + 1)).map g).map V.bl = ((xs.take i).map g).map V.bl ++ [V.bl (g y)] := by
  rw [List.take_add_one, h, List.map_append, List.map_append]
  rfl
theorem all_id {α : Type} (g : α → Bool) (xs : List α) : (xs.map g).all id = xs.all g := by
  rw [List.all_map]
  rfl
section
variable {P : Program} {w : World} {K : PySem.W.Frag} {mg : Str → Option Value} {base : Heap}
/-- a look at data that leaves all as it is -/
def spLook (g : PyData → Bool) : Sp := fun vs H Q _ => ∃ (n : Addr) (v : V) (d : PyData), vs = [v] ∧ Da n H v d ∧ ∀ H', Same H H' → Q (.bl (g d)) H'
abbrev a_is_whole : Stmt := topS 7
abbrev n_is_whole : List Str := ["thing"]
theorem sc_is_whole : FnScope n_is_whole ["thing"] (defScope a_is_whole) := ⟨rfl, rfl, rfl, by decide +kernel, rfl, by decide +kernel, by decide +kernel⟩
set_option maxHeartbeats 8000000 in
theorem ok_is_whole {f  : Addr} {fd  : FuncData} {k : Nat}  (F : Fun K "is_whole" "is_whole" a_is_whole f fd)   (m_bool : mg "bool" = none) (m_int : mg "int" = none) (m_isinstance : mg "isinstance" = none) : FnOk P w K mg base CX0 (k + 1) f fd ["thing"] (spLook wholeD) := by
  refine F.ok sc_is_whole (fun vs H Q E h => ?_) (fun cdv A outer s H vs Q E hr h => ?_)
  · obtain ⟨n, v, d, rfl, _⟩ := h
    rfl
  · obtain ⟨n, v, d, rfl, hd, q⟩ := h
    refine ⟨_, (pss_one (ps_ret (pe_and (pe_callB call_isiD (by rfl) m_isinstance (by decide +kernel) (pa_cons (pv 0) (pa_cons (pe_bltn (v := .ty "int") (u := .type "int") (by rfl) m_int (by decide +kernel) rfl) pa_nil))) (pe_one (pe_not (pe_callB call_isiD (by rfl) m_isinstance (by decide +kernel) (pa_cons (pv 0) (pa_cons (pe_bltn (v := .ty "bool") (u := .type "bool") (by rfl) m_bool (by decide +kernel) rfl) pa_nil)))))))), ?_⟩
    refine ⟨v, rfl, n, v, d, "int", _, rfl, hd, kit_int d, _, rfl, ?_⟩
    cases hd with
    | int i => exact iteT ⟨_, rfl, n, _, _, "bool", _, rfl, .int i, kit_bool _, _, rfl, q H (Same.refl H)⟩
    | bl b => exact iteT ⟨_, rfl, n, _, _, "bool", _, rfl, .bl b, kit_bool _, _, rfl, q H (Same.refl H)⟩
    | _ => exact iteF (q H (Same.refl H))
abbrev a_is_count : Stmt := topS 9
abbrev n_is_count : List Str := ["thing"]
theorem sc_is_count : FnScope n_is_count ["thing"] (defScope a_is_count) := ⟨rfl, rfl, rfl, by decide +kernel, rfl, by decide +kernel, by decide +kernel⟩
set_option maxHeartbeats 8000000 in
theorem ok_is_count {f fWh : Addr} {fd fdWh : FuncData} {k : Nat}  (F : Fun K "is_count" "is_count" a_is_count f fd) (Wh : Kn P w K mg base 1 "is_whole" ["thing"] (spLook wholeD) fWh fdWh)   : FnOk P w K mg base CX0 (k + 2) f fd ["thing"] (spLook countD) := by
  refine F.ok sc_is_count (fun vs H Q E h => ?_) (fun cdv A outer s H vs Q E hr h => ?_)
  · obtain ⟨n, v, d, rfl, _⟩ := h
    rfl
  · obtain ⟨n, v, d, rfl, hd, q⟩ := h
    refine ⟨_, (pss_one (ps_ret (pe_and (pe_kn Wh hr (by omega) (pa_cons (pv 0) pa_nil)) (pe_one (pe_cmpR op_ge (pv 0) pe_int (nomark _)))))), ?_⟩
    refine ⟨v, rfl, n, v, d, rfl, hd, fun H1 s1 => ⟨_, rfl, ?_⟩⟩
    cases hd with
    | int i => exact iteT ⟨_, rfl, i, 0, rfl, rfl, q H1 s1⟩
    | _ => exact iteF (q H1 s1)
abbrev a_is_wish : Stmt := topS 10
abbrev n_is_wish : List Str := ["thing", "number", "standing", "place"]
theorem sc_is_wish : FnScope n_is_wish ["thing"] (defScope a_is_wish) := ⟨rfl, rfl, rfl, by decide +kernel, rfl, by decide +kernel, by decide +kernel⟩
set_option maxHeartbeats 8000000 in
theorem ok_is_wish {f fWh fCo : Addr} {fd fdWh fdCo : FuncData} {k : Nat} {t1 : Tok} (F : Fun K "is_wish" "is_wish" a_is_wish f fd) (Wh : Kn P w K mg base 1 "is_whole" ["thing"] (spLook wholeD) fWh fdWh) (Co : Kn P w K mg base 2 "is_count" ["thing"] (spLook countD) fCo fdCo) (gv1 : mg "MOST_THINGS" = some (.int 12 t1)) (m_all : mg "all" = none) (m_isinstance : mg "isinstance" = none) (m_len : mg "len" = none) (m_tuple : mg "tuple" = none) : FnOk P w K mg base CX0 (k + 3) f fd ["thing"] (spLook wishD) := by
  refine F.ok sc_is_wish (fun vs H Q E h => ?_) (fun cdv A outer s H vs Q E hr h => ?_)
  · obtain ⟨n, v, d, rfl, _⟩ := h
    rfl
  · obtain ⟨n, v, d, rfl, hd, q⟩ := h
    refine ⟨_, (pss_cons (ps_if (PW.pt (pw_or (pt_not (pt_val (pe_callB call_isiD (by rfl) m_isinstance (by decide +kernel) (pa_cons (pv 0) (pa_cons (pe_bltn (v := .ty "tuple") (u := .type "tuple") (by rfl) m_tuple (by decide +kernel) rfl) pa_nil))))) (pw_or1 (pt_cmpR op_ne (pe_callB call_len_seq (by rfl) m_len (by decide +kernel) (pa_cons (pv 0) pa_nil)) pe_int (nomark _))))) (pss_one (ps_ret pe_bl)) pss_nil)
      (pss_cons (ps_asg (pv 0) (pg_tup rfl (pgs_cons (pg_name (i := 1) sc_is_wish.nd rfl (.inl rfl)) (pgs_cons (pg_name (i := 2) sc_is_wish.nd rfl (.inl rfl)) pgs_nil))))
      (pss_cons (ps_if (PW.pt (pw_or (pt_not (pt_val (pe_kn Wh hr (by omega) (pa_cons (pv 1) pa_nil)))) (pw_or1 (pt_cmpR op_lt (pv 1) pe_int (nomark _))))) (pss_one (ps_ret pe_bl)) pss_nil)
      (pss_cons (ps_if (PW.pt (pw_or (pt_not (pt_val (pe_callB call_isiD (by rfl) m_isinstance (by decide +kernel) (pa_cons (pv 2) (pa_cons (pe_bltn (v := .ty "tuple") (u := .type "tuple") (by rfl) m_tuple (by decide +kernel) rfl) pa_nil))))) (pw_or1 (pt_not (pt_chain op_le op_le pe_int (pe_callB call_len_seq (by rfl) m_len (by decide +kernel) (pa_cons (pv 2) pa_nil)) (pe_glob (v := .int 12) rfl gv1 ⟨_, rfl⟩)))))) (pss_one (ps_ret pe_bl)) pss_nil)
      (pss_one (ps_ret (pe_callB (cr_all rfl) (by rfl) m_all (by decide +kernel) (pa_cons (
        pe_lc (own := [("place", 3)]) (g := (gName 3)) (tt := tYes) (te := (tCall (spLook countD) [] E0 (tCons (tVar 3) tNil))) rfl sc_is_wish.nd (pi_tup (pv 2)) (blkOk_by (N := n_is_wish) (sc := defScope a_is_wish) (by decide +kernel))
          (fun _ _ _ _ _ => (pg_name (i := 3) sc_is_wish.nd rfl (.inl rfl) (hf := .inr rfl))) (fun _ _ _ _ _ => pts_nil) (fun _ _ _ _ _ => (pe_kn Co hr (by omega) (pa_cons (pv 3) pa_nil)))) pa_nil)))))))), ?_⟩
    rcases tup_or d with ⟨ds, rfl⟩ | hn
    · cases hd with
      | tup e ha =>
      rename_i a xs
      have ll := ha.len
      refine ⟨_, rfl, n, _, _, "tuple", _, rfl, .tup e ha, kit_tup _, _, rfl, iteF ⟨_, rfl, a, xs, rfl, .inr (.inl (.inl e)), rfl, _, rfl, ite2 (fun c => ?_) (fun c => ?_)⟩⟩
      · have c' : ¬ ds.length = 2 := fun z => by rw [ll, z] at c; exact absurd c (by decide)
        have : wishD (.tuple ds) = false := by simp [wishD, c']
        rw [this] at q
        exact q H (Same.refl H)
      · have c' : ds.length = 2 := Classical.byContradiction fun z => c (by
          have : ¬ ((xs.length : Int) = 2) := by omega
          simp [this])
        match ds, c', ha with
        | [d0, d1], _, .cons h0 (.cons h1 .nil) =>
        rename_i v0 v1
        have eW : wishD (.tuple [d0, d1]) = (posD d0 && standD d1) := by simp [wishD]
        rw [eW] at q
        refine ⟨_, rfl, a, _, rfl, .inl (.inl e), rfl, _, _, rfl, _, _, rfl, rfl, ?_⟩
        refine ⟨_, rfl, n, _, d0, rfl, h0, fun H1 s1 => ⟨_, rfl, ?_⟩⟩
        cases h0 with
        | int i =>
          refine iteF ⟨_, rfl, i, 1, rfl, rfl, _, rfl, ite2 (fun c => ?_) (fun c => ?_)⟩
          · have : posD (.int i) = false := decide_eq_false (by have := of_decide_eq_true c; omega)
            rw [this] at q
            exact q H1 s1
          · have : posD (.int i) = true := decide_eq_true (by have := of_decide_eq_false (Bool.eq_false_iff.mpr c); omega)
            rw [this, Bool.true_and] at q
            rcases tup_or d1 with ⟨ps, rfl⟩ | hn
            · cases h1 with
              | tup e1 h2 =>
              rename_i b ys
              have l2 := h2.len
              have e1' := s1 _ _ e1
              refine ⟨_, rfl, n, _, _, "tuple", _, rfl, (Da.tup e1 h2).same s1, kit_tup _, _, rfl, iteF ⟨_, rfl, b, ys, rfl, .inr (.inl (.inl e1')), 1, _, rfl, rfl, _, rfl, ?_⟩⟩
              have eS : standD (.tuple ps) = ((decide (1 ≤ ps.length) && decide (ps.length ≤ 12)) && ps.all countD) := rfl
              rw [eS] at q
              refine ite2 (fun c1 => ⟨_, 12, rfl, rfl, _, rfl, ?_⟩) (fun c1 => ?_)
              · have c1' := of_decide_eq_true c1
                refine ite2 (fun c2 => ?_) (fun c2 => ?_)
                · have c2' : ¬ ps.length ≤ 12 := fun z => by
                    have : ((ys.length : Int) ≤ 12) := by omega
                    simp [this] at c2
                  rw [decide_eq_false c2', Bool.and_false, Bool.false_and] at q
                  exact q H1 s1
                · have c2' : ps.length ≤ 12 := Classical.byContradiction fun z => c2 (by
                    have : ¬ ((ys.length : Int) ≤ 12) := by omega
                    simp [this])
                  rw [decide_eq_true c2', decide_eq_true (show 1 ≤ ps.length by omega), Bool.true_and, Bool.true_and] at q
                  refine ⟨_, rfl, b, rfl, ⟨_, .inl (.inl e1')⟩, fun D nD => lc_it (walk_tup (xs := ys)) (fun i H' => Same H1 H' ∧ H' D = some (.lst (((ps.take i).map countD).map V.bl))) ⟨same_new nD, upd_same⟩ (fun i H' _ p => .inl (.inl (p.1 _ _ e1'))) (fun i v H2 H3 hi p y => ?_) (fun H' p => ?_)⟩
                  · obtain ⟨sm, eD⟩ := p
                    obtain ⟨rfl, gv⟩ := y
                    obtain ⟨dd, ed, hdd⟩ := h2.get i v gv
                    refine ⟨wipe1, _, rfl, n, v, dd, rfl, (hdd.same s1).same sm, fun H4 s4 => ⟨_, s4 _ _ eD, ?_, same_over (sm.trans s4) nD, ?_⟩⟩
                    · rw [List.length_map, List.length_map, List.length_take]
                      exact small1000 (by omega)
                    · rw [upd_same, all_take countD ps i dd ed]
                  · obtain ⟨sm, eD⟩ := p
                    rw [show ys.length = ps.length from l2, List.take_length] at eD
                    refine ⟨D, _, rfl, .inl (.inl eD), ?_⟩
                    rw [all_id]
                    exact q H' (s1.trans sm)
              · have c1' : ¬ 1 ≤ ps.length := fun z => c1 (decide_eq_true (by omega))
                refine ⟨false, rfl, iteT ?_⟩
                rw [decide_eq_false c1', Bool.false_and, Bool.false_and] at q
                exact q H1 s1
            · have t := (not_tup hn).2.2
              refine ⟨_, rfl, n, _, d1, "tuple", _, rfl, h1.same s1, kit_tup d1, _, rfl, ?_⟩
              rw [hn]
              rw [t] at q
              exact iteT (q H1 s1)
        | _ => exact iteT (q H1 s1)
    · have t := (not_tup hn).1
      refine ⟨_, rfl, n, _, d, "tuple", _, rfl, hd, kit_tup d, _, rfl, ?_⟩
      rw [hn]
      rw [t] at q
      exact iteT (q H (Same.refl H))
abbrev a_is_letter : Stmt := topS 11
abbrev n_is_letter : List Str := ["thing", "word", "rule", "count", "wish"]
theorem sc_is_letter : FnScope n_is_letter ["thing"] (defScope a_is_letter) := ⟨rfl, rfl, rfl, by decide +kernel, rfl, by decide +kernel, by decide +kernel⟩
set_option maxHeartbeats 8000000 in
theorem ok_is_letter {f fCo fWi : Addr} {fd fdCo fdWi : FuncData} {k : Nat}  (F : Fun K "is_letter" "is_letter" a_is_letter f fd) (Co : Kn P w K mg base 2 "is_count" ["thing"] (spLook countD) fCo fdCo) (Wi : Kn P w K mg base 3 "is_wish" ["thing"] (spLook wishD) fWi fdWi)  (m_isinstance : mg "isinstance" = none) (m_len : mg "len" = none) (m_str : mg "str" = none) (m_tuple : mg "tuple" = none) : FnOk P w K mg base CX0 (k + 4) f fd ["thing"] (spLook letterD) := by
  refine F.ok sc_is_letter (fun vs H Q E h => ?_) (fun cdv A outer s H vs Q E hr h => ?_)
  · obtain ⟨n, v, d, rfl, _⟩ := h
    rfl
  · obtain ⟨n, v, d, rfl, hd, q⟩ := h
    refine ⟨_, (pss_cons (ps_if (PW.pt (pw_or (pt_not (pt_val (pe_callB call_isiD (by rfl) m_isinstance (by decide +kernel) (pa_cons (pv 0) (pa_cons (pe_bltn (v := .ty "tuple") (u := .type "tuple") (by rfl) m_tuple (by decide +kernel) rfl) pa_nil))))) (pw_or (pt_cmpR op_notIn_seq (pe_callB call_len_seq (by rfl) m_len (by decide +kernel) (pa_cons (pv 0) pa_nil)) (pe_tup (pa_cons pe_int (pa_cons pe_int pa_nil))) (by rfl)) (pw_or1 (pt_not (pt_val (pe_callB call_isiD (by rfl) m_isinstance (by decide +kernel) (pa_cons (pe_ix ix_tup (pv 0) pe_int (fun _ _ => rfl)) (pa_cons (pe_bltn (v := .ty "str") (u := .type "str") (by rfl) m_str (by decide +kernel) rfl) pa_nil))))))))) (pss_one (ps_ret pe_bl)) pss_nil)
      (pss_cons (ps_if (pt_cmpR op_eq (pe_callB call_len_seq (by rfl) m_len (by decide +kernel) (pa_cons (pv 0) pa_nil)) pe_int (nomark _)) (pss_one (ps_ret (pe_and (pe_cmpR op_eq (pe_ix ix_tup (pv 0) pe_int (fun _ _ => rfl)) pe_str (nomark _)) (pe_one (pe_kn Wi hr (by omega) (pa_cons (pe_ix ix_tup (pv 0) pe_int (fun _ _ => rfl)) pa_nil)))))) pss_nil)
      (pss_cons (ps_asg (pv 0) (pg_tup rfl (pgs_cons (pg_name (i := 1) sc_is_letter.nd rfl (.inl rfl)) (pgs_cons (pg_name (i := 2) sc_is_letter.nd rfl (.inl rfl)) (pgs_cons (pg_name (i := 3) sc_is_letter.nd rfl (.inl rfl)) (pgs_cons (pg_name (i := 4) sc_is_letter.nd rfl (.inl rfl)) pgs_nil))))))
      (pss_cons (ps_if (PW.pt (pw_or (pt_cmpR op_notIn_seq (pv 1) (pe_tup (pa_cons pe_str (pa_cons pe_str pa_nil))) (by rfl)) (pw_or (pt_not (pt_val (pe_kn Co hr (by omega) (pa_cons (pv 2) pa_nil)))) (pw_or1 (pt_not (pt_val (pe_kn Co hr (by omega) (pa_cons (pv 3) pa_nil)))))))) (pss_one (ps_ret pe_bl)) pss_nil)
      (pss_one (ps_ret (pe_or (pe_cmpR op_isN (pv 4) pe_non (nomark _)) (pe_one (pe_kn Wi hr (by omega) (pa_cons (pv 4) pa_nil)))))))))), ?_⟩
    rcases tup_or d with ⟨ds, rfl⟩ | hn
    · cases hd with
      | tup e ha =>
      rename_i a xs
      have ll := ha.len
      have fl : [V.int 2, V.int 4].all flatV = true := by decide
      refine ⟨_, rfl, n, _, _, "tuple", _, rfl, .tup e ha, kit_tup _, _, rfl, iteF ⟨_, rfl, a, xs, rfl, .inr (.inl (.inl e)), (show 2 ≤ sizeLine by decide), fun t nt => ?_⟩⟩
      have st := same_new (o := HO.tup [V.int 2, V.int 4]) nt
      have e1 := st _ _ e
      have inV2 : inV (V.int xs.length) [V.int 2, V.int 4] = (decide (ds.length = 2) || decide (ds.length = 4)) := by
        rw [ll, inV_int2, Bool.eq_iff_iff]
        simp
        omega
      refine ⟨t, _, rfl, .inr (.inl (.inl upd_same)), rfl, fl, _, rfl, ite2 (fun c => ?_) (fun c => ?_)⟩
      · have c' : (!inV (V.int xs.length) [V.int 2, V.int 4]) = true := c
        rw [inV2] at c'
        simp at c'
        have : letterD (.tuple ds) = false := by simp [letterD, c'.1, c'.2]
        rw [this] at q
        exact q _ st
      · have c' : ¬ (!inV (V.int xs.length) [V.int 2, V.int 4]) = true := c
        rw [inV2] at c'
        simp at c'
        have h24 : ds.length = 2 ∨ ds.length = 4 := by omega
        have g0 : ∃ v0, xs[0]? = some v0 ∧ Da n H v0 (ds.getD 0 .none) := by
          have lt : 0 < xs.length := by omega
          obtain ⟨d0, e0, h0⟩ := ha.get 0 _ (List.getElem?_eq_getElem lt)
          exact ⟨_, List.getElem?_eq_getElem lt, by rw [List.getD_eq_getElem?_getD, e0]; exact h0⟩
        obtain ⟨v0, x0, h0⟩ := g0
        refine ⟨_, rfl, a, xs, 0, v0, rfl, rfl, .inl (.inl e1), atI_nat (j := 0) x0, n, v0, _, "str", _, rfl, h0.same st, kit_str _, _, rfl, ?_⟩
        have out : isStrD (ds.getD 0 .none) = false → letterD (.tuple ds) = false := fun h => by
          have a1 : ∀ z, strIs z (ds.getD 0 .none) = false := fun z => by
            cases hz : ds.getD 0 .none <;> first | rfl | (rw [hz] at h; cases h)
          simp only [letterD, a1, Bool.false_and, Bool.or_self, Bool.and_false]
          split <;> rfl
        cases hs : isStrD (ds.getD 0 .none) with
        | false =>
          rw [out hs] at q
          exact iteT (q _ st)
        | true =>
          refine iteF ?_
          obtain ⟨z, hz⟩ : ∃ z, ds.getD 0 .none = .str z := by
            cases hz : ds.getD 0 .none with
            | str z => exact ⟨z, rfl⟩
            | _ => rw [hz] at hs; cases hs
          rw [hz] at h0
          cases h0
          refine ⟨_, rfl, a, xs, rfl, .inr (.inl (.inl e1)), rfl, _, rfl, ite2 (fun c2 => ?_) (fun c2 => ?_)⟩
          · have l2 : ds.length = 2 := by
              have := of_decide_eq_true c2
              rw [ll] at this
              have := V.int.inj this
              omega
            match ds, l2, ha, hz with
            | [d0, d1], _, .cons h0 (.cons h1 .nil), hz =>
            rename_i w0 w1
            have hz' : d0 = .str z := hz
            subst hz'
            cases h0
            have eL : letterD (.tuple [.str z, d1]) = (decide (z = "word") && wishD d1) := by simp [letterD, strIs]
            rw [eL] at q
            refine ⟨_, rfl, a, _, 0, _, rfl, rfl, .inl (.inl e1), atI_nat (j := 0) rfl, rfl, _, rfl, ite2 (fun c3 => ?_) (fun c3 => ?_)⟩
            · have c3' : z = "word" := V.str.inj (of_decide_eq_true c3)
              rw [decide_eq_true c3', Bool.true_and] at q
              exact ⟨_, rfl, a, _, 1, _, rfl, rfl, .inl (.inl e1), atI_nat (j := 1) rfl, n, _, d1, rfl, h1.same st, fun H1 s1 => q H1 (st.trans s1)⟩
            · have c3' : ¬ z = "word" := fun hh => c3 (decide_eq_true (congrArg V.str hh))
              rw [decide_eq_false c3', Bool.false_and] at q
              exact q _ st
          · have l4 : ds.length = 4 := by
              rcases h24 with h | h
              · exfalso
                refine c2 (decide_eq_true ?_)
                rw [ll, h]
                rfl
              · exact h
            match ds, l4, ha, hz with
            | [d0, d1, d2, d3], _, .cons h0 (.cons h1 (.cons h2 (.cons h3 .nil))), hz =>
            rename_i w0 w1 w2 w3
            have hz' : d0 = .str z := hz
            subst hz'
            cases h0
            have eL : letterD (.tuple [.str z, d1, d2, d3]) = ((decide (z = "ask") || decide (z = "leave")) && ((countD d1 && countD d2) && (noneD d3 || wishD d3))) := by simp [letterD, strIs]
            rw [eL] at q
            refine ⟨_, rfl, a, _, rfl, .inl (.inl e1), rfl, _, _, rfl, _, _, rfl, _, _, rfl, _, _, rfl, rfl, ?_⟩
            refine ⟨_, rfl, (show 2 ≤ sizeLine by decide), fun t2 nt2 => ?_⟩
            have s2 := st.trans (same_new (o := HO.tup [V.str "ask", V.str "leave"]) nt2)
            have fl2 : [V.str "ask", V.str "leave"].all flatV = true := by decide
            have inS : inV (V.str z) [V.str "ask", V.str "leave"] = (decide (z = "ask") || decide (z = "leave")) := inV_str2 _ _ _
            refine ⟨t2, _, rfl, .inr (.inl (.inl upd_same)), rfl, fl2, _, rfl, ite2 (fun c3 => ?_) (fun c3 => ?_)⟩
            · have c3' : (!inV (V.str z) [V.str "ask", V.str "leave"]) = true := c3
              rw [inS] at c3'
              have c4 : (decide (z = "ask") || decide (z = "leave")) = false := by simpa using c3'
              rw [c4, Bool.false_and] at q
              exact q _ s2
            · have c3' : ¬ (!inV (V.str z) [V.str "ask", V.str "leave"]) = true := c3
              rw [inS] at c3'
              have c4 : (decide (z = "ask") || decide (z = "leave")) = true := by
                cases hh : (decide (z = "ask") || decide (z = "leave")) with
                | true => rfl
                | false => rw [hh] at c3'; exact absurd rfl c3'
              rw [c4, Bool.true_and] at q
              refine ⟨_, rfl, n, _, d1, rfl, h1.same s2, fun H3 s3 => ⟨_, rfl, ?_⟩⟩
              cases k1 : countD d1 with
              | false =>
                rw [k1, Bool.false_and, Bool.false_and] at q
                exact iteT (q _ (s2.trans s3))
              | true =>
                refine iteF ⟨_, rfl, n, _, d2, rfl, h2.same (s2.trans s3), fun H4 s4 => ⟨_, rfl, ?_⟩⟩
                have s04 := (s2.trans s3).trans s4
                rw [k1, Bool.true_and] at q
                cases k2 : countD d2 with
                | false =>
                  rw [k2, Bool.false_and] at q
                  exact iteT (q _ s04)
                | true =>
                  refine iteF ⟨_, rfl, rfl, _, rfl, ?_⟩
                  rw [k2, Bool.true_and] at q
                  cases h3 with
                  | non => exact iteT (q _ s04)
                  | bl b => exact iteF ⟨_, rfl, n, _, _, rfl, .bl b, fun H5 s5 => q H5 (s04.trans s5)⟩
                  | int i => exact iteF ⟨_, rfl, n, _, _, rfl, .int i, fun H5 s5 => q H5 (s04.trans s5)⟩
                  | str x => exact iteF ⟨_, rfl, n, _, _, rfl, .str x, fun H5 s5 => q H5 (s04.trans s5)⟩
                  | lst a1 a2 a3 a4 => exact iteF ⟨_, rfl, n, _, _, rfl, (Da.lst a1 a2 a3 a4).same s04, fun H5 s5 => q H5 (s04.trans s5)⟩
                  | tup a1 a2 => exact iteF ⟨_, rfl, n, _, _, rfl, (Da.tup a1 a2).same s04, fun H5 s5 => q H5 (s04.trans s5)⟩
                  | dct a1 a2 => exact iteF ⟨_, rfl, n, _, _, rfl, (Da.dct a1 a2).same s04, fun H5 s5 => q H5 (s04.trans s5)⟩
    · have t := (not_tup hn).2.1
      refine ⟨_, rfl, n, _, d, "tuple", _, rfl, hd, kit_tup d, _, rfl, ?_⟩
      rw [hn]
      rw [t] at q
      exact iteT (q H (Same.refl H))
end
end K65

set_option Elab.async false
set_option linter.all false
set_option maxRecDepth 100000
namespace K65
open PySem PySem.Spec PyProof.Rows L2 NB

abbrev Wi := Int × List Int
def WiP (w : Wi) : Prop := 1 ≤ w.1 ∧ w.1 < 10 ^ 30 ∧ w.2 ≠ [] ∧ w.2.length ≤ 12 ∧ Pl w.2
def WV (H : Hp) (v : V) : Option Wi → Prop
  | none => v = .non
  | some w => ∃ p q, v = .ref p ∧ H p = some (.tup [.int w.1, .ref q]) ∧ H q = some (.tup (w.2.map V.int))
theorem WV.keep {H H' : Hp} {v : V} : ∀ {o : Option Wi}, WV H v o → Keep H H' → WV H' v o
  | none, h, _ => h
  | some w, ⟨p, q, e, e1, e2⟩, k => ⟨p, q, e, k.tup e1, k.tup e2⟩
abbrev Lt := Str × List Int × Option Wi
def LetAt (H : Hp) (p : Addr) (l : Lt) : Prop := ∃ v, H p = some (.tup (.str l.1 :: (l.2.1.map V.int ++ [v]))) ∧ WV H v l.2.2
theorem LetAt.keep {H H' : Hp} {p : Addr} {l : Lt} (h : LetAt H p l) (k : Keep H H') : LetAt H' p l := by
  obtain ⟨v, e, w⟩ := h
  exact ⟨v, k.tup e, w.keep k⟩
def LetP (l : Lt) : Prop := (((l.1 = "ask" ∨ l.1 = "leave") ∧ l.2.1.length = 2) ∨ (l.1 = "word" ∧ l.2.1 = [] ∧ l.2.2 ≠ none)) ∧ Pl l.2.1 ∧ ∀ w, l.2.2 = some w → WiP w
theorem LetP.few {l : Lt} (h : LetP l) : l.2.1.length ≤ 2 := by
  rcases h.1 with ⟨_, e⟩ | ⟨_, e, _⟩
  · omega
  · rw [e]; exact Nat.zero_le _
theorem LetP.word {l : Lt} (h : LetP l) : l.1 = "ask" ∨ l.1 = "leave" ∨ l.1 = "word" := by
  rcases h.1 with ⟨e | e, _⟩ | ⟨e, _⟩
  · exact .inl e
  · exact .inr (.inl e)
  · exact .inr (.inr e)
def wiD : Option Wi → PyData
  | none => .none
  | some w => .tuple [.int w.1, .tuple (w.2.map PyData.int)]
def ltD (l : Lt) : PyData := .tuple ((.str l.1 :: l.2.1.map PyData.int) ++ [wiD l.2.2])
theorem da_ints {n : Addr} {H : Hp} : ∀ xs : List Int, DaAll n H (xs.map V.int) (xs.map PyData.int)
  | [] => .nil
  | x :: xs => .cons (.int x) (da_ints xs)
theorem da_app {n : Addr} {H : Hp} : ∀ {xs : List V} {ds : List PyData} {v : V} {d : PyData}, DaAll n H xs ds → Da n H v d → DaAll n H (xs ++ [v]) (ds ++ [d])
  | [], _, _, _, .nil, h => .cons h .nil
  | _ :: _, _, _, _, .cons h1 h2, h => .cons h1 (da_app h2 h)
theorem da_wish {n : Addr} {H : Hp} {v : V} : ∀ {o : Option Wi}, WV H v o → Da n H v (wiD o)
  | none, h => by
    have e : v = .non := h
    rw [e]
    exact .non
  | some w, ⟨p, q, e, e1, e2⟩ => by
    rw [e]
    exact .tup e1 (.cons (.int _) (.cons (.tup e2 (da_ints _)) .nil))
theorem da_let {n : Addr} {H : Hp} {p : Addr} {l : Lt} (h : LetAt H p l) : Da n H (.ref p) (ltD l) := by
  obtain ⟨v, e, w⟩ := h
  exact .tup e (da_app (xs := .str l.1 :: l.2.1.map V.int) (.cons (.str _) (da_ints _)) (da_wish w))
theorem count_ints {xs : List Int} (h : Pl xs) : (xs.map PyData.int).all countD = true := by
  rw [List.all_eq_true]
  intro d hd
  obtain ⟨x, hx, rfl⟩ := List.mem_map.mp hd
  exact decide_eq_true (h x hx).1
theorem wish_isD {w : Wi} (h : WiP w) : wishD (wiD (some w)) = true := by
  show (decide (2 = 2) && (decide (1 ≤ w.1) && ((decide (1 ≤ (w.2.map PyData.int).length) && decide ((w.2.map PyData.int).length ≤ 12)) && (w.2.map PyData.int).all countD))) = true
  have l1 : 1 ≤ w.2.length := List.length_pos_iff.mpr h.2.2.1
  rw [count_ints h.2.2.2.2, List.length_map, decide_eq_true h.1, decide_eq_true l1, decide_eq_true h.2.2.2.1]
  rfl
theorem let_isD {l : Lt} (h : LetP l) : letterD (ltD l) = true := by
  obtain ⟨a, ns, o⟩ := l
  rcases h.1 with ⟨hw, h2⟩ | ⟨hw, h0, hn⟩
  · match ns, h2, h with
    | [i, j], _, h =>
    have hi := h.2.1 i (by simp)
    have hj := h.2.1 j (by simp)
    show (if (4 : Nat) = 2 then (strIs "word" (PyData.str a) && wishD (PyData.int i)) else decide ((4 : Nat) = 4) && ((decide (a = "ask") || decide (a = "leave")) && ((decide (0 ≤ i) && decide (0 ≤ j)) && (noneD (wiD o) || wishD (wiD o))))) = true
    rw [if_neg (by decide), decide_eq_true hi.1, decide_eq_true hj.1]
    have ho : (noneD (wiD o) || wishD (wiD o)) = true := by
      cases o with
      | none => rfl
      | some w => rw [wish_isD (h.2.2 w rfl), Bool.or_true]
    rw [ho]
    rcases hw with e | e
    · have e' : a = "ask" := e
      rw [e']; decide +kernel
    · have e' : a = "leave" := e
      rw [e']; decide +kernel
  · have e0 : ns = [] := h0
    subst e0
    have ea : a = "word" := hw
    cases o with
    | none => exact absurd rfl hn
    | some w =>
      show (decide (a = "word") && wishD (wiD (some w))) = true
      rw [wish_isD (h.2.2 w rfl), decide_eq_true ea]
      rfl
theorem dp_app {K : PySem.W.Frag} {H : Hp} : ∀ {xs : List V} {ds : List PyData} {v : V} {d : PyData}, DpAll K H xs ds → Dp K H v d → DpAll K H (xs ++ [v]) (ds ++ [d])
  | [], _, _, _, .nil, h => .cons h .nil
  | _ :: _, _, _, _, .cons h1 h2, h => .cons h1 (dp_app h2 h)
theorem dp_wish {K : PySem.W.Frag} {H : Hp} {v : V} : ∀ {o : Option Wi}, WV H v o → Dp K H v (wiD o)
  | none, h => by
    have e : v = .non := h
    rw [e]
    exact .non
  | some w, ⟨p, q, e, e1, e2⟩ => by
    rw [e]
    exact .tup (.inl (.inl e1)) (.cons (.int _) (.cons (.tup (.inl (.inl e2)) (dp_ints _)) .nil))
theorem dp_let {K : PySem.W.Frag} {H : Hp} {p : Addr} {l : Lt} (h : LetAt H p l) : Dp K H (.ref p) (ltD l) := by
  obtain ⟨v, e, w⟩ := h
  exact .tup (.inl (.inl e)) (dp_app (xs := .str l.1 :: l.2.1.map V.int) (.cons (.str _) (dp_ints _)) (dp_wish w))
end K65

set_option Elab.async false
set_option linter.all false
set_option maxRecDepth 100000
namespace K65
open PySem PySem.Spec PyProof.Rows L2 NB

/-! ### rules of a hand -/
def shrd (q : Rl) : Bool := decide (q.1.1 ≠ q.2.1)
def ownS (q : Rl) (i : Nat) : Sd := if q.1.1 = i then q.1 else q.2
def othT (q : Rl) (i : Nat) : Nat := if q.1.1 = i then q.2.1 else q.1.1
def outS (s : Sd) (lo hi : Int) : Int × Int := if s.2.1 then (lo, if s.2.2 - 1 < hi then s.2.2 - 1 else hi) else (if s.2.2 + 1 > lo then s.2.2 + 1 else lo, hi)
def outB (s : Sd) (p : Int) : Bool := decide ((outS s p p).1 ≤ (outS s p p).2)
def wishN (o : Option Wi) : Int := match o with
  | none => 0
  | some w => w.1
def spShrd : Sp := fun vs H Q _ => ∃ (r : Addr) (rl : Rl), vs = [.ref r] ∧ RuleAt H r rl ∧ Q (.bl (shrd rl)) H
def spOwnS : Sp := fun vs H Q _ => ∃ (r : Addr) (rl : Rl) (i : Nat), vs = [.ref r, .int (i : Int)] ∧ RuleAt H r rl ∧ ∀ p, SideAt H p (ownS rl i) → Q (.ref p) H
def spOthT : Sp := fun vs H Q _ => ∃ (r : Addr) (rl : Rl) (i : Nat), vs = [.ref r, .int (i : Int)] ∧ RuleAt H r rl ∧ Q (.int (othT rl i : Nat)) H
def spOutS : Sp := fun vs H Q _ => ∃ (p : Addr) (sd : Sd) (lo hi : Int), vs = [.ref p, .int lo, .int hi] ∧ SideAt H p sd ∧ ∀ H' g, Same H H' → H' g = some (.tup [.int (outS sd lo hi).1, .int (outS sd lo hi).2]) → Q (.ref g) H'
def spOutB : Sp := fun vs H Q _ => ∃ (p : Addr) (sd : Sd) (pl : Int), vs = [.ref p, .int pl] ∧ SideAt H p sd ∧ ∀ H', Same H H' → Q (.bl (outB sd pl)) H'
def spWishN : Sp := fun vs H Q _ => ∃ (v : V) (o : Option Wi), vs = [v] ∧ WV H v o ∧ Q (.int (wishN o)) H
section
variable {P : Program} {w : World} {K : PySem.W.Frag} {mg : Str → Option Value} {base : Heap}
abbrev a_wish_number : Stmt := topS 12
abbrev n_wish_number : List Str := ["wish"]
theorem sc_wish_number : FnScope n_wish_number ["wish"] (defScope a_wish_number) := ⟨rfl, rfl, rfl, by decide +kernel, rfl, by decide +kernel, by decide +kernel⟩
set_option maxHeartbeats 8000000 in
theorem ok_wish_number {f  : Addr} {fd  : FuncData} {k : Nat}  (F : Fun K "wish_number" "wish_number" a_wish_number f fd)    : FnOk P w K mg base CX0 (k + 1) f fd ["wish"] spWishN := by
  refine F.ok sc_wish_number (fun vs H Q E h => ?_) (fun cdv A outer s H vs Q E hr h => ?_)
  · obtain ⟨v, o, rfl, _⟩ := h
    rfl
  · obtain ⟨v, o, rfl, hv, q⟩ := h
    refine ⟨_, (pss_one (ps_ret (pe_ifExp (pt_cmpR op_isN (pv 0) pe_non (nomark _)) pe_int (pe_ix ix_tup (pv 0) pe_int (fun _ _ => rfl))))), ?_⟩
    cases o with
    | none =>
      obtain rfl : v = .non := hv
      exact ⟨_, rfl, rfl, true, congrArg V.bl (decide_eq_true rfl), iteT q⟩
    | some w =>
      obtain ⟨p, g, rfl, ep, eg⟩ := hv
      exact ⟨_, rfl, rfl, false, congrArg V.bl (decide_eq_false (fun z => by cases z)), iteF ⟨.ref p, rfl, p, _, 0, _, rfl, rfl, .inl (.inl ep), atI_nat (j := 0) rfl, q⟩⟩
abbrev a_is_shared : Stmt := topS 14
abbrev n_is_shared : List Str := ["rule"]
theorem sc_is_shared : FnScope n_is_shared ["rule"] (defScope a_is_shared) := ⟨rfl, rfl, rfl, by decide +kernel, rfl, by decide +kernel, by decide +kernel⟩
set_option maxHeartbeats 8000000 in
theorem ok_is_shared {f  : Addr} {fd  : FuncData} {k : Nat}  (F : Fun K "is_shared" "is_shared" a_is_shared f fd)    : FnOk P w K mg base CX0 (k + 1) f fd ["rule"] spShrd := by
  refine F.ok sc_is_shared (fun vs H Q E h => ?_) (fun cdv A outer s H vs Q E hr h => ?_)
  · obtain ⟨r, rl, rfl, _⟩ := h
    rfl
  · obtain ⟨r, rl, rfl, hr1, q⟩ := h
    refine ⟨_, (pss_one (ps_ret (pe_cmpR op_ne (pe_ix ix_tup (pe_ix ix_tup (pv 0) pe_int (fun _ _ => rfl)) pe_int (fun _ _ => rfl)) (pe_ix ix_tup (pe_ix ix_tup (pv 0) pe_int (fun _ _ => rfl)) pe_int (fun _ _ => rfl)) (nomark _)))), ?_⟩
    obtain ⟨p1, p2, er, s1, s2⟩ := hr1
    have s1' : H p1 = some (.tup [.int (rl.1.1 : Int), .str (word rl.1.2.1), .int rl.1.2.2]) := s1
    have s2' : H p2 = some (.tup [.int (rl.2.1 : Int), .str (word rl.2.2.1), .int rl.2.2.2]) := s2
    refine ⟨.ref r, rfl, r, _, 0, .ref p1, rfl, rfl, .inl (.inl er), atI_nat (j := 0) rfl, p1, _, 0, _, rfl, rfl, .inl (.inl s1'), atI_nat (j := 0) rfl, .ref r, rfl, r, _, 1, .ref p2, rfl, rfl, .inl (.inl er), atI_nat (j := 1) rfl, p2, _, 0, _, rfl, rfl, .inl (.inl s2'), atI_nat (j := 0) rfl, rfl, ?_⟩
    have e : (!decide (V.int (rl.1.1 : Int) = V.int (rl.2.1 : Int))) = shrd rl := by
      unfold shrd
      by_cases h : rl.1.1 = rl.2.1
      · rw [h]; simp
      · have : ¬ V.int (rl.1.1 : Int) = V.int (rl.2.1 : Int) := fun z => h (by injection z with z; omega)
        simp [this, h]
    rw [e]
    exact q
abbrev a_own_side : Stmt := topS 15
abbrev n_own_side : List Str := ["rule", "thing"]
theorem sc_own_side : FnScope n_own_side ["rule", "thing"] (defScope a_own_side) := ⟨rfl, rfl, rfl, by decide +kernel, rfl, by decide +kernel, by decide +kernel⟩
set_option maxHeartbeats 8000000 in
theorem ok_own_side {f  : Addr} {fd  : FuncData} {k : Nat}  (F : Fun K "own_side" "own_side" a_own_side f fd)    : FnOk P w K mg base CX0 (k + 1) f fd ["rule", "thing"] spOwnS := by
  refine F.ok sc_own_side (fun vs H Q E h => ?_) (fun cdv A outer s H vs Q E hr h => ?_)
  · obtain ⟨r, rl, i, rfl, _⟩ := h
    rfl
  · obtain ⟨r, rl, i, rfl, hr1, q⟩ := h
    refine ⟨_, (pss_one (ps_ret (pe_ifExp (pt_cmpR op_eq (pe_ix ix_tup (pe_ix ix_tup (pv 0) pe_int (fun _ _ => rfl)) pe_int (fun _ _ => rfl)) (pv 1) (nomark _)) (pe_ix ix_tup (pv 0) pe_int (fun _ _ => rfl)) (pe_ix ix_tup (pv 0) pe_int (fun _ _ => rfl))))), ?_⟩
    obtain ⟨p1, p2, er, s1, s2⟩ := hr1
    have s1' : H p1 = some (.tup [.int (rl.1.1 : Int), .str (word rl.1.2.1), .int rl.1.2.2]) := s1
    refine ⟨.ref r, rfl, r, _, 0, .ref p1, rfl, rfl, .inl (.inl er), atI_nat (j := 0) rfl, p1, _, 0, _, rfl, rfl, .inl (.inl s1'), atI_nat (j := 0) rfl, _, rfl, rfl, ?_⟩
    by_cases h : rl.1.1 = i
    · have o := q p1 (by unfold ownS; rw [if_pos h]; exact s1)
      exact ⟨true, congrArg V.bl (decide_eq_true (by rw [h])), iteT ⟨.ref r, rfl, r, _, 0, .ref p1, rfl, rfl, .inl (.inl er), atI_nat (j := 0) rfl, o⟩⟩
    · have o := q p2 (by unfold ownS; rw [if_neg h]; exact s2)
      exact ⟨false, congrArg V.bl (decide_eq_false (fun z => h (by injection z with z; omega))), iteF ⟨.ref r, rfl, r, _, 1, .ref p2, rfl, rfl, .inl (.inl er), atI_nat (j := 1) rfl, o⟩⟩
abbrev a_other_thing : Stmt := topS 16
abbrev n_other_thing : List Str := ["rule", "thing"]
theorem sc_other_thing : FnScope n_other_thing ["rule", "thing"] (defScope a_other_thing) := ⟨rfl, rfl, rfl, by decide +kernel, rfl, by decide +kernel, by decide +kernel⟩
set_option maxHeartbeats 8000000 in
theorem ok_other_thing {f  : Addr} {fd  : FuncData} {k : Nat}  (F : Fun K "other_thing" "other_thing" a_other_thing f fd)    : FnOk P w K mg base CX0 (k + 1) f fd ["rule", "thing"] spOthT := by
  refine F.ok sc_other_thing (fun vs H Q E h => ?_) (fun cdv A outer s H vs Q E hr h => ?_)
  · obtain ⟨r, rl, i, rfl, _⟩ := h
    rfl
  · obtain ⟨r, rl, i, rfl, hr1, q⟩ := h
    refine ⟨_, (pss_one (ps_ret (pe_ifExp (pt_cmpR op_eq (pe_ix ix_tup (pe_ix ix_tup (pv 0) pe_int (fun _ _ => rfl)) pe_int (fun _ _ => rfl)) (pv 1) (nomark _)) (pe_ix ix_tup (pe_ix ix_tup (pv 0) pe_int (fun _ _ => rfl)) pe_int (fun _ _ => rfl)) (pe_ix ix_tup (pe_ix ix_tup (pv 0) pe_int (fun _ _ => rfl)) pe_int (fun _ _ => rfl))))), ?_⟩
    obtain ⟨p1, p2, er, s1, s2⟩ := hr1
    have s1' : H p1 = some (.tup [.int (rl.1.1 : Int), .str (word rl.1.2.1), .int rl.1.2.2]) := s1
    have s2' : H p2 = some (.tup [.int (rl.2.1 : Int), .str (word rl.2.2.1), .int rl.2.2.2]) := s2
    refine ⟨.ref r, rfl, r, _, 0, .ref p1, rfl, rfl, .inl (.inl er), atI_nat (j := 0) rfl, p1, _, 0, _, rfl, rfl, .inl (.inl s1'), atI_nat (j := 0) rfl, _, rfl, rfl, ?_⟩
    unfold othT at q
    by_cases h : rl.1.1 = i
    · rw [if_pos h] at q
      exact ⟨true, congrArg V.bl (decide_eq_true (by rw [h])), iteT ⟨.ref r, rfl, r, _, 1, .ref p2, rfl, rfl, .inl (.inl er), atI_nat (j := 1) rfl, p2, _, 0, _, rfl, rfl, .inl (.inl s2'), atI_nat (j := 0) rfl, q⟩⟩
    · rw [if_neg h] at q
      exact ⟨false, congrArg V.bl (decide_eq_false (fun z => h (by injection z with z; omega))), iteF ⟨.ref r, rfl, r, _, 0, .ref p1, rfl, rfl, .inl (.inl er), atI_nat (j := 0) rfl, p1, _, 0, _, rfl, rfl, .inl (.inl s1'), atI_nat (j := 0) rfl, q⟩⟩
abbrev a_out_span : Stmt := topS 17
abbrev n_out_span : List Str := ["side", "low", "high", "word", "place"]
theorem sc_out_span : FnScope n_out_span ["side", "low", "high"] (defScope a_out_span) := ⟨rfl, rfl, rfl, by decide +kernel, rfl, by decide +kernel, by decide +kernel⟩
set_option maxHeartbeats 8000000 in
theorem ok_out_span {f  : Addr} {fd  : FuncData} {k : Nat}  (F : Fun K "out_span" "out_span" a_out_span f fd)   (m_max : mg "max" = none) (m_min : mg "min" = none) : FnOk P w K mg base CX0 (k + 1) f fd ["side", "low", "high"] spOutS := by
  refine F.ok sc_out_span (fun vs H Q E h => ?_) (fun cdv A outer s H vs Q E hr h => ?_)
  · obtain ⟨p, sd, lo, hi, rfl, _⟩ := h
    rfl
  · obtain ⟨p, sd, lo, hi, rfl, es, q⟩ := h
    refine ⟨_, (pss_cons (ps_par (i := 3) (j := 4) (by rfl) sc_out_span.nd rfl rfl (by decide) rfl rfl (pa_cons (pe_ix ix_tup (pv 0) pe_int (fun _ _ => rfl)) (pa_cons (pe_ix ix_tup (pv 0) pe_int (fun _ _ => rfl)) pa_nil)) (by rfl))
      (pss_cons (ps_if (pt_cmpR op_eq (pv 3) pe_str (nomark _)) (pss_one (ps_ret (pe_tup (pa_cons (pv 1) (pa_cons (pe_callB (call_min2 rfl) (by rfl) m_min (by decide +kernel) (pa_cons (pv 2) (pa_cons (pe_op op_sub (pv 4) pe_int) pa_nil))) pa_nil))))) pss_nil)
      (pss_one (ps_ret (pe_tup (pa_cons (pe_callB (call_max2 rfl) (by rfl) m_max (by decide +kernel) (pa_cons (pv 1) (pa_cons (pe_op op_add (pv 4) pe_int) pa_nil))) (pa_cons (pv 2) pa_nil))))))), ?_⟩
    have es' : H p = some (.tup [.int (sd.1 : Int), .str (word sd.2.1), .int sd.2.2]) := es
    unfold outS at q
    refine ⟨.ref p, rfl, p, _, 1, _, rfl, rfl, .inl (.inl es'), atI_nat (j := 1) rfl, .ref p, rfl, p, _, 2, _, rfl, rfl, .inl (.inl es'), atI_nat (j := 2) rfl, _, _, rfl, ?_⟩
    dsimp only [List.set]
    obtain ⟨n, b, pl⟩ := sd
    refine ⟨_, rfl, rfl, b, ?_, ?_⟩
    · show V.bl (decide (V.str (word b) = V.str "from")) = V.bl b
      cases b <;> decide +kernel
    · cases b with
      | true =>
        refine iteT ⟨_, rfl, _, rfl, _, rfl, pl, 1, rfl, rfl, hi, pl - 1, rfl, (show 2 ≤ sizeLine by decide), fun g ng => ?_⟩
        exact q _ g (same_new ng) upd_same
      | false =>
        refine iteF ⟨_, rfl, _, rfl, pl, 1, rfl, rfl, lo, pl + 1, rfl, _, rfl, (show 2 ≤ sizeLine by decide), fun g ng => ?_⟩
        exact q _ g (same_new ng) upd_same
abbrev a_is_out_at : Stmt := topS 18
abbrev n_is_out_at : List Str := ["side", "place", "least", "most"]
theorem sc_is_out_at : FnScope n_is_out_at ["side", "place"] (defScope a_is_out_at) := ⟨rfl, rfl, rfl, by decide +kernel, rfl, by decide +kernel, by decide +kernel⟩
set_option maxHeartbeats 8000000 in
theorem ok_is_out_at {f fOs : Addr} {fd fdOs : FuncData} {k : Nat}  (F : Fun K "is_out_at" "is_out_at" a_is_out_at f fd) (Os : Kn P w K mg base 1 "out_span" ["side", "low", "high"] spOutS fOs fdOs)   : FnOk P w K mg base CX0 (k + 2) f fd ["side", "place"] spOutB := by
  refine F.ok sc_is_out_at (fun vs H Q E h => ?_) (fun cdv A outer s H vs Q E hr h => ?_)
  · obtain ⟨p, sd, pl, rfl, _⟩ := h
    rfl
  · obtain ⟨p, sd, pl, rfl, es, q⟩ := h
    refine ⟨_, (pss_cons (ps_asg (pe_kn Os hr (by omega) (pa_cons (pv 0) (pa_cons (pv 1) (pa_cons (pv 1) pa_nil)))) (pg_tup rfl (pgs_cons (pg_name (i := 2) sc_is_out_at.nd rfl (.inl rfl)) (pgs_cons (pg_name (i := 3) sc_is_out_at.nd rfl (.inl rfl)) pgs_nil))))
      (pss_one (ps_ret (pe_cmpR op_le (pv 2) (pv 3) (nomark _))))), ?_⟩
    refine ⟨_, rfl, _, rfl, _, rfl, p, sd, pl, pl, rfl, es, fun H1 g s1 eg => ?_⟩
    refine ⟨g, _, rfl, .inl (.inl eg), rfl, _, _, rfl, _, _, rfl, rfl, ?_⟩
    exact ⟨_, rfl, _, rfl, _, _, rfl, rfl, q H1 s1⟩
end
end K65

set_option Elab.async false
set_option linter.all false
set_option maxRecDepth 100000
/-! d[k] op= v: what is read. -/
namespace NB
open PySem PySem.Spec PyProof.Rows L2
theorem get_dictK {X : Cx} (hu : X.A.units + 1 < cLine) : PGet X (fun x y H Q => ∃ a v, x = .ref a ∧ DGet H a y (some v) ∧ Q v H) := by
  intro pins s σ H o i ov iv Q I ro ri h
  obtain ⟨a, v, rfl, g, q⟩ := h
  cases ro
  exact d_getItem hu I g ri fun w' s' I' r => ⟨v, H, I', r, q⟩
end NB

set_option Elab.async false
set_option linter.all false
set_option maxRecDepth 100000
namespace K65
open PySem PySem.Spec PyProof.Rows L2 NB

/-! ### a hand -/
structure Hd where
  thing : Nat
  place : Int
  wish : Option Wi
  rows : List (Int × Rl × Int)
def look (rows : List (Int × Rl × Int)) (n : Int) : Option (Rl × Int) := (rows.find? fun r => decide (r.1 = n)).map (·.2)
def kvT (rows : List (Int × Rl × Int)) : List (Key × V) := rows.map fun r => (Sum.inl r.1, V.int r.2.2)
def kvH (hs : List (Int × Addr)) : List (Key × V) := hs.map fun z => (Sum.inl z.1, V.ref z.2)
def Held (H : Hp) : List (Int × Addr) → List (Int × Rl × Int) → Prop
  | [], [] => True
  | z :: hs, r :: rows => z.1 = r.1 ∧ RuleAt H z.2 r.2.1 ∧ Held H hs rows
  | _, _ => False
theorem Held.keep {H H' : Hp} (k : Keep H H') : ∀ {hs : List (Int × Addr)} {rows : List (Int × Rl × Int)}, Held H hs rows → Held H' hs rows
  | [], [], _ => trivial
  | _ :: _, _ :: _, ⟨a, b, c⟩ => ⟨a, b.keep k, c.keep k⟩
  | [], _ :: _, h => h.elim
  | _ :: _, [], h => h.elim
theorem Held.keys {H : Hp} : ∀ {hs : List (Int × Addr)} {rows : List (Int × Rl × Int)}, Held H hs rows → hs.map (·.1) = rows.map (·.1)
  | [], [], _ => rfl
  | z :: hs, r :: rows, ⟨a, _, c⟩ => by rw [List.map_cons, List.map_cons, a, c.keys]
  | [], _ :: _, h => h.elim
  | _ :: _, [], h => h.elim
theorem look_cons (r : Int × Rl × Int) (rows : List (Int × Rl × Int)) (n : Int) : look (r :: rows) n = if r.1 = n then some r.2 else look rows n := by
  unfold look
  rw [List.find?_cons]
  by_cases h : r.1 = n
  · simp [h]
  · simp [h]
theorem valT (rows : List (Int × Rl × Int)) (n : Int) : valV (kvT rows) (Sum.inl n) = (look rows n).map fun z => V.int z.2 := by
  induction rows with
  | nil => rfl
  | cons r rows ih =>
    rw [look_cons]
    unfold kvT valV at ih ⊢
    rw [List.map_cons, List.find?_cons]
    by_cases h : r.1 = n
    · simp [h]
    · have : ¬ ((Sum.inl r.1 : Key) = Sum.inl n) := fun z => h (Sum.inl.inj z)
      simp only [this, h, decide_false, if_false]
      exact ih
theorem valH {H : Hp} (n : Int) : ∀ {hs : List (Int × Addr)} {rows : List (Int × Rl × Int)}, Held H hs rows →
    (look rows n = none ∧ valV (kvH hs) (Sum.inl n) = none) ∨ ∃ q c a, look rows n = some (q, c) ∧ valV (kvH hs) (Sum.inl n) = some (V.ref a) ∧ RuleAt H a q
  | [], [], _ => .inl ⟨rfl, rfl⟩
  | z :: hs, r :: rows, ⟨a, b, c⟩ => by
    have ih := valH n c
    have e : valV (kvH (z :: hs)) (Sum.inl n) = if r.1 = n then some (V.ref z.2) else valV (kvH hs) (Sum.inl n) := by
      unfold kvH valV
      rw [List.map_cons, List.find?_cons]
      by_cases h : r.1 = n
      · simp [h, a]
      · have : ¬ ((Sum.inl z.1 : Key) = Sum.inl n) := fun w => h (a ▸ Sum.inl.inj w)
        simp only [this, h, decide_false, if_false]
    rw [look_cons, e]
    by_cases h : r.1 = n
    · rw [if_pos h, if_pos h]
      exact .inr ⟨r.2.1, r.2.2, z.2, rfl, rfl, b⟩
    · rw [if_neg h, if_neg h]
      exact ih
  | [], _ :: _, h => h.elim
  | _ :: _, [], h => h.elim
theorem rs {H H' : Hp} {a : Addr} {u : HO} (s : Same H H') (e : Rd H a u) : Rd H' a u := by
  rcases e with e | ⟨od, e⟩
  · exact .inl (s _ _ e)
  · exact .inr ⟨od, s _ _ e⟩
theorem DGr {H : Hp} {a : Addr} {kvs : List (Key × V)} {k : Key} (e : Rd H a (.dK kvs)) : DGet H a (kV k) (valV kvs k) := .inl ⟨kvs, k, e, rfl, rfl⟩
theorem ru {H : Hp} {a b : Addr} {u o : HO} (n : a ≠ b) (e : Rd H a u) : Rd (upd H b o) a u := by
  rcases e with e | ⟨od, e⟩
  · exact .inl ((upd_ne n).trans e)
  · exact .inr ⟨od, (upd_ne n).trans e⟩
theorem rn {H : Hp} {a b C dx : Addr} {kvs : List (Key × V)} {fs : List (Str × V)} (e : Rd H a (.dK kvs)) (i : H b = some (.ins C dx fs)) : a ≠ b := fun z => by
  rcases e with e | ⟨od, e⟩ <;> (rw [z, i] at e; cases e)
def HandF (C : Addr) (H : Hp) (x dx : Addr) (v : V) (D T : Addr) (h : Hd) : Prop := H x = some (.ins C dx [("thing", .int (h.thing : Int)), ("place", .int h.place), ("wish", v), ("held", .ref D), ("tally", .ref T)])
def HandAt (C : Addr) (H : Hp) (x D T : Addr) (h : Hd) : Prop := ∃ dx v hs, HandF C H x dx v D T h ∧ WV H v h.wish ∧ Rd H D (.dK (kvH hs)) ∧ H T = some (.dK (kvT h.rows)) ∧ Held H hs h.rows
theorem HandAt.same {C : Addr} {H H' : Hp} {x D T : Addr} {h : Hd} (a : HandAt C H x D T h) (s : Same H H') : HandAt C H' x D T h := by
  obtain ⟨dx, v, hs, e, w, d, t, l⟩ := a
  exact ⟨dx, v, hs, s _ _ e, w.keep (.same s), rs s d, s _ _ t, l.keep (.same s)⟩
structure HandTxt (K : PySem.W.Frag) (C : Addr) : Prop where
  cl : Cls K C
  n1 : NoAttr K C "thing"
  n2 : NoAttr K C "place"
  n3 : NoAttr K C "wish"
  n4 : NoAttr K C "held"
  n5 : NoAttr K C "tally"
section
variable {i p v d t : V}
theorem lk1 : ([("thing", i), ("place", p), ("wish", v), ("held", d), ("tally", t)] : List (Str × V)).lookup ("thing" : Str) = some i := by
  simp [List.lookup]
theorem lk2 : ([("thing", i), ("place", p), ("wish", v), ("held", d), ("tally", t)] : List (Str × V)).lookup ("place" : Str) = some p := by
  have n1 : (("place" : Str) == "thing") = false := by decide +kernel
  simp [List.lookup, n1]
theorem lk3 : ([("thing", i), ("place", p), ("wish", v), ("held", d), ("tally", t)] : List (Str × V)).lookup ("wish" : Str) = some v := by
  have n1 : (("wish" : Str) == "thing") = false := by decide +kernel
  have n2 : (("wish" : Str) == "place") = false := by decide +kernel
  simp [List.lookup, n1, n2]
theorem lk4 : ([("thing", i), ("place", p), ("wish", v), ("held", d), ("tally", t)] : List (Str × V)).lookup ("held" : Str) = some d := by
  have n1 : (("held" : Str) == "thing") = false := by decide +kernel
  have n2 : (("held" : Str) == "place") = false := by decide +kernel
  have n3 : (("held" : Str) == "wish") = false := by decide +kernel
  simp [List.lookup, n1, n2, n3]
theorem lk5 : ([("thing", i), ("place", p), ("wish", v), ("held", d), ("tally", t)] : List (Str × V)).lookup ("tally" : Str) = some t := by
  have n1 : (("tally" : Str) == "thing") = false := by decide +kernel
  have n2 : (("tally" : Str) == "place") = false := by decide +kernel
  have n3 : (("tally" : Str) == "wish") = false := by decide +kernel
  have n4 : (("tally" : Str) == "held") = false := by decide +kernel
  simp [List.lookup, n1, n2, n3, n4]
theorem lkm {m : Str} (h1 : (m == "thing") = false := by decide +kernel) (h2 : (m == "place") = false := by decide +kernel) (h3 : (m == "wish") = false := by decide +kernel) (h4 : (m == "held") = false := by decide +kernel) (h5 : (m == "tally") = false := by decide +kernel) :
    ([("thing", i), ("place", p), ("wish", v), ("held", d), ("tally", t)] : List (Str × V)).lookup m = none := by
  simp [List.lookup, h1, h2, h3, h4, h5]
end
def Hd.shares (h : Hd) (n : Int) : Bool := match look h.rows n with
  | some z => shrd z.1
  | none => false
def leaveB (i : Nat) (q : Rl) (c : Int) : Bool := decide (c % 2 = 0) == decide (q.1.1 = i)
def Hd.goal (h : Hd) : Int := match h.wish with
  | none => h.place
  | some w => w.2.getD h.thing 0
def spShares (C : Addr) : Sp := fun vs H Q _ => ∃ (x D T : Addr) (h : Hd) (n : Int), vs = [.ref x, .int n] ∧ HandAt C H x D T h ∧ ∀ H', Same H H' → Q (.bl (h.shares n)) H'
def spCount (C : Addr) : Sp := fun vs H Q _ => ∃ (x D T : Addr) (h : Hd) (n : Int) (rl : Rl) (c : Int), vs = [.ref x, .int n] ∧ HandAt C H x D T h ∧ look h.rows n = some (rl, c) ∧ shrd rl = true ∧ ∀ H', Same H H' → Q (.int c) H'
def spLeave (C : Addr) : Sp := fun vs H Q _ => ∃ (x D T : Addr) (h : Hd) (n : Int) (rl : Rl) (c : Int), vs = [.ref x, .int n] ∧ HandAt C H x D T h ∧ look h.rows n = some (rl, c) ∧ shrd rl = true ∧ ∀ H', Same H H' → Q (.bl (leaveB h.thing rl c)) H'
def spGoal (C : Addr) : Sp := fun vs H Q _ => ∃ (x D T : Addr) (h : Hd), vs = [.ref x] ∧ HandAt C H x D T h ∧ (∀ w, h.wish = some w → h.thing < w.2.length) ∧ Q (.int h.goal) H
def spHasPl (C : Addr) : Sp := fun vs H Q _ => ∃ (x D T : Addr) (h : Hd) (v : V) (o : Option Wi), vs = [.ref x, v] ∧ HandAt C H x D T h ∧ WV H v o ∧ Q (.bl (match o with | none => true | some w => decide (h.thing < w.2.length))) H
section
variable {P : Program} {w : World} {K : PySem.W.Frag} {mg : Str → Option Value} {base : Heap}
abbrev a_Hand_shares : Stmt := inClass (topS 19) 1
abbrev n_Hand_shares : List Str := ["self", "number"]
theorem sc_Hand_shares : FnScope n_Hand_shares ["self", "number"] (defScope a_Hand_shares) := ⟨rfl, rfl, rfl, by decide +kernel, rfl, by decide +kernel, by decide +kernel⟩
set_option maxHeartbeats 8000000 in
theorem ok_Hand_shares {f fWh fIs : Addr} {fd fdWh fdIs : FuncData} {k : Nat} {C : Addr} (F : Fun K "shares" "Hand.shares" a_Hand_shares f fd) (Wh : Kn P w K mg base 1 "is_whole" ["thing"] (spLook wholeD) fWh fdWh) (Is : Kn P w K mg base 1 "is_shared" ["rule"] spShrd fIs fdIs) (X : HandTxt K C)  : FnOk P w K mg base CX0 (k + 3) f fd ["self", "number"] (spShares C) := by
  refine F.ok sc_Hand_shares (fun vs H Q E h => ?_) (fun cdv A outer s H vs Q E hr h => ?_)
  · obtain ⟨x, D, T, h, n, rfl, _⟩ := h
    rfl
  · obtain ⟨x, D, T, h, n, rfl, ha, q⟩ := h
    refine ⟨_, (pss_one (ps_ret (pe_and (pe_kn Wh hr (by omega) (pa_cons (pv 1) pa_nil)) (pe_and (pe_cmp (pc_din (hu_of hr) (pv 1) (pe_fld (pv 0) rfl))) (pe_one (pe_kn Is hr (by omega) (pa_cons (pe_dget (hu_of hr) (pe_fld (pv 0) rfl) (pv 1) (fun _ _ => rfl)) pa_nil))))))), ?_⟩
    obtain ⟨dx, v, hs, e, w1, d, t, l⟩ := ha
    have e' : H x = some (.ins C dx [("thing", .int (h.thing : Int)), ("place", .int h.place), ("wish", v), ("held", .ref D), ("tally", .ref T)]) := e
    refine ⟨_, rfl, 0, .int n, _, rfl, .int n, fun H1 s1 => ⟨true, rfl, iteT ?_⟩⟩
    have e1 := s1 _ _ e'
    have d1 := rs s1 d
    have l1 := l.keep (.same s1)
    have q1 := q H1 s1
    unfold Hd.shares at q1
    refine ⟨_, rfl, .ref x, rfl, x, C, dx, _, _, rfl, e1, X.cl, X.n4, lk4, D, valV (kvH hs) (.inl n), rfl, DGr (k := .inl n) d1, _, rfl, ?_⟩
    rcases valH n l1 with ⟨a1, a2⟩ | ⟨q', c, a, a1, a2, a3⟩
    · rw [a1] at q1
      rw [a2]
      exact iteF q1
    · rw [a1] at q1
      rw [a2]
      exact iteT ⟨.ref x, rfl, x, C, dx, _, _, rfl, e1, X.cl, X.n4, lk4, _, rfl, D, .ref a, rfl, a2 ▸ DGr (k := .inl n) d1, a, q', rfl, a3, q1⟩
abbrev a_Hand_count_of : Stmt := inClass (topS 19) 3
abbrev n_Hand_count_of : List Str := ["self", "number"]
theorem sc_Hand_count_of : FnScope n_Hand_count_of ["self", "number"] (defScope a_Hand_count_of) := ⟨rfl, rfl, rfl, by decide +kernel, rfl, by decide +kernel, by decide +kernel⟩
set_option maxHeartbeats 8000000 in
theorem ok_Hand_count_of {f  : Addr} {fd  : FuncData} {k : Nat} {C : Addr} (F : Fun K "count_of" "Hand.count_of" a_Hand_count_of f fd) (Sh : C8.Met P w K mg base 3 C "shares" (spShares C) []) (X : HandTxt K C)  : FnOk P w K mg base CX0 (k + 4) f fd ["self", "number"] (spCount C) := by
  refine F.ok sc_Hand_count_of (fun vs H Q E h => ?_) (fun cdv A outer s H vs Q E hr h => ?_)
  · obtain ⟨x, D, T, h, n, rl, c, rfl, _⟩ := h
    rfl
  · obtain ⟨x, D, T, h, n, rl, c, rfl, ha, hl, hs0, q⟩ := h
    refine ⟨_, (pss_cons (ps_if (pt_not (pt_val (C8.pe_mt Sh hr (by omega) (pv 0) (pa_cons (pv 1) pa_nil)))) (pss_one (ps_never)) pss_nil)
      (pss_one (ps_ret (pe_dget (hu_of hr) (pe_fld (pv 0) rfl) (pv 1) (fun _ _ => rfl))))), ?_⟩
    have sh : h.shares n = true := by
      unfold Hd.shares
      rw [hl]
      exact hs0
    have ha0 := ha
    obtain ⟨dx, v, hs, e, w1, d, t, l⟩ := ha
    refine ⟨.ref x, rfl, x, dx, _, rfl, e, lkm, .int n, rfl, x, D, T, h, n, rfl, ha0, fun H1 s1 => ⟨true, congrArg V.bl sh, iteF ?_⟩⟩
    have vt : valV (kvT h.rows) (Sum.inl n) = some (V.int c) := by
      rw [valT, hl]
      rfl
    exact ⟨.ref x, rfl, x, C, dx, _, _, rfl, s1 _ _ e, X.cl, X.n5, lk5, .int n, rfl, T, .int c, rfl, vt ▸ DGet.k (k := .inl n) (s1 _ _ t), q H1 s1⟩
abbrev a_Hand_has_leave : Stmt := inClass (topS 19) 4
abbrev n_Hand_has_leave : List Str := ["self", "number", "even"]
theorem sc_Hand_has_leave : FnScope n_Hand_has_leave ["self", "number"] (defScope a_Hand_has_leave) := ⟨rfl, rfl, rfl, by decide +kernel, rfl, by decide +kernel, by decide +kernel⟩
set_option maxHeartbeats 8000000 in
theorem ok_Hand_has_leave {f  : Addr} {fd  : FuncData} {k : Nat} {C : Addr} (F : Fun K "has_leave" "Hand.has_leave" a_Hand_has_leave f fd) (Co : C8.Met P w K mg base 4 C "count_of" (spCount C) []) (X : HandTxt K C)  : FnOk P w K mg base CX0 (k + 5) f fd ["self", "number"] (spLeave C) := by
  refine F.ok sc_Hand_has_leave (fun vs H Q E h => ?_) (fun cdv A outer s H vs Q E hr h => ?_)
  · obtain ⟨x, D, T, h, n, rl, c, rfl, _⟩ := h
    rfl
  · obtain ⟨x, D, T, h, n, rl, c, rfl, ha, hl, hs0, q⟩ := h
    refine ⟨_, (pss_cons (ps_set (i := 2) sc_Hand_has_leave.nd rfl (.inl rfl) (pe_cmpR op_eq (pe_op op_mod (C8.pe_mt Co hr (by omega) (pv 0) (pa_cons (pv 1) pa_nil)) pe_int) pe_int (nomark _)))
      (pss_one (ps_ret (pe_cmpR op_eq (pv 2) (pe_cmpR op_eq (pe_ix ix_tup (pe_ix ix_tup (pe_dget (hu_of hr) (pe_fld (pv 0) rfl) (pv 1) (fun _ _ => rfl)) pe_int (fun _ _ => rfl)) pe_int (fun _ _ => rfl)) (pe_fld (pv 0) rfl) (nomark _)) (nomark _))))), ?_⟩
    have ha0 := ha
    obtain ⟨dx, v, hs, e, w1, d, t, l⟩ := ha
    refine ⟨.ref x, rfl, x, dx, _, rfl, e, lkm, .int n, rfl, x, D, T, h, n, rl, c, rfl, ha0, hl, hs0, fun H1 s1 => ?_⟩
    refine ⟨c, 2, rfl, rfl, (show (0 : Int) < 2 by decide), rfl, ?_⟩
    have l1 := l.keep (.same s1)
    rcases valH n l1 with ⟨a1, a2⟩ | ⟨q', c', a, a1, a2, a3⟩
    · rw [hl] at a1
      cases a1
    rw [hl] at a1
    cases a1
    obtain ⟨p1, p2, er, g1, g2⟩ := a3
    have g1' : H1 p1 = some (.tup [.int (rl.1.1 : Int), .str (word rl.1.2.1), .int rl.1.2.2]) := g1
    dsimp only [List.set]
    refine ⟨_, rfl, .ref x, rfl, x, C, dx, _, _, rfl, s1 _ _ e, X.cl, X.n4, lk4, .int n, rfl, D, .ref a, rfl, a2 ▸ DGr (k := .inl n) (rs s1 d), a, _, 0, .ref p1, rfl, rfl, .inl (.inl er), atI_nat (j := 0) rfl, p1, _, 0, _, rfl, rfl, .inl (.inl g1'), atI_nat (j := 0) rfl, .ref x, rfl, x, C, dx, _, _, rfl, s1 _ _ e, X.cl, X.n1, lk1, rfl, rfl, ?_⟩
    have e2 : decide (V.bl (decide (V.int (c % 2) = V.int 0)) = V.bl (decide (V.int (rl.1.1 : Int) = V.int (h.thing : Int)))) = leaveB h.thing rl c := by
      unfold leaveB
      have f1 : decide (V.int (c % 2) = V.int 0) = decide (c % 2 = 0) := decide_eq_decide.mpr ⟨fun z => by injection z, fun z => by rw [z]⟩
      have f2 : decide (V.int (rl.1.1 : Int) = V.int (h.thing : Int)) = decide (rl.1.1 = h.thing) := decide_eq_decide.mpr ⟨fun z => by injection z with z; omega, fun z => by rw [z]⟩
      rw [f1, f2, dec_bl]
    rw [e2]
    exact q H1 s1
abbrev a_Hand_wished_place : Stmt := inClass (topS 19) 7
abbrev n_Hand_wished_place : List Str := ["self"]
theorem sc_Hand_wished_place : FnScope n_Hand_wished_place ["self"] (defScope a_Hand_wished_place) := ⟨rfl, rfl, rfl, by decide +kernel, rfl, by decide +kernel, by decide +kernel⟩
set_option maxHeartbeats 8000000 in
theorem ok_Hand_wished_place {f  : Addr} {fd  : FuncData} {k : Nat} {C : Addr} (F : Fun K "wished_place" "Hand.wished_place" a_Hand_wished_place f fd)  (X : HandTxt K C)  : FnOk P w K mg base CX0 (k + 1) f fd ["self"] (spGoal C) := by
  refine F.ok sc_Hand_wished_place (fun vs H Q E h => ?_) (fun cdv A outer s H vs Q E hr h => ?_)
  · obtain ⟨x, D, T, h, rfl, _⟩ := h
    rfl
  · obtain ⟨x, D, T, h, rfl, ha, hw, q⟩ := h
    refine ⟨_, (pss_one (ps_ret (pe_ifExp (pt_cmpR op_isN (pe_fld (pv 0) rfl) pe_non (nomark _)) (pe_fld (pv 0) rfl) (pe_ix ix_tup (pe_ix ix_tup (pe_fld (pv 0) rfl) pe_int (fun _ _ => rfl)) (pe_fld (pv 0) rfl) (fun _ _ => rfl))))), ?_⟩
    obtain ⟨dx, v, hs, e, w1, d, t, l⟩ := ha
    unfold Hd.goal at q
    cases hh : h.wish with
    | none =>
      rw [hh] at w1 q
      obtain rfl : v = .non := w1
      exact ⟨.ref x, rfl, x, C, dx, _, _, rfl, e, X.cl, X.n3, lk3, rfl, true, congrArg V.bl (decide_eq_true rfl), iteT ⟨.ref x, rfl, x, C, dx, _, _, rfl, e, X.cl, X.n2, lk2, q⟩⟩
    | some w =>
      have hl := hw w hh
      rw [hh] at w1 q
      obtain ⟨p, g, rfl, ep, eg⟩ := w1
      refine ⟨.ref x, rfl, x, C, dx, _, _, rfl, e, X.cl, X.n3, lk3, rfl, false, congrArg V.bl (decide_eq_false (fun z => by cases z)), iteF ?_⟩
      refine ⟨.ref x, rfl, x, C, dx, _, _, rfl, e, X.cl, X.n3, lk3, p, _, 1, _, rfl, rfl, .inl (.inl ep), atI_nat (j := 1) rfl, .ref x, rfl, x, C, dx, _, _, rfl, e, X.cl, X.n1, lk1, g, _, (h.thing : Int), .int (w.2.getD h.thing 0), rfl, rfl, .inl (.inl eg), atI_nat ?_, q⟩
      rw [List.getElem?_map, List.getElem?_eq_getElem hl, List.getD_eq_getElem?_getD, List.getElem?_eq_getElem hl]
      rfl
abbrev a_Hand_has_place : Stmt := inClass (topS 19) 12
abbrev n_Hand_has_place : List Str := ["self", "wish"]
theorem sc_Hand_has_place : FnScope n_Hand_has_place ["self", "wish"] (defScope a_Hand_has_place) := ⟨rfl, rfl, rfl, by decide +kernel, rfl, by decide +kernel, by decide +kernel⟩
set_option maxHeartbeats 8000000 in
theorem ok_Hand_has_place {f  : Addr} {fd  : FuncData} {k : Nat} {C : Addr} (F : Fun K "has_place" "Hand.has_place" a_Hand_has_place f fd)  (X : HandTxt K C) (m_len : mg "len" = none) : FnOk P w K mg base CX0 (k + 1) f fd ["self", "wish"] (spHasPl C) := by
  refine F.ok sc_Hand_has_place (fun vs H Q E h => ?_) (fun cdv A outer s H vs Q E hr h => ?_)
  · obtain ⟨x, D, T, h, v, o, rfl, _⟩ := h
    rfl
  · obtain ⟨x, D, T, h, v, o, rfl, ha, hv, q⟩ := h
    refine ⟨_, (pss_one (ps_ret (pe_or (pe_cmpR op_isN (pv 1) pe_non (nomark _)) (pe_one (pe_cmpR op_lt (pe_fld (pv 0) rfl) (pe_callB call_len_seq (by rfl) m_len (by decide +kernel) (pa_cons (pe_ix ix_tup (pv 1) pe_int (fun _ _ => rfl)) pa_nil)) (nomark _)))))), ?_⟩
    obtain ⟨dx, v', hs, e, w1, d, t, l⟩ := ha
    cases o with
    | none =>
      obtain rfl : v = .non := hv
      exact ⟨_, rfl, rfl, true, congrArg V.bl (decide_eq_true rfl), iteT q⟩
    | some w =>
      obtain ⟨p, g, rfl, ep, eg⟩ := hv
      refine ⟨_, rfl, rfl, false, congrArg V.bl (decide_eq_false (fun z => by cases z)), iteF ?_⟩
      refine ⟨.ref x, rfl, x, C, dx, _, _, rfl, e, X.cl, X.n1, lk1, _, rfl, p, _, 1, _, rfl, rfl, .inl (.inl ep), atI_nat (j := 1) rfl, g, _, rfl, .inr (.inl (.inl eg)), _, _, rfl, rfl, ?_⟩
      rw [List.length_map]
      have e2 : decide ((h.thing : Int) < (w.2.length : Int)) = decide (h.thing < w.2.length) := decide_eq_decide.mpr ⟨fun z => by omega, fun z => by omega⟩
      show Q (.bl (decide ((h.thing : Int) < (w.2.length : Int)))) H
      rw [e2]
      exact q
end
end K65

set_option Elab.async false
set_option linter.all false
set_option maxRecDepth 100000
namespace K65
open PySem PySem.Spec PyProof.Rows L2 NB

theorem tif_join {c : Bool} {v : V} {ta tb : TE} {σ : L2.St} {H : Hp} {K : VK} (ha : c = true → ∀ Q : VK, Q v H → ta σ H Q) (hb : ¬ c = true → ∀ Q : VK, Q v H → tb σ H Q) (q : K v H) : if c = true then ta σ H K else tb σ H K := by
  cases c with
  | true => exact ha rfl K q
  | false => exact hb (by simp) K q

/-! ### what a hand lacks -/
def ShL (h : Hd) (ys : List Int) : Prop := ∃ zs : List Int, zs.Perm (h.rows.map (·.1)) ∧ zs.Pairwise (· ≤ ·) ∧ ys = zs.filter h.shares
def Hd.lv (h : Hd) (n : Int) : Bool := match look h.rows n with
  | some z => leaveB h.thing z.1 z.2
  | none => true
def Hd.there (h : Hd) : Int := if h.place < h.goal then h.place + 1 else h.place - 1
def Hd.ou (h : Hd) (n : Int) : Bool := match look h.rows n with
  | some z => outB (ownS z.1 h.thing) h.there
  | none => false
def LkL (h : Hd) (ys : List Int) : Prop := (h.goal = h.place ∧ ys = []) ∨ (h.goal ≠ h.place ∧ ∃ ss, ShL h ss ∧ ys = (ss.filter fun n => !h.lv n).filter h.ou)
theorem filter_take {f : Int → Bool} {zs : List Int} {i : Nat} {z : Int} (e : zs[i]? = some z) : (zs.take (i + 1)).filter f = (zs.take i).filter f ++ if f z = true then [z] else [] := by
  rw [List.take_add_one, e, List.filter_append]
  congr 1
  show [z].filter f = _
  cases h : f z <;> simp [h]
theorem look_of {rows : List (Int × Rl × Int)} {n : Int} (h : n ∈ rows.map (·.1)) : ∃ q c, look rows n = some (q, c) := by
  induction rows with
  | nil => cases h
  | cons r rows ih =>
    rw [look_cons]
    by_cases e : r.1 = n
    · rw [if_pos e]; exact ⟨_, _, rfl⟩
    · rw [if_neg e]
      rw [List.map_cons] at h
      rcases List.mem_cons.mp h with h | h
      · exact absurd h.symm e
      · exact ih h
theorem ShL.mem {h : Hd} {ys : List Int} (s : ShL h ys) {n : Int} (hn : n ∈ ys) : ∃ q c, look h.rows n = some (q, c) ∧ shrd q = true := by
  obtain ⟨zs, p, _, rfl⟩ := s
  obtain ⟨h1, h2⟩ := List.mem_filter.mp hn
  obtain ⟨q, c, e⟩ := look_of ((p.mem_iff).mp h1)
  refine ⟨q, c, e, ?_⟩
  unfold Hd.shares at h2
  rw [e] at h2
  exact h2
theorem ShL.len {h : Hd} {ys : List Int} (s : ShL h ys) : ys.length ≤ h.rows.length := by
  obtain ⟨zs, p, _, rfl⟩ := s
  have := List.length_filter_le h.shares zs
  have := p.length_eq
  rw [List.length_map] at this
  omega
theorem LkL.len {h : Hd} {ys : List Int} (s : LkL h ys) : ys.length ≤ h.rows.length := by
  rcases s with ⟨_, rfl⟩ | ⟨_, ss, s, rfl⟩
  · exact Nat.zero_le _
  · have := s.len
    have := List.length_filter_le h.ou (ss.filter fun n => !h.lv n)
    have := List.length_filter_le (fun n => !h.lv n) ss
    omega
theorem LkL.mem {h : Hd} {ys : List Int} (s : LkL h ys) {n : Int} (hn : n ∈ ys) : ∃ q c, look h.rows n = some (q, c) ∧ shrd q = true := by
  rcases s with ⟨_, rfl⟩ | ⟨_, ss, s, rfl⟩
  · cases hn
  · exact s.mem (List.mem_filter.mp (List.mem_filter.mp hn).1).1
def spShL (C : Addr) : Sp := fun vs H Q _ => ∃ (x D T : Addr) (h : Hd), vs = [.ref x] ∧ HandAt C H x D T h ∧ h.rows.length ≤ 40 ∧ ∀ H' g ys, Same H H' → H' g = some (.lst (ys.map V.int)) → ShL h ys → Q (.ref g) H'
def spLkL (C : Addr) : Sp := fun vs H Q _ => ∃ (x D T : Addr) (h : Hd), vs = [.ref x] ∧ HandAt C H x D T h ∧ h.rows.length ≤ 40 ∧ (∀ w, h.wish = some w → h.thing < w.2.length) ∧ ∀ H' g ys, Same H H' → H' g = some (.tup (ys.map V.int)) → LkL h ys → Q (.ref g) H'
section
variable {P : Program} {w : World} {K : PySem.W.Frag} {mg : Str → Option Value} {base : Heap}
abbrev a_Hand_shared : Stmt := inClass (topS 19) 2
abbrev n_Hand_shared : List Str := ["self", "number"]
theorem sc_Hand_shared : FnScope n_Hand_shared ["self"] (defScope a_Hand_shared) := ⟨rfl, rfl, rfl, by decide +kernel, rfl, by decide +kernel, by decide +kernel⟩
set_option maxHeartbeats 8000000 in
theorem ok_Hand_shared {f fIs : Addr} {fd fdIs : FuncData} {k : Nat} {C : Addr} (F : Fun K "shared" "Hand.shared" a_Hand_shared f fd) (Is : Kn P w K mg base 1 "is_shared" ["rule"] spShrd fIs fdIs) (X : HandTxt K C) (m_sorted : mg "sorted" = none) : FnOk P w K mg base CX0 (k + 2) f fd ["self"] (spShL C) := by
  refine F.ok sc_Hand_shared (fun vs H Q E h => ?_) (fun cdv A outer s H vs Q E hr h => ?_)
  · obtain ⟨x, D, T, h, rfl, _⟩ := h
    rfl
  · obtain ⟨x, D, T, h, rfl, ha, l40, q⟩ := h
    refine ⟨_, (pss_one (ps_ret (
        pe_lc (own := [("number", 1)]) (g := (gName 1)) (tt := (tB (tCall spShrd [] E0 (tCons (tDGet (tFld K (tVar 0) "held") (tVar 1)) tNil)))) (te := (tVar 1)) rfl sc_Hand_shared.nd (pi_list (pe_callB (call_sortedDI rfl) (by rfl) m_sorted (by decide +kernel) (pa_cons (pe_fld (pv 0) rfl) pa_nil))) (blkOk_by (N := n_Hand_shared) (sc := defScope a_Hand_shared) (by decide +kernel))
          (fun _ _ _ _ _ => (pg_name (i := 1) sc_Hand_shared.nd rfl (.inl rfl) (hf := .inr rfl))) (fun _ _ _ _ _ => pts_one (pt_val (pe_kn Is hr (by omega) (pa_cons (pe_dget (hu_of hr) (pe_fld (pv 0) rfl) (pv 1) (fun _ _ => rfl)) pa_nil)))) (fun _ _ _ _ _ => (pv 1))))), ?_⟩
    obtain ⟨dx, v, hs, e, w1, d, t, l⟩ := ha
    have ky : (kvH hs).map (·.1) = (h.rows.map (·.1)).map Sum.inl := by
      rw [← l.keys]
      unfold kvH
      rw [List.map_map, List.map_map]
      rfl
    refine ⟨.ref x, rfl, x, C, dx, _, _, rfl, e, X.cl, X.n4, lk4, D, kvH hs, h.rows.map (·.1), rfl, d, ky, by rw [List.length_map]; omega, fun zs L pm pw nL => ?_⟩
    have s1 := same_new (o := .lst (zs.map V.int)) nL
    have eL : (upd H L (.lst (zs.map V.int))) L = some (.lst (zs.map V.int)) := upd_same
    generalize upd H L (.lst (zs.map V.int)) = H1 at s1 eL ⊢
    have lz : zs.length ≤ 40 := by
      have := pm.length_eq
      rw [List.length_map] at this
      omega
    refine ⟨L, rfl, ⟨_, .inl (.inl eL)⟩, fun G nG => lc_it (walk_list (xs := zs.map V.int)) (fun i H' => Same H1 H' ∧ H' G = some (.lst (((zs.take i).filter h.shares).map V.int))) ⟨same_new nG, upd_same⟩ (fun i H' _ p => .inl (.inl (p.1 _ _ eL))) (fun i u H2 H3 hi p y => ?_) (fun H' p => ?_)⟩
    · obtain ⟨sm, eG⟩ := p
      obtain ⟨rfl, gv⟩ := y
      obtain ⟨n, en, rfl⟩ := mapGet gv
      have s02 := s1.trans sm
      obtain ⟨q0, c0, lk0⟩ := look_of ((pm.mem_iff).mp (List.mem_of_getElem? en))
      have l1 := l.keep (.same s02)
      rcases valH n l1 with ⟨a1, a2⟩ | ⟨q', c', a, a1, a2, a3⟩
      · rw [lk0] at a1
        cases a1
      rw [lk0] at a1
      cases a1
      have shn : h.shares n = shrd q0 := by
        unfold Hd.shares
        rw [lk0]
      refine ⟨rfl, .ref x, rfl, x, C, dx, _, _, rfl, s02 _ _ e, X.cl, X.n4, lk4, .int n, rfl, D, .ref a, rfl, a2 ▸ DGr (k := .inl n) (rs s02 d), a, q0, rfl, a3, shrd q0, rfl, ?_⟩
      cases hq : shrd q0 with
      | false =>
        refine iteF ⟨sm, ?_⟩
        rw [eG, filter_take en, shn, hq]
        simp
      | true =>
        refine iteT ⟨.int n, rfl, _, eG, ?_, same_over sm nG, ?_⟩
        · rw [List.length_map]
          refine small1000 (Nat.le_trans (List.length_filter_le _ _) ?_)
          rw [List.length_take]
          exact Nat.le_trans (Nat.min_le_right _ _) (by omega)
        · rw [upd_same, filter_take en, shn, hq, List.map_append]
          rfl
    · obtain ⟨sm, eG⟩ := p
      rw [List.take_of_length_le (by rw [List.length_map]; exact Nat.le_refl _)] at eG
      exact q H' G _ (s1.trans sm) eG ⟨zs, pm, pw, rfl⟩
abbrev a_Hand_lacks : Stmt := inClass (topS 19) 9
abbrev n_Hand_lacks : List Str := ["self", "here", "goal", "there", "lacked", "number"]
theorem sc_Hand_lacks : FnScope n_Hand_lacks ["self"] (defScope a_Hand_lacks) := ⟨rfl, rfl, rfl, by decide +kernel, rfl, by decide +kernel, by decide +kernel⟩
set_option maxHeartbeats 8000000 in
theorem ok_Hand_lacks {f fOw fIo : Addr} {fd fdOw fdIo : FuncData} {k : Nat} {C : Addr} (F : Fun K "lacks" "Hand.lacks" a_Hand_lacks f fd) (Sd1 : C8.Met P w K mg base 2 C "shared" (spShL C) []) (Le : C8.Met P w K mg base 5 C "has_leave" (spLeave C) []) (Wp : C8.Met P w K mg base 1 C "wished_place" (spGoal C) []) (Ow : Kn P w K mg base 1 "own_side" ["rule", "thing"] spOwnS fOw fdOw) (Io : Kn P w K mg base 2 "is_out_at" ["side", "place"] spOutB fIo fdIo) (X : HandTxt K C) (m_tuple : mg "tuple" = none) : FnOk P w K mg base CX0 (k + 6) f fd ["self"] (spLkL C) := by
  refine F.ok sc_Hand_lacks (fun vs H Q E h => ?_) (fun cdv A outer s H vs Q E hr h => ?_)
  · obtain ⟨x, D, T, h, rfl, _⟩ := h
    rfl
  · obtain ⟨x, D, T, h, rfl, ha, l40, hw, q⟩ := h
    refine ⟨_, (pss_cons (ps_par (i := 1) (j := 2) (by rfl) sc_Hand_lacks.nd rfl rfl (by decide) rfl rfl (pa_cons (pe_fld (pv 0) rfl) (pa_cons (C8.pe_mt0 Wp hr (by omega) (pv 0)) pa_nil)) (by rfl))
      (pss_cons (ps_if (pt_cmpR op_eq (pv 2) (pv 1) (nomark _)) (pss_one (ps_ret (pe_tup pa_nil))) pss_nil)
      (pss_cons (ps_set (i := 3) sc_Hand_lacks.nd rfl (.inr rfl) (pe_ifExp (pt_cmpR op_gt (pv 2) (pv 1) (nomark _)) (pe_op op_add (pv 1) pe_int) (pe_op op_sub (pv 1) pe_int)))
      (pss_cons (ps_setLc (i := 4) (own := [("number", 5)]) (g := (gName 5)) (tt := (tNot (tB (tMeth C "has_leave" (spLeave C) [] E0 (tVar 0) (tCons (tVar 5) tNil))))) (te := (tVar 5)) rfl sc_Hand_lacks.nd rfl rfl (sw_true rfl rfl rfl (by decide +kernel)) (pi_list (C8.pe_mt0 Sd1 hr (by omega) (pv 0))) (blkOk_by (N := n_Hand_lacks) (sc := defScope a_Hand_lacks) (by decide +kernel))
          (fun _ _ _ _ _ => (pg_name (i := 5) sc_Hand_lacks.nd rfl (.inl rfl) (hf := .inr rfl))) (fun _ _ _ _ _ => pts_one (pt_not (pt_val (C8.pe_mt Le hr (by omega) (pv 0) (pa_cons (pv 5) pa_nil))))) (fun _ _ _ _ _ => (pv 5)))
      (pss_one (ps_ret (pe_callTy call_tuple_of (by rfl) m_tuple (by decide +kernel) (pa_cons (
        pe_lc (own := [("number", 5)]) (g := (gName 5)) (tt := (tB (tCall spOutB [] E0 (tCons (tCall spOwnS [] E0 (tCons (tDGet (tFld K (tVar 0) "held") (tVar 5)) (tCons (tFld K (tVar 0) "thing") tNil))) (tCons (tVar 3) tNil))))) (te := (tVar 5)) rfl sc_Hand_lacks.nd (pi_list (pv 4)) (blkOk_by (N := n_Hand_lacks) (sc := defScope a_Hand_lacks) (by decide +kernel))
          (fun _ _ _ _ _ => (pg_name (i := 5) sc_Hand_lacks.nd rfl (.inl rfl) (hf := .inr rfl))) (fun _ _ _ _ _ => pts_one (pt_val (pe_kn Io hr (by omega) (pa_cons (pe_kn Ow hr (by omega) (pa_cons (pe_dget (hu_of hr) (pe_fld (pv 0) rfl) (pv 5) (fun _ _ => rfl)) (pa_cons (pe_fld (pv 0) rfl) pa_nil))) (pa_cons (pv 3) pa_nil))))) (fun _ _ _ _ _ => (pv 5))) pa_nil)))))))), ?_⟩
    have ha0 := ha
    obtain ⟨dx, v, hs, e, w1, d, t, l⟩ := ha
    refine ⟨.ref x, rfl, x, C, dx, _, _, rfl, e, X.cl, X.n2, lk2, .ref x, rfl, x, dx, _, rfl, e, lkm, x, D, T, h, rfl, ha0, hw, _, _, rfl, ?_⟩
    dsimp only [List.set]
    refine ⟨_, rfl, _, rfl, rfl, decide (h.goal = h.place), congrArg V.bl (decide_eq_decide.mpr ⟨fun z => by injection z, fun z => by rw [z]⟩), ?_⟩
    by_cases hg : h.goal = h.place
    · rw [decide_eq_true hg]
      exact iteT ⟨(show 0 ≤ sizeLine by decide), fun g ng => q _ g [] (same_new ng) upd_same (.inl ⟨hg, rfl⟩)⟩
    rw [decide_eq_false hg]
    refine iteF ⟨_, rfl, _, rfl, _, _, rfl, rfl, _, rfl, tif_join (v := .int h.there) (fun c' Q qq => ?_) (fun c' Q qq => ?_) ?_⟩
    · have c2 := of_decide_eq_true c'
      refine ⟨_, rfl, _, 1, rfl, rfl, ?_⟩
      show Q (.int (h.place + 1)) H
      rw [show h.place + 1 = h.there by unfold Hd.there; rw [if_pos c2]]
      exact qq
    · have c2 := of_decide_eq_false (Bool.eq_false_iff.mpr c')
      refine ⟨_, rfl, _, 1, rfl, rfl, ?_⟩
      show Q (.int (h.place - 1)) H
      rw [show h.place - 1 = h.there by unfold Hd.there; rw [if_neg c2]]
      exact qq
    dsimp only [List.set]
    refine ⟨.ref x, rfl, x, dx, _, rfl, e, lkm, x, D, T, h, rfl, ha0, l40, fun H1 S ss s1 eS sL => ?_⟩
    have lS := sL.len
    refine ⟨S, rfl, ⟨_, .inl (.inl eS)⟩, fun G nG => lc_it (walk_list (xs := ss.map V.int)) (fun i H' => Same H1 H' ∧ H' G = some (.lst (((ss.take i).filter fun n => !h.lv n).map V.int))) ⟨same_new nG, upd_same⟩ (fun i H' _ p => .inl (.inl (p.1 _ _ eS))) (fun i u H2 H3 hi p y => ?_) (fun H2 p => ?_)⟩
    · obtain ⟨sm, eG⟩ := p
      obtain ⟨rfl, gv⟩ := y
      obtain ⟨n, en, rfl⟩ := mapGet gv
      have s02 := s1.trans sm
      obtain ⟨q0, c0, lk0, sh0⟩ := sL.mem (List.mem_of_getElem? en)
      have lvn : h.lv n = leaveB h.thing q0 c0 := by
        unfold Hd.lv
        rw [lk0]
      refine ⟨rfl, .ref x, rfl, x, dx, _, rfl, s02 _ _ e, lkm, .int n, rfl, x, D, T, h, n, q0, c0, rfl, ha0.same s02, lk0, sh0, fun H4 s4 => ⟨leaveB h.thing q0 c0, rfl, ?_⟩⟩
      have eG4 := s4 _ _ eG
      cases hq : leaveB h.thing q0 c0 with
      | true =>
        refine iteF ⟨sm.trans s4, ?_⟩
        rw [eG4, filter_take (f := fun n => !h.lv n) en, lvn, hq]
        simp
      | false =>
        refine iteT ⟨.int n, rfl, _, eG4, ?_, same_over (sm.trans s4) nG, ?_⟩
        · rw [List.length_map]
          refine small1000 (Nat.le_trans (List.length_filter_le _ _) ?_)
          rw [List.length_take]
          exact Nat.le_trans (Nat.min_le_right _ _) (by omega)
        · rw [upd_same, filter_take (f := fun n => !h.lv n) en, lvn, hq, List.map_append]
          rfl
    obtain ⟨sm, eG⟩ := p
    rw [List.take_of_length_le (by rw [List.length_map]; exact Nat.le_refl _)] at eG
    have s02 := s1.trans sm
    dsimp only [List.set]
    have lF : (ss.filter fun n => !h.lv n).length ≤ 40 := Nat.le_trans (List.length_filter_le _ _) (by omega)
    have mF : ∀ n ∈ ss.filter fun n => !h.lv n, ∃ q c, look h.rows n = some (q, c) ∧ shrd q = true := fun n hn => sL.mem (List.mem_filter.mp hn).1
    refine ⟨.ref G, rfl, G, rfl, ⟨_, .inl (.inl eG)⟩, fun W nW => lc_it (walk_list (xs := (ss.filter fun n => !h.lv n).map V.int)) (fun i H' => Same H2 H' ∧ H' W = some (.lst ((((ss.filter fun n => !h.lv n).take i).filter h.ou).map V.int))) ⟨same_new nW, upd_same⟩ (fun i H' _ p => .inl (.inl (p.1 _ _ eG))) (fun i u H3 H4 hi p y => ?_) (fun H3 p => ?_)⟩
    · obtain ⟨sm3, eW⟩ := p
      obtain ⟨rfl, gv⟩ := y
      obtain ⟨n, en, rfl⟩ := mapGet gv
      have s03 := s02.trans sm3
      obtain ⟨q0, c0, lk0, sh0⟩ := mF n (List.mem_of_getElem? en)
      have oun : h.ou n = outB (ownS q0 h.thing) h.there := by
        unfold Hd.ou
        rw [lk0]
      rcases valH n (l.keep (.same s03)) with ⟨a1, a2⟩ | ⟨q', c', a, a1, a2, a3⟩
      · rw [lk0] at a1
        cases a1
      rw [lk0] at a1
      cases a1
      refine ⟨rfl, .ref x, rfl, x, C, dx, _, _, rfl, s03 _ _ e, X.cl, X.n4, lk4, .int n, rfl, D, .ref a, rfl, a2 ▸ DGr (k := .inl n) (rs s03 d), .ref x, rfl, x, C, dx, _, _, rfl, s03 _ _ e, X.cl, X.n1, lk1, a, q0, h.thing, rfl, a3, fun p1 e1 => ⟨_, rfl, p1, _, h.there, rfl, e1, fun H5 s5 => ⟨outB (ownS q0 h.thing) h.there, rfl, ?_⟩⟩⟩
      have eW5 := s5 _ _ eW
      cases hq : outB (ownS q0 h.thing) h.there with
      | false =>
        refine iteF ⟨sm3.trans s5, ?_⟩
        rw [eW5, filter_take (f := h.ou) en, oun, hq]
        simp
      | true =>
        refine iteT ⟨.int n, rfl, _, eW5, ?_, same_over (sm3.trans s5) nW, ?_⟩
        · rw [List.length_map]
          refine small1000 (Nat.le_trans (List.length_filter_le _ _) ?_)
          rw [List.length_take]
          exact Nat.le_trans (Nat.min_le_right _ _) (by omega)
        · rw [upd_same, filter_take (f := h.ou) en, oun, hq, List.map_append]
          rfl
    · obtain ⟨sm3, eW⟩ := p
      rw [List.take_of_length_le (by rw [List.length_map]; exact Nat.le_refl _)] at eW
      exact ⟨W, _, rfl, .inl ⟨.inl (.inl eW), fun g ng => q _ g _ ((s02.trans sm3).trans (same_new ng)) upd_same (.inr ⟨hg, ss, sL, rfl⟩)⟩⟩
end
end K65

set_option Elab.async false
set_option linter.all false
set_option maxRecDepth 100000
namespace K65
open PySem PySem.Spec PyProof.Rows L2 NB

/-! ### what a hand answers and hears -/
def TupK (H H' : Hp) : Prop := ∀ b xs, H b = some (.tup xs) → H' b = some (.tup xs)
theorem SideAt.tk {H H' : Hp} {p : Addr} {s : Sd} (h : SideAt H p s) (k : TupK H H') : SideAt H' p s := k _ _ h
theorem RuleAt.tk {H H' : Hp} {p : Addr} {q : Rl} (h : RuleAt H p q) (k : TupK H H') : RuleAt H' p q := by
  obtain ⟨p1, p2, e, h1, h2⟩ := h
  exact ⟨p1, p2, k _ _ e, h1.tk k, h2.tk k⟩
theorem WV.tk {H H' : Hp} {v : V} : ∀ {o : Option Wi}, WV H v o → TupK H H' → WV H' v o
  | none, h, _ => h
  | some w, ⟨p, q, e, e1, e2⟩, k => ⟨p, q, e, k _ _ e1, k _ _ e2⟩
theorem LetAt.tk {H H' : Hp} {p : Addr} {l : Lt} (h : LetAt H p l) (k : TupK H H') : LetAt H' p l := by
  obtain ⟨v, e, w⟩ := h
  exact ⟨v, k _ _ e, w.tk k⟩
theorem Held.tk {H H' : Hp} (k : TupK H H') : ∀ {hs : List (Int × Addr)} {rows : List (Int × Rl × Int)}, Held H hs rows → Held H' hs rows
  | [], [], _ => trivial
  | _ :: _, _ :: _, ⟨a, b, c⟩ => ⟨a, b.tk k, c.tk k⟩
  | [], _ :: _, h => h.elim
  | _ :: _, [], h => h.elim
/-- all but a hand and its tally stands -/
def ButH (x T : Addr) (H H' : Hp) : Prop := ∀ b o, b ≠ x → b ≠ T → H b = some o → H' b = some o
theorem ButH.of {x T : Addr} {H H' : Hp} (s : Same H H') : ButH x T H H' := fun b o _ _ e => s b o e
theorem ButH.trans {x T : Addr} {H H1 H2 : Hp} (a : ButH x T H H1) (b : ButH x T H1 H2) : ButH x T H H2 := fun c o n m e => b c o n m (a c o n m e)
theorem ButH.tk {C : Addr} {x D T : Addr} {h : Hd} {H H' : Hp} (b : ButH x T H H') (a : HandAt C H x D T h) : TupK H H' := fun c xs e => by
  obtain ⟨dx, v, hs, e1, _, _, t, _⟩ := a
  refine b c _ (fun z => ?_) (fun z => ?_) e
  · rw [z, show H x = _ from e1] at e
    cases e
  · rw [z, t] at e
    cases e
/-- letters to things, in a tuple -/
abbrev Bt := Int × Lt
def PrAt (H : Hp) (a : Addr) (b : Bt) : Prop := ∃ l, H a = some (.tup [.int b.1, .ref l]) ∧ LetAt H l b.2
def BtAt (H : Hp) : List Addr → List Bt → Prop
  | [], [] => True
  | a :: as, b :: bs => PrAt H a b ∧ BtAt H as bs
  | _, _ => False
def BAt (H : Hp) (g : Addr) (bs : List Bt) : Prop := ∃ as : List Addr, H g = some (.tup (as.map V.ref)) ∧ BtAt H as bs
theorem PrAt.tk {H H' : Hp} {a : Addr} {b : Bt} (h : PrAt H a b) (k : TupK H H') : PrAt H' a b := by
  obtain ⟨l, e, w⟩ := h
  exact ⟨l, k _ _ e, w.tk k⟩
theorem BtAt.tk {H H' : Hp} (k : TupK H H') : ∀ {as : List Addr} {bs : List Bt}, BtAt H as bs → BtAt H' as bs
  | [], [], _ => trivial
  | _ :: _, _ :: _, ⟨a, c⟩ => ⟨a.tk k, c.tk k⟩
  | [], _ :: _, h => h.elim
  | _ :: _, [], h => h.elim
theorem BAt.tk {H H' : Hp} {g : Addr} {bs : List Bt} (h : BAt H g bs) (k : TupK H H') : BAt H' g bs := by
  obtain ⟨as, e, w⟩ := h
  exact ⟨as, k _ _ e, w.tk k⟩
theorem tk_same {H H' : Hp} (s : Same H H') : TupK H H' := fun b xs e => s _ _ e
def putC (rows : List (Int × Rl × Int)) (n c : Int) : List (Int × Rl × Int) := rows.map fun r => if r.1 = n then (r.1, r.2.1, c) else r
theorem putC_keys (rows : List (Int × Rl × Int)) (n c : Int) : (putC rows n c).map (·.1) = rows.map (·.1) := by
  unfold putC
  rw [List.map_map]
  refine List.map_congr_left fun r _ => ?_
  show (if r.1 = n then (r.1, r.2.1, c) else r).1 = r.1
  split <;> rfl
theorem look_put (rows : List (Int × Rl × Int)) (n c m : Int) : look (putC rows n c) m = (look rows m).map fun z => if m = n then (z.1, c) else z := by
  induction rows with
  | nil => rfl
  | cons r rows ih =>
    have e : putC (r :: rows) n c = (if r.1 = n then (r.1, r.2.1, c) else r) :: putC rows n c := rfl
    rw [e, look_cons, look_cons, ih]
    have e1 : (if r.1 = n then (r.1, r.2.1, c) else r).1 = r.1 := by split <;> rfl
    rw [e1]
    by_cases h : r.1 = m
    · rw [if_pos h, if_pos h]
      by_cases k : r.1 = n
      · rw [if_pos k]
        simp [← h, k]
      · rw [if_neg k]
        have : ¬ m = n := fun z => k (h.trans z)
        simp [this]
    · rw [if_neg h, if_neg h]
theorem put_kvT {rows : List (Int × Rl × Int)} {n c : Int} {z : Rl × Int} (h : look rows n = some z) : putK (kvT rows) (Sum.inl n) (V.int c) = kvT (putC rows n c) := by
  have hany : ((kvT rows).any fun kv => decide (kv.1 = (Sum.inl n : Key))) = true := by
    have hv := valT rows n
    rw [h] at hv
    unfold valV at hv
    cases hf : (kvT rows).find? fun kv => decide (kv.1 = (Sum.inl n : Key)) with
    | none =>
      rw [hf] at hv
      cases hv
    | some kv =>
      have hk := List.find?_some hf
      exact List.any_eq_true.mpr ⟨kv, List.mem_of_find?_eq_some hf, hk⟩
  unfold putK
  rw [if_pos hany]
  unfold kvT putC
  rw [List.map_map, List.map_map]
  refine List.map_congr_left fun r _ => ?_
  show (if (Sum.inl r.1 : Key) = Sum.inl n then ((Sum.inl r.1 : Key), V.int c) else (Sum.inl r.1, V.int r.2.2)) = (Sum.inl (if r.1 = n then (r.1, r.2.1, c) else r).1, V.int (if r.1 = n then (r.1, r.2.1, c) else r).2.2)
  by_cases k : r.1 = n
  · rw [if_pos (by rw [k]), if_pos k]
  · rw [if_neg (fun z => k (Sum.inl.inj z)), if_neg k]
theorem Held.put {H : Hp} (n c : Int) : ∀ {hs : List (Int × Addr)} {rows : List (Int × Rl × Int)}, Held H hs rows → Held H hs (putC rows n c)
  | [], [], _ => trivial
  | z :: hs, r :: rows, ⟨a, b, l⟩ => by
    have e : putC (r :: rows) n c = (if r.1 = n then (r.1, r.2.1, c) else r) :: putC rows n c := rfl
    rw [e]
    refine ⟨?_, ?_, l.put n c⟩
    · split
      · exact a
      · exact a
    · split
      · exact b
      · exact b
  | [], _ :: _, h => h.elim
  | _ :: _, [], h => h.elim
def Hd.setc (h : Hd) (n c : Int) : Hd := { h with rows := putC h.rows n c }
def Hd.cnd (h : Hd) (z : Rl × Int) (k : Int) : Bool := decide (z.2 = k) && (leaveB h.thing z.1 z.2 && !outB (ownS z.1 h.thing) h.place)
def Hd.cup (h : Hd) (z : Rl × Int) (k : Int) : Int := if h.cnd z k = true then z.2 + 1 else z.2
def Hd.hup (h : Hd) (n : Int) (z : Rl × Int) (k : Int) : Hd := if h.cnd z k = true then h.setc n (z.2 + 1) else h
def Hd.ans (h : Hd) (n k : Int) : Hd × List Bt := match look h.rows n with
  | none => (h, [])
  | some z => (h.hup n z k, if h.cup z k = k then [] else [((othT z.1 h.thing : Nat), ("leave", [n, h.cup z k], h.wish))])
theorem look_hup {h : Hd} {n k : Int} {z : Rl × Int} (e : look h.rows n = some z) : look (h.hup n z k).rows n = some (z.1, h.cup z k) := by
  unfold Hd.hup Hd.cup
  by_cases c : h.cnd z k = true
  · rw [if_pos c, if_pos c]
    show look (putC h.rows n (z.2 + 1)) n = _
    rw [look_put, e]
    simp
  · rw [if_neg c, if_neg c]
    exact e
theorem ans_of {h : Hd} {n k : Int} {z : Rl × Int} (e : look h.rows n = some z) : h.ans n k = (h.hup n z k, if h.cup z k = k then ([] : List Bt) else [(((othT z.1 h.thing : Nat) : Int), (("leave" : Str), [n, h.cup z k], h.wish))]) := by
  unfold Hd.ans
  rw [e]
theorem hup_thing (h : Hd) (n : Int) (z : Rl × Int) (k : Int) : (h.hup n z k).thing = h.thing := by unfold Hd.hup; split <;> rfl
theorem hup_wish (h : Hd) (n : Int) (z : Rl × Int) (k : Int) : (h.hup n z k).wish = h.wish := by unfold Hd.hup; split <;> rfl
theorem HandAt.setc {C : Addr} {H : Hp} {x D T : Addr} {h : Hd} {n c : Int} {z : Rl × Int} (a : HandAt C H x D T h) (hd : D ≠ T) (e : look h.rows n = some z) :
    H T = some (.dK (kvT h.rows)) ∧ HandAt C (upd H T (.dK (putK (kvT h.rows) (Sum.inl n) (V.int c)))) x D T (h.setc n c) ∧ ButH x T H (upd H T (.dK (putK (kvT h.rows) (Sum.inl n) (V.int c)))) := by
  obtain ⟨dx, v, hs, e1, w1, d, t, l⟩ := a
  have tk : TupK H (upd H T (.dK (putK (kvT h.rows) (Sum.inl n) (V.int c)))) := fun b xs eb => (upd_ne (fun q => by rw [q, t] at eb; cases eb)).trans eb
  refine ⟨t, ⟨dx, v, hs, (upd_ne (fun q => by rw [← q, show H x = _ from e1] at t; cases t)).trans e1, w1.tk tk, ru hd d, ?_, (l.tk tk).put n c⟩, fun b o _ n2 eb => (upd_ne n2).trans eb⟩
  rw [upd_same, put_kvT e]
  rfl
def spAns (C : Addr) : Sp := fun vs H Q _ => ∃ (x D T : Addr) (h : Hd) (n k : Int) (z : Rl × Int), vs = [.ref x, .int n, .int k] ∧ HandAt C H x D T h ∧ D ≠ T ∧ look h.rows n = some z ∧ shrd z.1 = true ∧ h.rows.length ≤ 40 ∧ ∀ H' g, ButH x T H H' → HandAt C H' x D T (h.ans n k).1 → BAt H' g (h.ans n k).2 → Q (.ref g) H'
section
variable {P : Program} {w : World} {K : PySem.W.Frag} {mg : Str → Option Value} {base : Heap}
abbrev a_Hand_answers : Stmt := inClass (topS 19) 13
abbrev n_Hand_answers : List Str := ["self", "number", "count", "leave"]
theorem sc_Hand_answers : FnScope n_Hand_answers ["self", "number", "count"] (defScope a_Hand_answers) := ⟨rfl, rfl, rfl, by decide +kernel, rfl, by decide +kernel, by decide +kernel⟩
set_option maxHeartbeats 8000000 in
theorem ok_Hand_answers {f fOw fIo fOt : Addr} {fd fdOw fdIo fdOt : FuncData} {k : Nat} {C : Addr} (F : Fun K "answers" "Hand.answers" a_Hand_answers f fd) (Le : C8.Met P w K mg base 5 C "has_leave" (spLeave C) []) (Ow : Kn P w K mg base 1 "own_side" ["rule", "thing"] spOwnS fOw fdOw) (Io : Kn P w K mg base 2 "is_out_at" ["side", "place"] spOutB fIo fdIo) (Ot : Kn P w K mg base 1 "other_thing" ["rule", "thing"] spOthT fOt fdOt) (X : HandTxt K C)  : FnOk P w K mg base CX0 (k + 6) f fd ["self", "number", "count"] (spAns C) := by
  refine F.ok sc_Hand_answers (fun vs H Q E h => ?_) (fun cdv A outer s H vs Q E hr h => ?_)
  · obtain ⟨x, D, T, h, n, k, z, rfl, _⟩ := h
    rfl
  · obtain ⟨x, D, T, h, n, k, z, rfl, ha, hd, lk0, sh0, l40, q⟩ := h
    refine ⟨_, (C8.pss_cut (ps_if (PW.pt (pw_and (pt_cmpR op_eq (pe_dget (hu_of hr) (pe_fld (pv 0) rfl) (pv 1) (fun _ _ => rfl)) (pv 2) (nomark _)) (pw_and1 (pt_val (C8.pe_mt Le hr (by omega) (pv 0) (pa_cons (pv 1) pa_nil)))))) (pss_one (ps_if (pt_not (pt_val (pe_kn Io hr (by omega) (pa_cons (pe_kn Ow hr (by omega) (pa_cons (pe_dget (hu_of hr) (pe_fld (pv 0) rfl) (pv 1) (fun _ _ => rfl)) (pa_cons (pe_fld (pv 0) rfl) pa_nil))) (pa_cons (pe_fld (pv 0) rfl) pa_nil))))) (pss_one (ps_augS (pe_fld (pv 0) rfl) (pv 1) (get_dictK (hu_of hr)) pe_int ip_add (set_dict (hu_of hr)))) pss_nil)) pss_nil)
      (pss_cons (ps_if (pt_cmpR op_eq (pe_dget (hu_of hr) (pe_fld (pv 0) rfl) (pv 1) (fun _ _ => rfl)) (pv 2) (nomark _)) (pss_one (ps_ret (pe_tup pa_nil))) pss_nil)
      (pss_cons (ps_set (i := 3) sc_Hand_answers.nd rfl (.inl rfl) (pe_tup (pa_cons pe_str (pa_cons (pv 1) (pa_cons (pe_dget (hu_of hr) (pe_fld (pv 0) rfl) (pv 1) (fun _ _ => rfl)) (pa_cons (pe_fld (pv 0) rfl) pa_nil))))))
      (pss_one (ps_ret (pe_tup (pa_cons (pe_tup (pa_cons (pe_kn Ot hr (by omega) (pa_cons (pe_dget (hu_of hr) (pe_fld (pv 0) rfl) (pv 1) (fun _ _ => rfl)) (pa_cons (pe_fld (pv 0) rfl) pa_nil))) (pa_cons (pv 3) pa_nil))) pa_nil))))))), ?_⟩
    obtain ⟨rl, c⟩ := z
    have ha0 := ha
    obtain ⟨tT, hset, bset⟩ := ha.setc (c := c + 1) hd lk0
    obtain ⟨dx, v, hs, e, w1, d, t, l⟩ := ha
    have vt : valV (kvT h.rows) (Sum.inl n) = some (V.int c) := by
      rw [valT, lk0]
      rfl
    have sz : (kvT h.rows).length < sizeLine := by
      unfold kvT
      rw [List.length_map]
      exact small1000 (by omega)
    refine ⟨fun σ H' => σ = [some (.ref x), some (.int n), some (.int k), none] ∧ ButH x T H H' ∧ HandAt C H' x D T (h.hup n (rl, c) k), ?_, fun σ H1 y => ?_⟩
    · unfold Hd.hup Hd.cnd
      refine ⟨.ref x, rfl, x, C, dx, _, _, rfl, e, X.cl, X.n5, lk5, .int n, rfl, T, .int c, rfl, vt ▸ DGet.k (k := .inl n) t, .int k, rfl, rfl, decide (c = k), congrArg V.bl (decide_eq_decide.mpr ⟨fun z => by injection z, fun z => by rw [z]⟩), ?_⟩
      cases h1 : decide (c = k) with
      | false => exact iteF ⟨rfl, fun _ _ _ _ e => e, ha0⟩
      | true =>
      refine iteT ⟨.ref x, rfl, x, dx, _, rfl, e, lkm, .int n, rfl, x, D, T, h, n, rl, c, rfl, ha0, lk0, sh0, fun H1 s1 => ⟨leaveB h.thing rl c, rfl, ?_⟩⟩
      cases h2 : leaveB h.thing rl c with
      | false => exact iteF ⟨rfl, ButH.of s1, ha0.same s1⟩
      | true =>
      rcases valH n (l.keep (.same s1)) with ⟨a1, a2⟩ | ⟨q', c', a, a1, a2, a3⟩
      · rw [lk0] at a1
        cases a1
      rw [lk0] at a1
      cases a1
      refine iteT ⟨.ref x, rfl, x, C, dx, _, _, rfl, s1 _ _ e, X.cl, X.n4, lk4, .int n, rfl, D, .ref a, rfl, a2 ▸ DGr (k := .inl n) (rs s1 d), .ref x, rfl, x, C, dx, _, _, rfl, s1 _ _ e, X.cl, X.n1, lk1, a, rl, h.thing, rfl, a3, fun p1 e1 => ⟨.ref x, rfl, x, C, dx, _, _, rfl, s1 _ _ e, X.cl, X.n2, lk2, p1, _, h.place, rfl, e1, fun H2 s2 => ⟨outB (ownS rl h.thing) h.place, rfl, ?_⟩⟩⟩
      have s02 := s1.trans s2
      cases h3 : outB (ownS rl h.thing) h.place with
      | true => exact iteF ⟨rfl, ButH.of s02, ha0.same s02⟩
      | false =>
        obtain ⟨tT2, hset2, bset2⟩ := (ha0.same s02).setc (c := c + 1) hd lk0
        refine iteT ⟨.ref x, rfl, x, C, dx, _, _, rfl, s02 _ _ e, X.cl, X.n5, lk5, .int n, rfl, T, .int c, rfl, vt ▸ DGet.k (k := .inl n) tT2, c, 1, rfl, rfl, T, _, rfl, DPut.k (k := .inl n) tT2 sz, rfl, (ButH.of s02).trans bset2, hset2⟩
    · obtain ⟨rfl, b1, ha1⟩ := y
      have ha1' := ha1
      have lk1' := look_hup (k := k) lk0
      have q1 := q
      rw [ans_of lk0] at q1
      dsimp only at q1
      have et := hup_thing h n (rl, c) k
      have ew := hup_wish h n (rl, c) k
      generalize h.hup n (rl, c) k = g at ha1 ha1' lk1' et ew q1
      generalize h.cup (rl, c) k = c' at lk1' q1
      obtain ⟨dx1, v1, hs1, e1, w11, d1, t1, l1⟩ := ha1'
      have vt1 : valV (kvT g.rows) (Sum.inl n) = some (V.int c') := by
        rw [valT, lk1']
        rfl
      refine ⟨.ref x, rfl, x, C, dx1, _, _, rfl, e1, X.cl, X.n5, lk5, .int n, rfl, T, .int c', rfl, vt1 ▸ DGet.k (k := .inl n) t1, .int k, rfl, rfl, decide (c' = k), congrArg V.bl (decide_eq_decide.mpr ⟨fun z => by injection z, fun z => by rw [z]⟩), ?_⟩
      by_cases hk : c' = k
      · rw [decide_eq_true hk]
        refine iteT ⟨(show 0 ≤ sizeLine by decide), fun G nG => ?_⟩
        have s2 := same_new (o := HO.tup []) nG
        refine q1 _ G (b1.trans (ButH.of s2)) (ha1.same s2) ?_
        rw [if_pos hk]
        exact ⟨[], upd_same, trivial⟩
      rw [decide_eq_false hk]
      refine iteF ⟨_, rfl, .ref x, rfl, x, C, dx1, _, _, rfl, e1, X.cl, X.n5, lk5, .int n, rfl, T, .int c', rfl, vt1 ▸ DGet.k (k := .inl n) t1, .ref x, rfl, x, C, dx1, _, _, rfl, e1, X.cl, X.n3, lk3, (show 4 ≤ sizeLine by decide), fun L nL => ?_⟩
      have sL := same_new (o := HO.tup [V.str "leave", V.int n, V.int c', v1]) nL
      have eL : LetAt (upd H1 L (.tup [V.str "leave", V.int n, V.int c', v1])) L ("leave", [n, c'], h.wish) := ⟨v1, upd_same, ew ▸ w11.tk (tk_same sL)⟩
      have ha2 := ha1.same sL
      have b2 := b1.trans (ButH.of (x := x) (T := T) sL)
      have e2 := sL _ _ e1
      have d2 := rs sL d1
      have l2 := l1.tk (tk_same sL)
      generalize upd H1 L (.tup [V.str "leave", V.int n, V.int c', v1]) = H2 at eL ha2 b2 e2 d2 l2 ⊢
      rcases valH n l2 with ⟨a1, a2⟩ | ⟨q', c2, a, a1, a2, a3⟩
      · rw [lk1'] at a1
        cases a1
      rw [lk1'] at a1
      cases a1
      dsimp only [List.set]
      refine ⟨.ref x, rfl, x, C, dx1, _, _, rfl, e2, X.cl, X.n4, lk4, .int n, rfl, D, .ref a, rfl, a2 ▸ DGr (k := .inl n) d2, .ref x, rfl, x, C, dx1, _, _, rfl, e2, X.cl, X.n1, lk1, a, rl, g.thing, rfl, a3, _, rfl, (show 2 ≤ sizeLine by decide), fun M nM => ⟨(show 1 ≤ sizeLine by decide), fun G nG => ?_⟩⟩
      have sM := same_new (o := HO.tup [V.int (othT rl g.thing : Nat), V.ref L]) nM
      have sG := same_new (o := HO.tup [V.ref M]) nG
      have s2 := sM.trans sG
      refine q1 _ G (b2.trans (ButH.of s2)) (ha2.same s2) ?_
      rw [if_neg hk]
      refine ⟨[M], upd_same, ⟨L, ?_, eL.tk (tk_same s2)⟩, trivial⟩
      rw [et] at sG ⊢
      exact sG _ _ upd_same
end
end K65

set_option Elab.async false
set_option linter.all false
set_option maxRecDepth 100000
namespace K65
open PySem PySem.Spec PyProof.Rows L2 NB

theorem cut_to {K : PySem.W.Frag} {H : Hp} {p : Addr} {vs : List V} {c : Nat} {Q : VK} (h : H p = some (.tup vs)) (hc : c ≤ vs.length) (q : ∀ g H', Same H H' → H' g = some (.tup (vs.take c)) → Q (.ref g) H') : rSlA K (.ref p) none (some (c : Int)) H Q := by
  have e1 : HT.sIx vs.length vs.length (some (c : Int)) = c := by
    rw [HT.sIx_nat]
    omega
  refine ⟨p, _, rfl, .inl (.inl h), fun w => ?_, fun w g ng => ?_⟩
  · rw [e1] at w
    refine q p H (Same.refl H) ?_
    rw [List.take_of_length_le (by omega)]
    exact h
  · refine q g _ (same_new ng) ?_
    rw [upd_same]
    unfold cutV
    rw [e1, HT.sIx_none, List.drop_zero]
    rfl
theorem ixN_last (n : Nat) : ixN (n + 1) (-1) = some n := by
  unfold ixN
  rw [if_neg (by omega), if_pos (by omega)]
  congr 1
  omega
theorem at_last {α : Type} (xs : List α) (x : α) : atI (xs ++ [x]) (-1) = some x := by
  unfold atI
  rw [List.length_append]
  show (ixN (xs.length + 1) (-1)).bind _ = _
  rw [ixN_last]
  show (xs ++ [x])[xs.length]? = some x
  rw [List.getElem?_append_right (Nat.le_refl _), Nat.sub_self]
  rfl

/-! ### a hand hears -/
def Hd.hw (h : Hd) (o : Option Wi) : Hd := if wishN o > wishN h.wish then { h with wish := o } else h
def mx (i j : Int) : Int := if j > i then j else i
def Hd.hear2 (h : Hd) (a : Str) (o : Option Wi) (n k : Int) (z : Rl × Int) : Hd × List Bt :=
  if (decide (a = "leave") || decide (wishN o < wishN h.wish)) = true then (h.setc n (mx z.2 k), []) else (h.setc n (mx z.2 k)).ans n k
def Hd.hear (h : Hd) (l : Lt) : Hd × List Bt := match l.2.1 with
  | [n, k] => match look h.rows n with
    | some z => if shrd z.1 = true then (h.hw l.2.2).hear2 l.1 l.2.2 n k z else (h.hw l.2.2, [])
    | none => (h.hw l.2.2, [])
  | _ => (h.hw l.2.2, [])
theorem hw_rows (h : Hd) (o : Option Wi) : (h.hw o).rows = h.rows := by unfold Hd.hw; split <;> rfl
theorem hw_thing (h : Hd) (o : Option Wi) : (h.hw o).thing = h.thing := by unfold Hd.hw; split <;> rfl
theorem put_wish (i p v d t u : V) : putF "wish" u [("thing", i), ("place", p), ("wish", v), ("held", d), ("tally", t)] = ([("thing", i), ("place", p), ("wish", u), ("held", d), ("tally", t)] : List (Str × V)) := by
  have n1 : ¬ (("thing" : Str) = "wish") := by decide +kernel
  have n2 : ¬ (("place" : Str) = "wish") := by decide +kernel
  simp [putF, n1, n2]
theorem HandAt.wish {C : Addr} {H : Hp} {x D T dx : Addr} {h : Hd} {v u : V} {hs : List (Int × Addr)} {o : Option Wi} (e : HandF C H x dx v D T h) (d : Rd H D (.dK (kvH hs))) (t : H T = some (.dK (kvT h.rows))) (l : Held H hs h.rows) (w : WV H u o) :
    HandAt C (upd H x (.ins C dx [("thing", .int (h.thing : Int)), ("place", .int h.place), ("wish", u), ("held", .ref D), ("tally", .ref T)])) x D T { h with wish := o } ∧ ButH x T H (upd H x (.ins C dx [("thing", .int (h.thing : Int)), ("place", .int h.place), ("wish", u), ("held", .ref D), ("tally", .ref T)])) := by
  have e' : H x = some (.ins C dx [("thing", .int (h.thing : Int)), ("place", .int h.place), ("wish", v), ("held", .ref D), ("tally", .ref T)]) := e
  have tk : TupK H (upd H x (.ins C dx [("thing", .int (h.thing : Int)), ("place", .int h.place), ("wish", u), ("held", .ref D), ("tally", .ref T)])) := fun b xs eb => (upd_ne (fun q => by rw [q, e'] at eb; cases eb)).trans eb
  exact ⟨⟨dx, u, hs, upd_same, w.tk tk, ru (rn d e') d, (upd_ne (fun q => by rw [q, e'] at t; cases t)).trans t, l.tk tk⟩, fun b o n1 _ eb => (upd_ne n1).trans eb⟩
theorem dstr {a b : Str} : decide (V.str a = V.str b) = decide (a = b) := decide_eq_decide.mpr ⟨fun h => by injection h, congrArg _⟩
theorem hear_none {h : Hd} {l : Lt} (e : l.2.1 = []) : h.hear l = (h.hw l.2.2, ([] : List Bt)) := by
  unfold Hd.hear
  rw [e]
theorem hear_two {h : Hd} {a : Str} {n k : Int} {o : Option Wi} : h.hear (a, [n, k], o) = (match look h.rows n with
    | some z => if shrd z.1 = true then (h.hw o).hear2 a o n k z else (h.hw o, [])
    | none => (h.hw o, [])) := rfl
def spHear (C : Addr) : Sp := fun vs H Q _ => ∃ (x D T g : Addr) (h : Hd) (l : Lt), vs = [.ref x, .ref g] ∧ HandAt C H x D T h ∧ D ≠ T ∧ LetAt H g l ∧ LetP l ∧ (∀ w, l.2.2 = some w → h.thing < w.2.length) ∧ h.rows.length ≤ 40 ∧ ∀ H' a, ButH x T H H' → HandAt C H' x D T (h.hear l).1 → BAt H' a (h.hear l).2 → Q (.ref a) H'
section
variable {P : Program} {w : World} {K : PySem.W.Frag} {mg : Str → Option Value} {base : Heap}
abbrev a_Hand_hear : Stmt := inClass (topS 19) 11
abbrev n_Hand_hear : List Str := ["self", "letter", "wish", "word", "number", "count"]
theorem sc_Hand_hear : FnScope n_Hand_hear ["self", "letter"] (defScope a_Hand_hear) := ⟨rfl, rfl, rfl, by decide +kernel, rfl, by decide +kernel, by decide +kernel⟩
set_option maxHeartbeats 8000000 in
theorem ok_Hand_hear {f fIl fWn : Addr} {fd fdIl fdWn : FuncData} {k : Nat} {C : Addr} (F : Fun K "hear" "Hand.hear" a_Hand_hear f fd) (Il : Kn P w K mg base 4 "is_letter" ["thing"] (spLook letterD) fIl fdIl) (Hpl : C8.Met P w K mg base 1 C "has_place" (spHasPl C) []) (Wn : Kn P w K mg base 1 "wish_number" ["wish"] spWishN fWn fdWn) (Sh : C8.Met P w K mg base 3 C "shares" (spShares C) []) (An : C8.Met P w K mg base 6 C "answers" (spAns C) []) (X : HandTxt K C) (m_max : mg "max" = none) : FnOk P w K mg base CX0 (k + 7) f fd ["self", "letter"] (spHear C) := by
  refine F.ok sc_Hand_hear (fun vs H Q E h => ?_) (fun cdv A outer s H vs Q E hr h => ?_)
  · obtain ⟨x, D, T, g, h, l, rfl, _⟩ := h
    rfl
  · obtain ⟨x, D, T, g, h, l, rfl, ha, hd, hl, lp, hw, l40, q⟩ := h
    refine ⟨_, (pss_cons (ps_if (PW.pt (pw_or (pt_not (pt_val (pe_kn Il hr (by omega) (pa_cons (pv 1) pa_nil)))) (pw_or1 (pt_not (pt_val (C8.pe_mt Hpl hr (by omega) (pv 0) (pa_cons (pe_ix ix_tup (pv 1) (pe_un un_neg pe_int) (fun _ _ => rfl)) pa_nil))))))) (pss_one (ps_never)) pss_nil)
      (pss_cons (ps_set (i := 2) sc_Hand_hear.nd rfl (.inl rfl) (pe_ix ix_tup (pv 1) (pe_un un_neg pe_int) (fun _ _ => rfl)))
      (C8.pss_cut (ps_if (pt_cmpR op_gt (pe_kn Wn hr (by omega) (pa_cons (pv 2) pa_nil)) (pe_kn Wn hr (by omega) (pa_cons (pe_fld (pv 0) rfl) pa_nil)) (nomark _)) (pss_one (ps_fld (pv 0) (pv 2) rfl)) pss_nil)
      (pss_cons (ps_if (PW.pt (pw_or (pt_cmpR op_eq (pe_ix ix_tup (pv 1) pe_int (fun _ _ => rfl)) pe_str (nomark _)) (pw_or1 (pt_not (pt_val (C8.pe_mt Sh hr (by omega) (pv 0) (pa_cons (pe_ix ix_tup (pv 1) pe_int (fun _ _ => rfl)) pa_nil))))))) (pss_one (ps_ret (pe_tup pa_nil))) pss_nil)
      (pss_cons (ps_asg (pe_slice (r := rSlA K) sl_tupA (pv 1) po_none (po_some pe_int)) (pg_tup rfl (pgs_cons (pg_name (i := 3) sc_Hand_hear.nd rfl (.inl rfl)) (pgs_cons (pg_name (i := 4) sc_Hand_hear.nd rfl (.inl rfl)) (pgs_cons (pg_name (i := 5) sc_Hand_hear.nd rfl (.inl rfl)) pgs_nil)))))
      (pss_cons (ps_asg (pe_callB (call_max2 rfl) (by rfl) m_max (by decide +kernel) (pa_cons (pe_dget (hu_of hr) (pe_fld (pv 0) rfl) (pv 4) (fun _ _ => rfl)) (pa_cons (pv 5) pa_nil))) (pg_sub (pe_fld (pv 0) rfl) (pv 4) (set_dict (hu_of hr))))
      (pss_cons (ps_if (PW.pt (pw_or (pt_cmpR op_eq (pv 3) pe_str (nomark _)) (pw_or1 (pt_cmpR op_lt (pe_kn Wn hr (by omega) (pa_cons (pv 2) pa_nil)) (pe_kn Wn hr (by omega) (pa_cons (pe_fld (pv 0) rfl) pa_nil)) (nomark _))))) (pss_one (ps_ret (pe_tup pa_nil))) pss_nil)
      (pss_one (ps_ret (C8.pe_mt An hr (by omega) (pv 0) (pa_cons (pv 4) (pa_cons (pv 5) pa_nil)))))))))))), ?_⟩
    have ha0 := ha
    have hl0 := hl
    obtain ⟨dx, v, hs, e, w1, d, t, ld⟩ := ha
    obtain ⟨u, eg, wu⟩ := hl
    have hpt : (match l.2.2 with | none => true | some w => decide (h.thing < w.2.length)) = true := by
      cases ho : l.2.2 with
      | none => rfl
      | some w => exact decide_eq_true (hw w ho)
    refine ⟨_, rfl, 0, .ref g, _, rfl, da_let (n := 0) hl0, fun H1 s1 => ⟨true, congrArg V.bl (let_isD lp), iteF ?_⟩⟩
    have e1 := s1 _ _ e
    have eg1 := s1 _ _ eg
    have wu1 := wu.tk (tk_same s1)
    have d1 := rs s1 d
    have t1 := s1 _ _ t
    have ld1 := ld.tk (tk_same s1)
    refine ⟨.ref x, rfl, x, dx, _, rfl, e1, lkm, .ref g, rfl, 1, rfl, g, _, -1, u, rfl, rfl, .inl (.inl eg1), at_last (V.str l.1 :: l.2.1.map V.int) u, x, D, T, h, u, l.2.2, rfl, ha0.same s1, wu1, true, congrArg V.bl hpt, iteF ?_⟩
    refine ⟨.ref g, rfl, 1, rfl, g, _, -1, u, rfl, rfl, .inl (.inl eg1), at_last (V.str l.1 :: l.2.1.map V.int) u, ?_⟩
    dsimp only [List.set]
    refine ⟨fun σ H' => σ = [some (.ref x), some (.ref g), some u, none, none, none] ∧ ButH x T H1 H' ∧ HandAt C H' x D T (h.hw l.2.2), ?_, fun σ H2 y => ?_⟩
    · refine ⟨_, rfl, u, l.2.2, rfl, wu1, .ref x, rfl, x, C, dx, _, _, rfl, e1, X.cl, X.n3, lk3, v, h.wish, rfl, w1.tk (tk_same s1), _, _, rfl, rfl, _, rfl, ite2 (fun c => ?_) (fun c => ?_)⟩
      · have c' := of_decide_eq_true c
        obtain ⟨a1, a2⟩ := HandAt.wish e1 d1 t1 ld1 wu1
        refine ⟨_, rfl, .ref x, rfl, x, C, dx, _, rfl, e1, X.cl, X.n3, (show 5 < 1000 by decide), ?_⟩
        rw [put_wish]
        refine ⟨rfl, a2, ?_⟩
        unfold Hd.hw
        rw [if_pos c']
        exact a1
      · have c' := of_decide_eq_false (Bool.eq_false_iff.mpr c)
        refine ⟨rfl, fun _ _ _ _ e => e, ?_⟩
        unfold Hd.hw
        rw [if_neg c']
        exact ha0.same s1
    obtain ⟨rfl, b2, ha2⟩ := y
    have b02 : ButH x T H H2 := (ButH.of s1).trans b2
    have tk2 := b02.tk ha0
    have eg2 := tk2 _ _ eg
    have wu2 := wu.tk tk2
    obtain ⟨a, ns, o⟩ := l
    rcases lp.1 with ⟨hw2, h2⟩ | ⟨hw2, h0, hn⟩
    · match ns, h2 with
      | [n, k], _ =>
      have hne : ¬ a = "word" := fun z => by
        rcases hw2 with h | h
        · have h' : a = "ask" := h
          rw [z] at h'
          exact absurd h' (by decide +kernel)
        · have h' : a = "leave" := h
          rw [z] at h'
          exact absurd h' (by decide +kernel)
      rw [hear_two] at q
      have hrw := hw_rows h o
      have hth := hw_thing h o
      dsimp only at ha2 wu2 eg2
      generalize h.hw o = g1 at ha2 hrw hth q
      have ha2' := ha2
      obtain ⟨dx2, v2, hs2, e2, w2, d2, t2, l2⟩ := ha2'
      refine ⟨.ref g, rfl, g, _, 0, .str a, rfl, rfl, .inl (.inl eg2), atI_nat (j := 0) rfl, rfl, decide (a = "word"), congrArg V.bl dstr, ?_⟩
      rw [decide_eq_false hne]
      refine iteF ⟨.ref x, rfl, x, dx2, _, rfl, e2, lkm, .ref g, rfl, g, _, 1, .int n, rfl, rfl, .inl (.inl eg2), atI_nat (j := 1) rfl, x, D, T, g1, n, rfl, ha2, fun H3 s3 => ?_⟩
      have b03 := b02.trans (ButH.of (x := x) (T := T) s3)
      have ha3 := ha2.same s3
      cases hsh : g1.shares n with
      | false =>
        refine ⟨false, rfl, iteT ⟨(show 0 ≤ sizeLine by decide), fun G nG => ?_⟩⟩
        have sG := same_new (o := HO.tup []) nG
        have eq0 : (match look h.rows n with | some z => if shrd z.1 = true then g1.hear2 a o n k z else (g1, []) | none => (g1, [])) = (g1, ([] : List Bt)) := by
          unfold Hd.shares at hsh
          rw [hrw] at hsh
          cases hz : look h.rows n with
          | none => rfl
          | some z =>
            rw [hz] at hsh
            show (if shrd z.1 = true then _ else _) = _
            rw [if_neg (by rw [show shrd z.1 = false from hsh]; decide)]
        rw [eq0] at q
        exact q _ G (b03.trans (ButH.of sG)) (ha3.same sG) ⟨[], upd_same, trivial⟩
      | true =>
        refine ⟨true, rfl, iteF ?_⟩
        obtain ⟨z, hz, hzs⟩ : ∃ z, look h.rows n = some z ∧ shrd z.1 = true := by
          unfold Hd.shares at hsh
          rw [hrw] at hsh
          cases hz : look h.rows n with
          | none =>
            rw [hz] at hsh
            cases hsh
          | some z =>
            rw [hz] at hsh
            exact ⟨z, rfl, hsh⟩
        rw [hz] at q
        have q : ∀ (H' : L2.Hp) (b : Addr), ButH x T H H' → HandAt C H' x D T (g1.hear2 a o n k z).1 → BAt H' b (g1.hear2 a o n k z).2 → Q (.ref b) H' := by
          have : (if shrd z.1 = true then g1.hear2 a o n k z else (g1, ([] : List Bt))) = g1.hear2 a o n k z := if_pos hzs
          simp only [this] at q
          exact q
        have hz1 : look g1.rows n = some z := by rw [hrw]; exact hz
        have eg3 := s3 _ _ eg2
        refine ⟨.ref g, rfl, ?_⟩
        show tNoPart _ _ _
        unfold tNoPart
        refine ⟨3, rfl, cut_to (c := 3) eg3 (show 3 ≤ 4 by decide) fun W H4 s4 eW => ?_⟩
        refine ⟨W, _, rfl, .inl (.inl eW), rfl, _, _, rfl, _, _, rfl, _, _, rfl, rfl, ?_⟩
        dsimp only [List.set]
        have ha4 := ha3.same s4
        have b04 := b03.trans (ButH.of (x := x) (T := T) s4)
        have ha4' := ha4
        obtain ⟨dx4, v4, hs4, e4, w4, d4, t4, l4⟩ := ha4'
        have vt4 : valV (kvT g1.rows) (Sum.inl n) = some (V.int z.2) := by
          rw [valT, hz1]
          rfl
        have sz : (kvT g1.rows).length < sizeLine := by
          unfold kvT
          rw [List.length_map, hrw]
          exact small1000 (by omega)
        obtain ⟨tT5, ha5, b5⟩ := ha4.setc (c := mx z.2 k) hd hz1
        refine ⟨.ref x, rfl, x, C, dx4, _, _, rfl, e4, X.cl, X.n5, lk5, .int n, rfl, T, .int z.2, rfl, vt4 ▸ DGet.k (k := .inl n) t4, .int k, rfl, z.2, k, rfl, .ref x, rfl, x, C, dx4, _, _, rfl, e4, X.cl, X.n5, lk5, .int n, rfl, T, _, rfl, DPut.k (k := .inl n) tT5 sz, ?_⟩
        have b05 := b04.trans b5
        have wu5 := wu.tk (b05.tk ha0)
        have e0 : upd H4 T (.dK (putK (kvT g1.rows) (Sum.inl n) (V.int (if k > z.2 then k else z.2)))) = upd H4 T (.dK (putK (kvT g1.rows) (Sum.inl n) (V.int (mx z.2 k)))) := rfl
        rw [e0]
        generalize upd H4 T (.dK (putK (kvT g1.rows) (Sum.inl n) (V.int (mx z.2 k)))) = H5 at ha5 b5 b05 wu5 ⊢
        have hz5 : look (g1.setc n (mx z.2 k)).rows n = some (z.1, mx z.2 k) := by
          show look (putC g1.rows n (mx z.2 k)) n = _
          rw [look_put, hz1]
          simp
        have len5 : (g1.setc n (mx z.2 k)).rows.length ≤ 40 := by
          show (putC g1.rows n (mx z.2 k)).length ≤ 40
          unfold putC
          rw [List.length_map, hrw]
          exact l40
        unfold Hd.hear2 at q
        have ha5' := ha5
        obtain ⟨dx5, v5, hs5, e5, w5, d5, t5, l5⟩ := ha5'
        have stop : (decide (a = "leave") || decide (wishN o < wishN g1.wish)) = true → ∀ G, H5 G = none → Q (.ref G) (upd H5 G (.tup [])) := fun hc G nG => by
          have sG := same_new (o := HO.tup []) nG
          rw [if_pos hc] at q
          exact q _ G (b05.trans (ButH.of sG)) (ha5.same sG) ⟨[], upd_same, trivial⟩
        refine ⟨_, rfl, rfl, decide (a = "leave"), congrArg V.bl dstr, ?_⟩
        cases hlv : decide (a = "leave") with
        | true => exact iteT ⟨(show 0 ≤ sizeLine by decide), stop (by rw [hlv]; rfl)⟩
        | false =>
        refine iteF ⟨_, rfl, u, o, rfl, wu5, .ref x, rfl, x, C, dx5, _, _, rfl, e5, X.cl, X.n3, lk3, v5, g1.wish, rfl, w5, _, _, rfl, rfl, _, rfl, ite2 (fun c => ?_) (fun c => ?_)⟩
        · exact ⟨(show 0 ≤ sizeLine by decide), stop (by rw [hlv, Bool.false_or]; exact c)⟩
        · have c' : decide (wishN o < wishN g1.wish) = false := Bool.eq_false_iff.mpr c
          rw [hlv, c', if_neg (by decide)] at q
          exact ⟨.ref x, rfl, x, dx5, _, rfl, e5, lkm, .int n, rfl, .int k, rfl, x, D, T, g1.setc n (mx z.2 k), n, k, (z.1, mx z.2 k), rfl, ha5, hd, hz5, hzs, len5, fun H6 b b6 h6 t6 => q H6 b (b05.trans b6) h6 t6⟩
    · have h0' : ns = [] := h0
      subst h0'
      have hwd : a = "word" := hw2
      rw [hear_none rfl] at q
      refine ⟨.ref g, rfl, g, _, 0, .str a, rfl, rfl, .inl (.inl eg2), atI_nat (j := 0) rfl, rfl, decide (a = "word"), congrArg V.bl dstr, ?_⟩
      rw [decide_eq_true hwd]
      refine iteT ⟨(show 0 ≤ sizeLine by decide), fun G nG => ?_⟩
      have sG := same_new (o := HO.tup []) nG
      exact q _ G (b02.trans (ButH.of sG)) (ha2.same sG) ⟨[], upd_same, trivial⟩
end
end K65

set_option Elab.async false
set_option linter.all false
set_option maxRecDepth 100000
set_option maxHeartbeats 4000000
/-! set of a list of ints. -/
namespace NB
open PySem PySem.Spec PyProof.Rows L2
section
variable {P : Program} {w : World} {A : Around} {E : Value → Shared → Prop} {s : Shared}
/-- a set with nothing in it -/
abbrev emI (w : World) : Obj := { cls := .type "set", dict := none, data := .set #[] 0 (.fresh 0 0 (!w.params.followText "set-order")) }
theorem setLstI {l : Addr} {xs : Array Value} (ns : List Int) {Q : Value → Shared → Prop} (nh : A.handled = none) (tl : s.heap.IsList l xs) (ia : IntsAre xs.toList ns) (few : ns.length + 1 < scanBound)
    (q : ∀ (h' : Heap) (tk c : Nat), SetR w h' s.heap.objs.size (fun j => decide (j ∈ ns)) c → c ≤ ns.length → (∀ b o, s.heap.get? b = some o → h'.get? b = some o) → Q (.ref s.heap.objs.size) { s with heap := h', toks := tk }) :
    wpAny (model P w) A (call (.type "set") [.ref l]) Q E s := by
  have n1 : xs.size = ns.length := by
    rw [← Array.length_toList, IntsAre.length ia]
  -- the call of the type
  obtain ⟨_, _, mro⟩ := F.called_set.mro
  have a1 := F.called_set.made
  have a2 := F.called_set.sub
  have a3 := F.called_set.notType
  have a4 := F.called_set.canCreate
  have a5 := F.typeCall_set_1 (.ref l)
  refine wpAny_call (codeAny_of_tree ?_)
  show wpAny _ _ (callAny (.type "set") _) _ _ _
  refine wpAny_pure ⟨Code.quiet_builtin _ (by decide +kernel), codeAny_builtin F.entry_type_call ?_⟩
  rw [Around.under_plain (weight_type_call_type "set" [.ref l] []) rfl]
  repeat (any_goals (first | assumption | wp_step))
  generalize hN : s.heap.objs.size = N at q ⊢
  refine codeAny_mono (code_set_led1 (.ref l) (E := E) (Q₁ := fun b u => b = .ref N ∧ u = { s with heap := s.heap.push (emI w) }) ⟨by rw [hN], rfl⟩) fun r u hr => ?_
  match r, hr with
  | .error _, hr => exact hr
  | .ok (.ret b), hr =>
    obtain ⟨rfl, rfl⟩ := hr
    have gN : (s.heap.push (emI w)).get? N = some (emI w) := hN ▸ Heap.get?_push_size _ rfl
    have tN : Shared.TypeIs { s with heap := s.heap.push (emI w) } (.ref N) "set" := ⟨_, gN, rfl⟩
    have b1 := F.called_set.init.lookup
    have b2 := F.called_set.init.bind (.ref N)
    repeat (any_goals (first | assumption | wp_step))
    refine codeAny_mono (codeAny_call_builtin (R := wants (fun r u => r = .none ∧ ∃ h' tk c, u = { s with heap := h', toks := tk } ∧ SetR w h' N (fun j => decide (j ∈ ns)) c ∧ c ≤ ns.length ∧ ∀ b o, s.heap.get? b = some o → h'.get? b = some o) E) F.called_set.init.plain F.entry_set_init (check_set_init_1 tN ?_)) fun r2 u2 hr2 => ?_
    · obtain ⟨⟨oc, od, ob, os⟩, ho, hc, nn, hd⟩ := tl
      simp only at hc hd
      subst hc
      subst hd
      have lN : l < N := hN ▸ Heap.lt_size ho
      have g1 : (s.heap.push (emI w)).get? l = some { cls := .type "list", dict := od, data := .seq xs nn, slots := os } := Heap.get?_push_of_some _ ho
      have t1 : (s.heap.push (emI w)).IsList l xs := ⟨_, g1, rfl, nn, rfl⟩
      have sz : (s.heap.push (emI w)).objs.size = N + 1 := by rw [Heap.size_push, hN]
      have c1 := F.sub_list_set
      have c2 := F.sub_list_frozenset
      have c3 : (Value.type "list" == Value.type "dict") = false := by decide
      unfold Builtin.«set.__init__» noKeywords Builtin.Frozenset.updateFrom
      generalize eP : pyIter = PI
      wp_walk
      subst eP
      refine wpAny_pyIter_list t1 ?_
      refine wpAny_bind (wpAny_runValue ?_)
      have ln : l ≠ (s.heap.push (emI w)).objs.size := by
        rw [sz]
        exact Nat.ne_of_lt (Nat.lt_succ_of_lt lN)
      have nf : N ∉ [(s.heap.push (emI w)).objs.size, l] := by
        rw [sz]
        simp only [List.mem_cons, List.not_mem_nil, or_false, not_or]
        exact ⟨Nat.ne_of_lt (Nat.lt_succ_self _), Nat.ne_of_gt lN⟩
      refine set_update_ints ((Walks.list (by simp [nh]) _ l ln xs).toS) N nf ns n1 few (fun i v hv => ?_) (xs.size - 0) 0 _ (by omega) (Nat.zero_le _) ⟨⟨_, Heap.get?_push_size _ rfl, rfl, rfl⟩, t1.push _⟩ ?i0 ?i1
      · have hi : i < ns.length := by
          rw [← n1]
          exact (Array.getElem?_eq_some_iff.mp hv).1
        obtain ⟨t, e⟩ := PyProof.Rows.IntsAre.int_at ia i v (by rw [Array.getElem?_toList]; exact hv)
        refine ⟨ns[i], t, List.getElem?_eq_getElem hi, ?_⟩
        rw [e, List.getD_eq_getElem?_getD, List.getElem?_eq_getElem hi]
        rfl
      case i0 => exact ⟨0, Nat.le_refl 0, setR_new_at (Heap.get?_push_of_some _ gN)⟩
      case i1 =>
        intro u c mv hc R
        obtain ⟨h', gg, dd, tk, oo⟩ := u
        obtain rfl : gg = s.gens := mv.gens
        obtain rfl : dd = s.drawn := mv.drawn
        obtain rfl : oo = s.os := mv.os
        rw [n1] at hc
        show wpAny _ _ _ _ _ _
        refine wpAny_pure ?_
        show wpAny _ _ (ret Value.none) _ _ _
        refine wpAny_pure ⟨rfl, h', tk, c, rfl, R, hc, fun b o e => mv.heap b o ?_ (Heap.get?_push_of_some _ (Heap.get?_push_of_some _ e))⟩
        have b0 := Heap.lt_size e
        rw [hN] at b0
        rw [sz]
        simp only [List.mem_cons, List.not_mem_nil, or_false, not_or]
        exact ⟨Nat.ne_of_lt b0, Nat.ne_of_lt (Nat.lt_succ_of_lt b0)⟩
    · match r2, hr2 with
      | .error _, hr2 => exact hr2
      | .ok (.ret _), hr2 =>
        obtain ⟨rfl, h', tk, c, rfl, R, hc, kp⟩ := hr2
        repeat (any_goals (first | assumption | wp_step))
        exact q _ _ _ R hc kp
end
section
variable {X : Cx}
/-- set(xs), xs a list of ints -/
def rSetLstI (K : PySem.W.Frag) (w : World) : List V → Hp → VK → Prop := fun xs H Q => ∃ (l : Addr) (ns : List Int), xs = [V.ref l] ∧ SqL K H l (ns.map V.int) ∧ ns.length < 64 ∧
  ∀ a c, H a = none → c ≤ ns.length → Q (.ref a) (upd H a (SetO w a (fun j => decide (j ∈ ns)) c))
theorem ints_of_vals : ∀ {ns : List Int} {us : List Value}, Vals (ns.map V.int) us → IntsAre us ns
  | [], _, .nil => .nil
  | n :: ns, _, .cons r t => by
    obtain ⟨tk, rfl⟩ := r
    exact .cons n tk (ints_of_vals t)
theorem cr_setLstI (hc : X.calm = true) : CallR X (.type "set") (rSetLstI X.K X.w) := by
  intro pins s σ H xs us Q I r ⟨l, ns, e, hl, few, q⟩
  subst e
  rw [Vals.ref1 r]
  obtain ⟨its, rv, pl, _⟩ := I.list hl
  have hn : H s.heap.objs.size = none := I.hok.fresh (Nat.le_refl _)
  refine setLstI (P := X.prog) (w := X.w) (xs := its.toArray) ns (I.ok.hd hc) pl.isList (ints_of_vals (by simpa using rv)) (by unfold scanBound; omega) fun h' tk c R hcn kp => ?_
  exact ⟨.ref s.heap.objs.size, _, I.laid (t' := tk) kp (Nat.le_refl _) (setO_new R), rfl, q _ c hn hcn⟩
end
end NB

set_option Elab.async false
set_option linter.all false
set_option maxRecDepth 100000
namespace K65
open PySem PySem.Spec PyProof.Rows L2 NB

/-! ### what a hand writes by itself -/
theorem BtAt.app {H : Hp} {a : Addr} {b : Bt} (p : PrAt H a b) : ∀ {as : List Addr} {bs : List Bt}, BtAt H as bs → BtAt H (as ++ [a]) (bs ++ [b])
  | [], [], _ => ⟨p, trivial⟩
  | _ :: _, _ :: _, ⟨x, c⟩ => ⟨x, c.app p⟩
  | [], _ :: _, h => h.elim
  | _ :: _, [], h => h.elim
theorem BtAt.cat {H : Hp} {as' : List Addr} {bs' : List Bt} (p : BtAt H as' bs') : ∀ {as : List Addr} {bs : List Bt}, BtAt H as bs → BtAt H (as ++ as') (bs ++ bs')
  | [], [], _ => p
  | _ :: _, _ :: _, ⟨x, c⟩ => ⟨x, BtAt.cat p c⟩
  | [], _ :: _, h => h.elim
  | _ :: _, [], h => h.elim
theorem BtAt.len {H : Hp} : ∀ {as : List Addr} {bs : List Bt}, BtAt H as bs → as.length = bs.length
  | [], [], _ => rfl
  | _ :: _, _ :: _, ⟨_, c⟩ => by rw [List.length_cons, List.length_cons, c.len]
  | [], _ :: _, h => h.elim
  | _ :: _, [], h => h.elim
def Hd.othN (h : Hd) (n : Int) : Int := match look h.rows n with
  | some z => (othT z.1 h.thing : Nat)
  | none => 0
def Hd.cntN (h : Hd) (n : Int) : Int := match look h.rows n with
  | some z => z.2
  | none => 0
def Hd.asks (h : Hd) (ys : List Int) : List Bt := ys.map fun n => (h.othN n, (("ask" : Str), [n, h.cntN n], h.wish))
def Hd.words (h : Hd) (ts : List Int) : List Bt := ts.map fun k => (k, (("word" : Str), [], h.wish))
def BtL (h : Hd) (bs : List Bt) : Prop := ∃ ys, LkL h ys ∧ ((h.wish = none ∧ bs = h.asks ys) ∨ (h.wish ≠ none ∧ ∃ ss ts, ShL h ss ∧ ts.Pairwise (· < ·) ∧ (∀ k, k ∈ ts ↔ k ∈ ss.map h.othN) ∧ bs = h.asks ys ++ h.words ts))
def spBeat (C : Addr) : Sp := fun vs H Q _ => ∃ (x D T : Addr) (h : Hd), vs = [.ref x] ∧ HandAt C H x D T h ∧ h.rows.length ≤ 40 ∧ (∀ w, h.wish = some w → h.thing < w.2.length) ∧ ∀ H' g bs, Same H H' → BAt H' g bs → BtL h bs → Q (.ref g) H'
section
variable {P : Program} {w : World} {K : PySem.W.Frag} {mg : Str → Option Value} {base : Heap}
abbrev a_Hand_beat : Stmt := inClass (topS 19) 10
abbrev n_Hand_beat : List Str := ["self", "found", "number", "things", "thing"]
theorem sc_Hand_beat : FnScope n_Hand_beat ["self"] (defScope a_Hand_beat) := ⟨rfl, rfl, rfl, by decide +kernel, rfl, by decide +kernel, by decide +kernel⟩
set_option maxHeartbeats 8000000 in
theorem ok_Hand_beat {f fOt : Addr} {fd fdOt : FuncData} {k : Nat} {C : Addr} (F : Fun K "beat" "Hand.beat" a_Hand_beat f fd) (Lk : C8.Met P w K mg base 6 C "lacks" (spLkL C) []) (Sd1 : C8.Met P w K mg base 2 C "shared" (spShL C) []) (Ot : Kn P w K mg base 1 "other_thing" ["rule", "thing"] spOthT fOt fdOt) (X : HandTxt K C) (m_set : mg "set" = none) (m_sorted : mg "sorted" = none) (m_tuple : mg "tuple" = none) : FnOk P w K mg base CX0 (k + 7) f fd ["self"] (spBeat C) := by
  refine F.ok sc_Hand_beat (fun vs H Q E h => ?_) (fun cdv A outer s H vs Q E hr h => ?_)
  · obtain ⟨x, D, T, h, rfl, _⟩ := h
    rfl
  · obtain ⟨x, D, T, h, rfl, ha, l40, hw, q⟩ := h
    refine ⟨_, (pss_cons (ps_set (i := 1) sc_Hand_beat.nd rfl (.inl rfl) (pe_lst pa_nil))
      (pss_cons (ps_for PassesOwn.never rfl (pi_tup (C8.pe_mt0 Lk hr (by omega) (pv 0))) (pg_name (i := 2) sc_Hand_beat.nd rfl (.inl rfl))
        (pss_one (ps_expr (pe_bm PySem.F.plainAttrs_list PySem.F.slot_list_append PySem.F.type_list_append mt_append (pv 1) (pa_cons (pe_tup (pa_cons (pe_kn Ot hr (by omega) (pa_cons (pe_dget (hu_of hr) (pe_fld (pv 0) rfl) (pv 2) (fun _ _ => rfl)) (pa_cons (pe_fld (pv 0) rfl) pa_nil))) (pa_cons (pe_tup (pa_cons pe_str (pa_cons (pv 2) (pa_cons (pe_dget (hu_of hr) (pe_fld (pv 0) rfl) (pv 2) (fun _ _ => rfl)) (pa_cons (pe_fld (pv 0) rfl) pa_nil))))) pa_nil))) pa_nil)))))
      (C8.pss_cut (ps_if (pt_cmpR op_notN (pe_fld (pv 0) rfl) pe_non (nomark _)) (pss_cons (ps_setLc (i := 3) (own := [("number", 2)]) (g := (gName 2)) (tt := tYes) (te := (tCall spOthT [] E0 (tCons (tDGet (tFld K (tVar 0) "held") (tVar 2)) (tCons (tFld K (tVar 0) "thing") tNil)))) rfl sc_Hand_beat.nd rfl rfl (sw_true rfl rfl rfl (by decide +kernel)) (pi_list (C8.pe_mt0 Sd1 hr (by omega) (pv 0))) (blkOk_by (N := n_Hand_beat) (sc := defScope a_Hand_beat) (by decide +kernel))
          (fun _ _ _ _ _ => (pg_name (i := 2) sc_Hand_beat.nd rfl (.inl rfl) (hf := .inr rfl))) (fun _ _ _ _ _ => pts_nil) (fun _ _ _ _ _ => (pe_kn Ot hr (by omega) (pa_cons (pe_dget (hu_of hr) (pe_fld (pv 0) rfl) (pv 2) (fun _ _ => rfl)) (pa_cons (pe_fld (pv 0) rfl) pa_nil)))))
      (pss_one (ps_expr (pe_bm PySem.F.plainAttrs_list PySem.F.slot_list_extend PySem.F.type_list_extend mt_extend (pv 1) (pa_cons (
        pe_lc (own := [("thing", 4)]) (g := (gName 4)) (tt := tYes) (te := (tTup (tCons (tVar 4) (tCons (tTup (tCons (tC (.str "word")) (tCons (tFld K (tVar 0) "wish") tNil))) tNil)))) rfl sc_Hand_beat.nd (pi_list (pe_callB (cr_sortedSet rfl) (by rfl) m_sorted (by decide +kernel) (pa_cons (pe_callTy (cr_setLstI rfl) (by rfl) m_set (by decide +kernel) (pa_cons (pv 3) pa_nil)) pa_nil))) (blkOk_by (N := n_Hand_beat) (sc := defScope a_Hand_beat) (by decide +kernel))
          (fun _ _ _ _ _ => (pg_name (i := 4) sc_Hand_beat.nd rfl (.inl rfl) (hf := .inr rfl))) (fun _ _ _ _ _ => pts_nil) (fun _ _ _ _ _ => (pe_tup (pa_cons (pv 4) (pa_cons (pe_tup (pa_cons pe_str (pa_cons (pe_fld (pv 0) rfl) pa_nil))) pa_nil))))) pa_nil))))) pss_nil)
      (pss_one (ps_ret (pe_callTy call_tuple_of (by rfl) m_tuple (by decide +kernel) (pa_cons (pv 1) pa_nil))))))), ?_⟩
    have ha0 := ha
    obtain ⟨dx, v, hs, e, w1, d, t, l⟩ := ha
    have getH : ∀ (H1 : Hp) (n : Int), Same H H1 → (∃ q c, look h.rows n = some (q, c) ∧ shrd q = true) → ∃ a q c, valV (kvH hs) (Sum.inl n) = some (V.ref a) ∧ RuleAt H1 a q ∧ valV (kvT h.rows) (Sum.inl n) = some (V.int c) ∧ h.othN n = (othT q h.thing : Nat) ∧ h.cntN n = c := fun H1 n s ⟨q, c, lk, _⟩ => by
      rcases valH n (l.keep (.same s)) with ⟨a1, a2⟩ | ⟨q', c', a, a1, a2, a3⟩
      · rw [lk] at a1
        cases a1
      rw [lk] at a1
      cases a1
      refine ⟨a, q, c, a2, a3, ?_, ?_, ?_⟩
      · rw [valT, lk]
        rfl
      · unfold Hd.othN
        rw [lk]
      · unfold Hd.cntN
        rw [lk]
    refine ⟨(show 0 ≤ sizeLine by decide), fun F nF => ?_⟩
    have sF := same_new (o := HO.lst []) nF
    dsimp only [List.set]
    refine ⟨.ref x, rfl, x, dx, _, rfl, sF _ _ e, lkm, x, D, T, h, rfl, ha0.same sF, l40, hw, fun H2 Y ys s2 eY yL => ?_⟩
    have yl := yL.len
    have s02 := sF.trans s2
    have eF2 : H2 F = some (.lst []) := s2 _ _ upd_same
    refine ⟨Y, rfl, ⟨_, .inl (.inl eY)⟩, for_it (walk_tup (xs := ys.map V.int)) (fun i σ H' => (∃ u2, σ = [some (.ref x), some (.ref F), u2, none, none]) ∧ Same H H' ∧ H' Y = some (.tup (ys.map V.int)) ∧ ∃ as, H' F = some (.lst (as.map V.ref)) ∧ BtAt H' as (h.asks (ys.take i))) ⟨⟨_, rfl⟩, s02, eY, [], eF2, trivial⟩ (fun i σ H' _ p => .inl (.inl p.2.2.1)) (fun i u σ H3 H4 hi p y => ?_) (fun σ H3 p => ?_)⟩
    · obtain ⟨⟨u2, rfl⟩, s3, eY3, as, eF, bA⟩ := p
      obtain ⟨rfl, gv⟩ := y
      obtain ⟨n, en, rfl⟩ := mapGet gv
      obtain ⟨a, rl, c, g1, g2, g3, g4, g5⟩ := getH _ n s3 (yL.mem (List.mem_of_getElem? en))
      have la := bA.len
      have li : as.length ≤ 40 := by
        rw [la]
        unfold Hd.asks
        rw [List.length_map, List.length_take]
        exact Nat.le_trans (Nat.min_le_right _ _) (by omega)
      dsimp only [List.set]
      refine ⟨.ref F, rfl, .inl ⟨rfl, _, .inl (.inl eF)⟩, .ref x, rfl, x, C, dx, _, _, rfl, s3 _ _ e, X.cl, X.n4, lk4, .int n, rfl, D, .ref a, rfl, g1 ▸ DGr (k := .inl n) (rs s3 d), .ref x, rfl, x, C, dx, _, _, rfl, s3 _ _ e, X.cl, X.n1, lk1, a, rl, h.thing, rfl, g2, _, rfl, .ref x, rfl, x, C, dx, _, _, rfl, s3 _ _ e, X.cl, X.n5, lk5, .int n, rfl, T, .int c, rfl, g3 ▸ DGet.k (k := .inl n) (s3 _ _ t), .ref x, rfl, x, C, dx, _, _, rfl, s3 _ _ e, X.cl, X.n3, lk3, (show 4 ≤ sizeLine by decide), fun L nL => ⟨(show 2 ≤ sizeLine by decide), fun M nM => ?_⟩⟩
      have sL := same_new (o := HO.tup [V.str "ask", V.int n, V.int c, v]) nL
      have sM := same_new (o := HO.tup [V.int (othT rl h.thing : Nat), V.ref L]) nM
      have sLM := sL.trans sM
      have eM : PrAt _ M (h.othN n, (("ask" : Str), [n, h.cntN n], h.wish)) := ⟨L, (by rw [g4]; exact upd_same), v, (by rw [g5]; exact sM _ _ upd_same), w1.tk (tk_same (s3.trans sLM))⟩
      have eF5 := sLM _ _ eF
      have eY5 := sLM _ _ eY3
      have bA5 := bA.tk (tk_same sLM)
      have s5 := s3.trans sLM
      generalize upd (upd H4 L (.tup [V.str "ask", V.int n, V.int c, v])) M (.tup [V.int (othT rl h.thing : Nat), V.ref L]) = H5 at eM eF5 eY5 bA5 s5 ⊢
      have kF : TupK H5 (upd H5 F (.lst (as.map V.ref ++ [V.ref M]))) := fun b xs eb => (upd_ne (fun q => by rw [q, eF5] at eb; cases eb)).trans eb
      refine ⟨F, _, _, rfl, rfl, eF5, by rw [List.length_map]; exact small1000 (by omega), ⟨_, rfl⟩, same_over s5 nF, kF _ _ eY5, as ++ [M], by rw [upd_same, List.map_append]; rfl, ?_⟩
      have e6 : h.asks (ys.take (i + 1)) = h.asks (ys.take i) ++ [(h.othN n, (("ask" : Str), [n, h.cntN n], h.wish))] := by
        unfold Hd.asks
        rw [List.take_add_one, en, List.map_append]
        rfl
      rw [e6]
      exact (bA5.tk kF).app (eM.tk kF)
    obtain ⟨⟨u2, rfl⟩, s3, eY3, as, eF, bA⟩ := p
    rw [List.take_of_length_le (by rw [List.length_map]; exact Nat.le_refl _)] at bA
    have la : as.length ≤ 40 := by
      rw [bA.len]
      unfold Hd.asks
      rw [List.length_map]
      omega
    refine ⟨fun σ H' => (∃ u2 u3 u4, σ = [some (.ref x), some (.ref F), u2, u3, u4]) ∧ Same H H' ∧ ∃ as bs, H' F = some (.lst (as.map V.ref)) ∧ BtAt H' as bs ∧ BtL h bs, ?_, fun σ H4 y => ?_⟩
    · refine ⟨.ref x, rfl, x, C, dx, _, _, rfl, s3 _ _ e, X.cl, X.n3, lk3, rfl, ?_⟩
      cases ho : h.wish with
      | none =>
        rw [ho] at w1
        obtain rfl : v = .non := w1
        exact ⟨false, congrArg V.bl (by rw [decide_eq_true rfl]; rfl), iteF ⟨⟨_, _, _, rfl⟩, s3, as, _, eF, bA, ys, yL, .inl ⟨ho, rfl⟩⟩⟩
      | some wi =>
        have hv : v ≠ .non := by
          rw [ho] at w1
          obtain ⟨p1, p2, rfl, _⟩ := w1
          exact fun z => by cases z
        refine ⟨true, congrArg V.bl (by rw [decide_eq_false hv]; rfl), iteT ?_⟩
        have hne : h.wish ≠ none := fun z => by rw [ho] at z; cases z
        refine ⟨.ref x, rfl, x, dx, _, rfl, s3 _ _ e, lkm, x, D, T, h, rfl, ha0.same s3, l40, fun H4 S ss s4 eS sL => ?_⟩
        have sl := sL.len
        have s34 := s3.trans s4
        refine ⟨S, rfl, ⟨_, .inl (.inl eS)⟩, fun G nG => lc_it (walk_list (xs := ss.map V.int)) (fun i H' => Same H4 H' ∧ H' G = some (.lst (((ss.take i).map h.othN).map V.int))) ⟨same_new nG, upd_same⟩ (fun i H' _ p => .inl (.inl (p.1 _ _ eS))) (fun i u H5 H6 hi p y => ?_) (fun H5 p => ?_)⟩
        · obtain ⟨sm, eG⟩ := p
          obtain ⟨rfl, gv⟩ := y
          obtain ⟨n, en, rfl⟩ := mapGet gv
          have s05 := s34.trans sm
          obtain ⟨a, rl, c, g1, g2, g3, g4, g5⟩ := getH _ n s05 (sL.mem (List.mem_of_getElem? en))
          refine ⟨rfl, .ref x, rfl, x, C, dx, _, _, rfl, s05 _ _ e, X.cl, X.n4, lk4, .int n, rfl, D, .ref a, rfl, g1 ▸ DGr (k := .inl n) (rs s05 d), .ref x, rfl, x, C, dx, _, _, rfl, s05 _ _ e, X.cl, X.n1, lk1, a, rl, h.thing, rfl, g2, _, eG, ?_, same_over sm nG, ?_⟩
          · rw [List.length_map, List.length_map, List.length_take]
            exact small1000 (Nat.le_trans (Nat.min_le_right _ _) (by omega))
          · rw [upd_same, List.take_add_one, en, List.map_append, List.map_append]
            show some (HO.lst (_ ++ [V.int (othT rl h.thing : Nat)])) = some (HO.lst (_ ++ [V.int (h.othN n)]))
            rw [g4]
        obtain ⟨sm, eG⟩ := p
        rw [List.take_of_length_le (by rw [List.length_map]; exact Nat.le_refl _)] at eG
        have s05 := s34.trans sm
        have eF5 := (s4.trans sm) _ _ eF
        dsimp only [List.set]
        refine ⟨.ref F, rfl, .inl ⟨rfl, _, .inl (.inl eF5)⟩, .ref G, rfl, G, ss.map h.othN, rfl, .inl (.inl eG), by rw [List.length_map]; omega, fun B cc nB hcc => ?_⟩
        rw [List.length_map] at hcc
        refine ⟨B, _, cc, rfl, upd_same, by omega, fun ts R pw mm ln nR => ?_⟩
        generalize hG : upd (upd H5 B (SetO _ _ _ _)) R (.lst (ts.map V.int)) = H6
        have eR : H6 R = some (.lst (ts.map V.int)) := by
          rw [← hG]
          exact upd_same
        have s6 : Same H3 H6 := by
          rw [← hG]
          exact (s4.trans sm).trans ((same_new nB).trans (same_new nR))
        have s06 := s3.trans s6
        have lt : ts.length ≤ 40 := by omega
        refine ⟨R, rfl, ⟨_, .inl (.inl eR)⟩, fun W nW => lc_it (walk_list (xs := ts.map V.int)) (fun i H' => Same H6 H' ∧ ∃ as', H' W = some (.lst (as'.map V.ref)) ∧ BtAt H' as' (h.words (ts.take i))) ⟨same_new nW, [], upd_same, trivial⟩ (fun i H' _ p => .inl (.inl (p.1 _ _ eR))) (fun i u H7 H8 hi p y => ?_) (fun H7 p => ?_)⟩
        · obtain ⟨s7, as', eW, bW⟩ := p
          obtain ⟨rfl, gv⟩ := y
          obtain ⟨kk, ek, rfl⟩ := mapGet gv
          have s07 := s06.trans s7
          have lw : as'.length ≤ 40 := by
            rw [bW.len]
            unfold Hd.words
            rw [List.length_map, List.length_take]
            exact Nat.le_trans (Nat.min_le_right _ _) lt
          refine ⟨rfl, _, rfl, .ref x, rfl, x, C, dx, _, _, rfl, s07 _ _ e, X.cl, X.n3, lk3, (show 2 ≤ sizeLine by decide), fun L nL => ⟨(show 2 ≤ sizeLine by decide), fun M nM => ?_⟩⟩
          have sL' := same_new (o := HO.tup [V.str "word", v]) nL
          have sM := same_new (o := HO.tup [V.int kk, V.ref L]) nM
          have sLM := sL'.trans sM
          have eM : PrAt _ M (kk, (("word" : Str), [], h.wish)) := ⟨L, upd_same, v, sM _ _ upd_same, w1.tk (tk_same (s07.trans sLM))⟩
          have eW9 := sLM _ _ eW
          have bW9 := bW.tk (tk_same sLM)
          have s9 := s7.trans sLM
          generalize upd (upd H8 L (.tup [V.str "word", v])) M (.tup [V.int kk, V.ref L]) = H9 at eM eW9 bW9 s9 ⊢
          have kW : TupK H9 (upd H9 W (.lst (as'.map V.ref ++ [V.ref M]))) := fun b xs eb => (upd_ne (fun q => by rw [q, eW9] at eb; cases eb)).trans eb
          refine ⟨_, eW9, by rw [List.length_map]; exact small1000 (by omega), same_over s9 nW, as' ++ [M], by rw [upd_same, List.map_append]; rfl, ?_⟩
          have e6 : h.words (ts.take (i + 1)) = h.words (ts.take i) ++ [(kk, (("word" : Str), [], h.wish))] := by
            unfold Hd.words
            rw [List.take_add_one, ek, List.map_append]
            rfl
          rw [e6]
          exact (bW9.tk kW).app (eM.tk kW)
        · obtain ⟨s7, as', eW, bW⟩ := p
          rw [List.take_of_length_le (by rw [List.length_map]; exact Nat.le_refl _)] at bW
          have eF7 := s7 _ _ (s6 _ _ eF)
          have bA7 := bA.tk (tk_same (s6.trans s7))
          have lw : as'.length ≤ 40 := by
            rw [bW.len]
            unfold Hd.words
            rw [List.length_map]
            exact lt
          have kF : TupK H7 (upd H7 F (.lst (as.map V.ref ++ as'.map V.ref))) := fun b xs eb => (upd_ne (fun q => by rw [q, eF7] at eb; cases eb)).trans eb
          refine ⟨F, W, _, _, rfl, rfl, eF7, eW, by rw [List.length_map, List.length_map]; exact Nat.le_trans (show as.length + as'.length ≤ 80 by omega) (by decide), ⟨_, _, _, rfl⟩, same_over (s06.trans s7) nF, as ++ as', h.asks ys ++ h.words ts, by rw [upd_same, List.map_append], BtAt.cat (bW.tk kF) (bA7.tk kF), ys, yL, .inr ⟨hne, ss, ts, sL, pw, fun k => ?_, rfl⟩⟩
          rw [mm k, decide_eq_true_eq]
    · obtain ⟨⟨u2, u3, u4, rfl⟩, s4, as', bs', eF', bA', bL⟩ := y
      refine ⟨.ref F, rfl, F, _, rfl, .inl ⟨.inl (.inl eF'), fun G nG => ?_⟩⟩
      have sG := same_new (o := HO.tup (as'.map V.ref)) nG
      exact q _ G bs' (s4.trans sG) ⟨as', upd_same, bA'.tk (tk_same sG)⟩ bL
end
end K65

set_option Elab.async false
set_option linter.all false
set_option maxRecDepth 100000
namespace K65
open PySem PySem.Spec PyProof.Rows L2 NB

/-! ### wiped slots -/
theorem wipe_get (σ : L2.St) : ∀ (vs : List Nat) (j : Nat), (wipe σ vs)[j]? = if j ∈ vs then σ[j]?.map (fun _ => none) else σ[j]?
  | [], j => by rw [if_neg List.not_mem_nil]; rfl
  | v :: vs, j => by
    show ((wipe σ vs).set v none)[j]? = _
    rw [List.getElem?_set, wipe_get σ vs j, wipe_length]
    by_cases c : v = j
    · subst c
      rw [if_pos rfl, if_pos List.mem_cons_self]
      by_cases d : v < σ.length
      · rw [if_pos d, List.getElem?_eq_getElem d]
        rfl
      · rw [if_neg d, List.getElem?_eq_none (by omega)]
        rfl
    · rw [if_neg c]
      have : j ∈ v :: vs ↔ j ∈ vs := by rw [List.mem_cons]; exact ⟨fun h => h.elim (fun e => absurd e.symm c) id, .inr⟩
      by_cases d : j ∈ vs
      · rw [if_pos d, if_pos (this.mpr d)]
      · rw [if_neg d, if_neg (fun h => d (this.mp h))]
theorem wipe_any {σ τ : L2.St} {vs : List Nat} (l : τ.length = σ.length) (h : ∀ j, j ∉ vs → τ[j]? = σ[j]?) : wipe τ vs = wipe σ vs := by
  refine List.ext_getElem? fun j => ?_
  rw [wipe_get, wipe_get]
  by_cases d : j ∈ vs
  · rw [if_pos d, if_pos d]
    by_cases e : j < σ.length
    · rw [List.getElem?_eq_getElem e, List.getElem?_eq_getElem (by omega)]
      rfl
    · rw [List.getElem?_eq_none (by omega), List.getElem?_eq_none (by omega)]
  · rw [if_neg d, if_neg d, h j d]

/-! ### a hand is made -/
def RwAt (H : Hp) (R : Addr) (rows : List (Int × Rl × Int)) (hs : List (Int × Addr)) : Prop := ∃ as : List Addr, H R = some (.tup (as.map V.ref)) ∧ as.length = rows.length ∧ hs.length = rows.length ∧
  ∀ (i : Nat) (a : Addr) (r : Int × Rl × Int) (z : Int × Addr), as[i]? = some a → rows[i]? = some r → hs[i]? = some z → z.1 = r.1 ∧ H a = some (.tup [.int r.1, .ref z.2, .int r.2.2]) ∧ RuleAt H z.2 r.2.1
theorem RwAt.tk {H H' : Hp} {R : Addr} {rows : List (Int × Rl × Int)} {hs : List (Int × Addr)} (h : RwAt H R rows hs) (k : TupK H H') : RwAt H' R rows hs := by
  obtain ⟨as, e, l1, l2, f⟩ := h
  exact ⟨as, k _ _ e, l1, l2, fun i a r z h1 h2 h3 => ⟨(f i a r z h1 h2 h3).1, k _ _ (f i a r z h1 h2 h3).2.1, (f i a r z h1 h2 h3).2.2.tk k⟩⟩
theorem held_of {H : Hp} : ∀ {hs : List (Int × Addr)} {rows : List (Int × Rl × Int)}, hs.length = rows.length → (∀ (i : Nat) (r : Int × Rl × Int) (z : Int × Addr), rows[i]? = some r → hs[i]? = some z → z.1 = r.1 ∧ RuleAt H z.2 r.2.1) → Held H hs rows
  | [], [], _, _ => trivial
  | z :: hs, r :: rows, l, f => ⟨(f 0 r z rfl rfl).1, (f 0 r z rfl rfl).2, held_of (by simpa using l) fun i r' z' h1 h2 => f (i + 1) r' z' h1 h2⟩
  | [], _ :: _, l, _ => by cases l
  | _ :: _, [], l, _ => by cases l
theorem putK_new {kvs : List (Key × V)} {k : Key} {v : V} (h : ∀ kv ∈ kvs, kv.1 ≠ k) : putK kvs k v = kvs ++ [(k, v)] := by
  unfold putK
  rw [if_neg]
  intro z
  obtain ⟨kv, h1, h2⟩ := List.any_eq_true.mp z
  exact h kv h1 (of_decide_eq_true h2)
theorem nd_take {ks : List Int} (nd : ks.Nodup) {i : Nat} {n : Int} (e : ks[i]? = some n) : n ∉ ks.take i := fun h => by
  obtain ⟨j, hj⟩ := List.mem_iff_getElem?.mp h
  have lj : j < i := by
    have := (List.getElem?_eq_some_iff.mp hj).1
    rw [List.length_take] at this
    omega
  rw [List.getElem?_take_of_lt lj] at hj
  have := (List.getElem?_inj (List.getElem?_eq_some_iff.mp hj).1 nd).mp (hj.trans e.symm)
  omega
theorem wipe_three {σ : L2.St} {i j k : Nat} {a b c : Option V} {m n o : Str} : wipe ((((wipe σ ([(m, i), (n, j), (o, k)].map (·.2))).set i a).set j b).set k c) ([(m, i), (n, j), (o, k)].map (·.2)) = wipe σ ([(m, i), (n, j), (o, k)].map (·.2)) := by
  refine wipe_any (by rw [List.length_set, List.length_set, List.length_set, wipe_length]) fun l hl => ?_
  have h1 : i ≠ l := fun e => hl (by simp [e])
  have h2 : j ≠ l := fun e => hl (by simp [e])
  have h3 : k ≠ l := fun e => hl (by simp [e])
  rw [List.getElem?_set_ne h3, List.getElem?_set_ne h2, List.getElem?_set_ne h1, wipe_get, if_neg hl]
def spHInit (C : Addr) : Sp := fun vs H Q _ => ∃ (x dx R : Addr) (i : Nat) (p : Int) (rows : List (Int × Rl × Int)) (hs : List (Int × Addr)), vs = [.ref x, .int (i : Int), .int p, .ref R] ∧ H x = some (.ins C dx []) ∧ RwAt H R rows hs ∧ (rows.map (·.1)).Nodup ∧ rows.length ≤ 40 ∧
  ∀ H' D T, (∀ b o, b ≠ x → H b = some o → H' b = some o) → HandAt C H' x D T ⟨i, p, none, rows⟩ → D ≠ T → H D = none → H T = none → (∃ kvs, H' D = some (.dK kvs)) → Q .non H'
theorem put3 (i p v : V) : putF "wish" v (putF "place" p (putF "thing" i [])) = ([("thing", i), ("place", p), ("wish", v)] : List (Str × V)) := by
  have n1 : ¬ (("thing" : Str) = "place") := by decide +kernel
  have n2 : ¬ (("thing" : Str) = "wish") := by decide +kernel
  have n3 : ¬ (("place" : Str) = "wish") := by decide +kernel
  simp [putF, n1, n2, n3]
theorem put4 (i p v d : V) : putF "held" d [("thing", i), ("place", p), ("wish", v)] = ([("thing", i), ("place", p), ("wish", v), ("held", d)] : List (Str × V)) := by
  have n1 : ¬ (("thing" : Str) = "held") := by decide +kernel
  have n2 : ¬ (("place" : Str) = "held") := by decide +kernel
  have n3 : ¬ (("wish" : Str) = "held") := by decide +kernel
  simp [putF, n1, n2, n3]
theorem put5 (i p v d t : V) : putF "tally" t [("thing", i), ("place", p), ("wish", v), ("held", d)] = ([("thing", i), ("place", p), ("wish", v), ("held", d), ("tally", t)] : List (Str × V)) := by
  have n1 : ¬ (("thing" : Str) = "tally") := by decide +kernel
  have n2 : ¬ (("place" : Str) = "tally") := by decide +kernel
  have n3 : ¬ (("wish" : Str) = "tally") := by decide +kernel
  have n4 : ¬ (("held" : Str) = "tally") := by decide +kernel
  simp [putF, n1, n2, n3, n4]
section
variable {P : Program} {w : World} {K : PySem.W.Frag} {mg : Str → Option Value} {base : Heap}
abbrev a_Hand___init__ : Stmt := inClass (topS 19) 0
abbrev n_Hand___init__ : List Str := ["self", "thing", "place", "rules", "number", "rule", "count"]
theorem sc_Hand___init__ : FnScope n_Hand___init__ ["self", "thing", "place", "rules"] (defScope a_Hand___init__) := ⟨rfl, rfl, rfl, by decide +kernel, rfl, by decide +kernel, by decide +kernel⟩
set_option maxHeartbeats 8000000 in
theorem ok_Hand___init__ {f  : Addr} {fd  : FuncData} {k : Nat} {C : Addr} (F : Fun K "__init__" "Hand.__init__" a_Hand___init__ f fd)  (X : HandTxt K C)  : FnOk P w K mg base CX0 (k + 1) f fd ["self", "thing", "place", "rules"] (spHInit C) := by
  refine F.ok sc_Hand___init__ (fun vs H Q E h => ?_) (fun cdv A outer s H vs Q E hr h => ?_)
  · obtain ⟨x, dx, R, i, p, rows, hs, rfl, _⟩ := h
    rfl
  · obtain ⟨x, dx, R, i, p, rows, hs, rfl, ex, hR, nd, l40, q⟩ := h
    refine ⟨_, (pss_cons (ps_fld (pv 0) (pv 1) rfl)
      (pss_cons (ps_fld (pv 0) (pv 2) rfl)
      (pss_cons (ps_fld (pv 0) pe_non rfl)
      (pss_cons (ps_fld (pv 0) (
        pe_dc (own := [("number", 4), ("rule", 5), ("count", 6)]) (g := (gTup K 3 (gCons (gName 4) (gCons (gName 5) (gCons (gName 6) gNil))))) (tt := tYes) (tk := (tVar 4)) (tv := (tVar 5)) rfl sc_Hand___init__.nd (pi_tup (pv 3)) (blkOk_by (N := n_Hand___init__) (sc := defScope a_Hand___init__) (by decide +kernel))
          (fun _ _ _ _ _ => (pg_tup rfl (pgs_cons (pg_name (i := 4) sc_Hand___init__.nd rfl (.inl rfl) (hf := .inr rfl)) (pgs_cons (pg_name (i := 5) sc_Hand___init__.nd rfl (.inl rfl) (hf := .inr rfl)) (pgs_cons (pg_name (i := 6) sc_Hand___init__.nd rfl (.inl rfl) (hf := .inr rfl)) pgs_nil))))) (fun _ _ _ _ _ => pts_nil) (fun _ _ _ _ _ => (pv 4)) (fun _ _ _ _ _ => (pv 5))) rfl)
      (pss_one (ps_fld (pv 0) (
        pe_dc (own := [("number", 4), ("rule", 5), ("count", 6)]) (g := (gTup K 3 (gCons (gName 4) (gCons (gName 5) (gCons (gName 6) gNil))))) (tt := tYes) (tk := (tVar 4)) (tv := (tVar 6)) rfl sc_Hand___init__.nd (pi_tup (pv 3)) (blkOk_by (N := n_Hand___init__) (sc := defScope a_Hand___init__) (by decide +kernel))
          (fun _ _ _ _ _ => (pg_tup rfl (pgs_cons (pg_name (i := 4) sc_Hand___init__.nd rfl (.inl rfl) (hf := .inr rfl)) (pgs_cons (pg_name (i := 5) sc_Hand___init__.nd rfl (.inl rfl) (hf := .inr rfl)) (pgs_cons (pg_name (i := 6) sc_Hand___init__.nd rfl (.inl rfl) (hf := .inr rfl)) pgs_nil))))) (fun _ _ _ _ _ => pts_nil) (fun _ _ _ _ _ => (pv 4)) (fun _ _ _ _ _ => (pv 6))) rfl)))))), ?_⟩
    obtain ⟨as, eR, l1, l2, f⟩ := hR
    refine ⟨.int (i : Int), rfl, .ref x, rfl, x, C, dx, [], rfl, ex, X.cl, X.n1, (show 0 < 1000 by decide), ?_⟩
    refine ⟨.int p, rfl, .ref x, rfl, x, C, dx, _, rfl, upd_same, X.cl, X.n2, (show 1 < 1000 by decide), ?_⟩
    refine ⟨.ref x, rfl, x, C, dx, _, rfl, upd_same, X.cl, X.n3, (show 2 < 1000 by decide), ?_⟩
    rw [put3]
    have e3 : (upd (upd (upd H x (.ins C dx (putF "thing" (.int (i : Int)) []))) x (.ins C dx (putF "place" (.int p) (putF "thing" (.int (i : Int)) [])))) x (.ins C dx [("thing", .int (i : Int)), ("place", .int p), ("wish", .non)])) x = some (.ins C dx [("thing", .int (i : Int)), ("place", .int p), ("wish", .non)]) := upd_same
    have b3 : ∀ b o, b ≠ x → H b = some o → (upd (upd (upd H x (.ins C dx (putF "thing" (.int (i : Int)) []))) x (.ins C dx (putF "place" (.int p) (putF "thing" (.int (i : Int)) [])))) x (.ins C dx [("thing", .int (i : Int)), ("place", .int p), ("wish", .non)])) b = some o := fun b o n eb => by
      rw [upd_ne n, upd_ne n, upd_ne n]
      exact eb
    have f3 : ∀ b, b ≠ x → (upd (upd (upd H x (.ins C dx (putF "thing" (.int (i : Int)) []))) x (.ins C dx (putF "place" (.int p) (putF "thing" (.int (i : Int)) [])))) x (.ins C dx [("thing", .int (i : Int)), ("place", .int p), ("wish", .non)])) b = H b := fun b n => by
      rw [upd_ne n, upd_ne n, upd_ne n]
    generalize upd (upd (upd H x (.ins C dx (putF "thing" (.int (i : Int)) []))) x (.ins C dx (putF "place" (.int p) (putF "thing" (.int (i : Int)) [])))) x (.ins C dx [("thing", .int (i : Int)), ("place", .int p), ("wish", .non)]) = H3 at e3 b3 f3 ⊢
    have nx : ∀ b xs, H b = some (.tup xs) → b ≠ x := fun b xs eb z => by
      rw [z, ex] at eb
      cases eb
    have tk3 : TupK H H3 := fun b xs eb => b3 b _ (nx b xs eb) eb
    have rw3 : ∀ (j : Nat) (a : Addr) (r : Int × Rl × Int) (z : Int × Addr), as[j]? = some a → rows[j]? = some r → hs[j]? = some z → z.1 = r.1 ∧ H3 a = some (.tup [.int r.1, .ref z.2, .int r.2.2]) ∧ RuleAt H3 z.2 r.2.1 := fun j a r z h1 h2 h3 => ⟨(f j a r z h1 h2 h3).1, tk3 _ _ (f j a r z h1 h2 h3).2.1, (f j a r z h1 h2 h3).2.2.tk tk3⟩
    have eR3 := tk3 _ _ eR
    have kh : hs.map (·.1) = rows.map (·.1) := (held_of (H := H3) l2 fun j r z h1 h2 => by
      have hj : j < as.length := by
        have := (List.getElem?_eq_some_iff.mp h1).1
        omega
      exact ⟨(rw3 j _ r z (List.getElem?_eq_getElem hj) h1 h2).1, (rw3 j _ r z (List.getElem?_eq_getElem hj) h1 h2).2.2⟩).keys
    have pick : ∀ (H4 : Hp) (j : Nat) (u : V), Same H3 H4 → (as.map V.ref)[j]? = some u → ∃ a r z, u = .ref a ∧ rows[j]? = some r ∧ hs[j]? = some z ∧ z.1 = r.1 ∧ H4 a = some (.tup [.int r.1, .ref z.2, .int r.2.2]) ∧ j < 40 := fun H4 j u s hu => by
      obtain ⟨a, ea, rfl⟩ := mapGet hu
      have hj := (List.getElem?_eq_some_iff.mp ea).1
      have e1 := List.getElem?_eq_getElem (show j < rows.length by omega)
      have e2 := List.getElem?_eq_getElem (show j < hs.length by omega)
      have := rw3 j a _ _ ea e1 e2
      exact ⟨a, _, _, rfl, e1, e2, this.1, s _ _ this.2.1, by omega⟩
    refine ⟨.ref R, rfl, R, rfl, ⟨_, .inl (.inl eR3)⟩, fun D nD => dc_tup (xs := as.map V.ref) (fun j H' => Same H3 H' ∧ H' D = some (.dK (kvH (hs.take j)))) ⟨same_new nD, upd_same⟩ (fun j H' _ z => .inl (.inl (z.1 _ _ eR3))) (fun j u H4 hu z => ?_) (fun H4 z => ?_)⟩
    · obtain ⟨s4, eD⟩ := z
      obtain ⟨a, r, zz, rfl, er, ez, e1, ea, lj⟩ := pick H4 j u s4 hu
      refine ⟨a, _, rfl, .inl (.inl ea), rfl, _, _, rfl, _, _, rfl, _, _, rfl, rfl, wipe_three, _, rfl, _, rfl, kvH (hs.take j), .inl r.1, rfl, eD, ?_, same_over s4 nD, ?_⟩
      · unfold kvH
        rw [List.length_map, List.length_take]
        exact small1000 (Nat.le_trans (Nat.min_le_left _ _) (by omega))
      · rw [upd_same, putK_new (fun kv hkv => ?_)]
        · unfold kvH
          rw [List.take_add_one, ez, List.map_append, ← e1]
          rfl
        · obtain ⟨w1, hw1, rfl⟩ := List.mem_map.mp hkv
          intro q0
          have q1 : w1.1 = r.1 := Sum.inl.inj q0
          refine nd_take (kh ▸ nd) (n := r.1) (i := j) (by rw [List.getElem?_map, ez, ← e1]; rfl) ?_
          rw [← q1, ← List.map_take]
          exact List.mem_map_of_mem hw1
    obtain ⟨s4, eD⟩ := z
    rw [List.take_of_length_le (by rw [List.length_map]; omega)] at eD
    have nDx : D ≠ x := fun z => by rw [z, e3] at nD; cases nD
    refine ⟨.ref x, rfl, x, C, dx, _, rfl, s4 _ _ e3, X.cl, X.n4, (show 3 < 1000 by decide), ?_⟩
    rw [put4]
    have e5 : (upd H4 x (.ins C dx [("thing", .int (i : Int)), ("place", .int p), ("wish", .non), ("held", .ref D)])) x = some (.ins C dx [("thing", .int (i : Int)), ("place", .int p), ("wish", .non), ("held", .ref D)]) := upd_same
    have eD5 : (upd H4 x (.ins C dx [("thing", .int (i : Int)), ("place", .int p), ("wish", .non), ("held", .ref D)])) D = some (.dK (kvH hs)) := (upd_ne nDx).trans eD
    have b5 : ∀ b o, b ≠ x → H4 b = some o → (upd H4 x (.ins C dx [("thing", .int (i : Int)), ("place", .int p), ("wish", .non), ("held", .ref D)])) b = some o := fun b o n eb => (upd_ne n).trans eb
    have n5 : ∀ b, b ≠ x → (upd H4 x (.ins C dx [("thing", .int (i : Int)), ("place", .int p), ("wish", .non), ("held", .ref D)])) b = none → H4 b = none := fun b n eb => by rwa [upd_ne n] at eb
    generalize upd H4 x (.ins C dx [("thing", .int (i : Int)), ("place", .int p), ("wish", .non), ("held", .ref D)]) = H5 at e5 eD5 b5 n5 ⊢
    have eR5 : H5 R = some (.tup (as.map V.ref)) := b5 _ _ (nx _ _ eR) (s4 _ _ eR3)
    have ne4 : ∀ b xs, H4 b = some (.tup xs) → b ≠ x := fun b xs eb z => by
      rw [z, s4 _ _ e3] at eb
      cases eb
    have pick5 : ∀ (H6 : Hp) (j : Nat) (u : V), Same H5 H6 → (as.map V.ref)[j]? = some u → ∃ a r z, u = .ref a ∧ rows[j]? = some r ∧ hs[j]? = some z ∧ z.1 = r.1 ∧ H6 a = some (.tup [.int r.1, .ref z.2, .int r.2.2]) ∧ j < 40 := fun H6 j u s hu => by
      obtain ⟨a, r, z, h1, h2, h3, h4, h5, h6⟩ := pick H4 j u s4 hu
      exact ⟨a, r, z, h1, h2, h3, h4, s _ _ (b5 _ _ (ne4 _ _ h5) h5), h6⟩
    refine ⟨.ref R, rfl, R, rfl, ⟨_, .inl (.inl eR5)⟩, fun T nT => dc_tup (xs := as.map V.ref) (fun j H' => Same H5 H' ∧ H' T = some (.dK (kvT (rows.take j)))) ⟨same_new nT, upd_same⟩ (fun j H' _ z => .inl (.inl (z.1 _ _ eR5))) (fun j u H6 hu z => ?_) (fun H6 z => ?_)⟩
    · obtain ⟨s6, eT⟩ := z
      obtain ⟨a, r, zz, rfl, er, ez, e1, ea, lj⟩ := pick5 H6 j u s6 hu
      refine ⟨a, _, rfl, .inl (.inl ea), rfl, _, _, rfl, _, _, rfl, _, _, rfl, rfl, wipe_three, _, rfl, _, rfl, kvT (rows.take j), .inl r.1, rfl, eT, ?_, same_over s6 nT, ?_⟩
      · unfold kvT
        rw [List.length_map, List.length_take]
        exact small1000 (Nat.le_trans (Nat.min_le_left _ _) (by omega))
      · rw [upd_same, putK_new (fun kv hkv => ?_)]
        · unfold kvT
          rw [List.take_add_one, er, List.map_append]
          rfl
        · obtain ⟨w1, hw1, rfl⟩ := List.mem_map.mp hkv
          intro q0
          have q1 : w1.1 = r.1 := Sum.inl.inj q0
          refine nd_take nd (n := r.1) (i := j) (by rw [List.getElem?_map, er]; rfl) ?_
          rw [← q1, ← List.map_take]
          exact List.mem_map_of_mem hw1
    obtain ⟨s6, eT⟩ := z
    rw [List.take_of_length_le (by rw [List.length_map]; omega)] at eT
    have nTx : T ≠ x := fun z => by rw [z, e5] at nT; cases nT
    have nDT : D ≠ T := fun z => by rw [← z, eD5] at nT; cases nT
    refine ⟨.ref x, rfl, x, C, dx, _, rfl, s6 _ _ e5, X.cl, X.n5, (show 4 < 1000 by decide), ?_⟩
    rw [put5]
    have b07 : ∀ b o, b ≠ x → H b = some o → (upd H6 x (.ins C dx [("thing", .int (i : Int)), ("place", .int p), ("wish", .non), ("held", .ref D), ("tally", .ref T)])) b = some o := fun b o n eb => (upd_ne n).trans (s6 _ _ (b5 _ _ n (s4 _ _ (b3 _ _ n eb))))
    have tk7 : TupK H (upd H6 x (.ins C dx [("thing", .int (i : Int)), ("place", .int p), ("wish", .non), ("held", .ref D), ("tally", .ref T)])) := fun b xs eb => b07 b _ (nx b xs eb) eb
    have nTH : H T = none := by
      have z1 := n5 T nTx nT
      cases hq : H3 T with
      | none => rw [← f3 T nTx]; exact hq
      | some o =>
        rw [s4 _ _ hq] at z1
        cases z1
    refine q _ D T b07 ⟨dx, .non, hs, upd_same, rfl, .inl ((upd_ne nDx).trans (s6 _ _ eD5)), (upd_ne nTx).trans eT, held_of l2 fun j r z h1 h2 => ?_⟩ nDT (by rw [← f3 D nDx]; exact nD) nTH ⟨_, (upd_ne nDx).trans (s6 _ _ eD5)⟩
    have hj : j < as.length := by
      have := (List.getElem?_eq_some_iff.mp h1).1
      show j < as.length
      have h1' : j < rows.length := this
      omega
    have := f j _ r z (List.getElem?_eq_getElem hj) h1 h2
    exact ⟨this.1, this.2.2.tk tk7⟩
end
end K65

set_option Elab.async false
set_option linter.all false
set_option maxRecDepth 100000
namespace K65
open PySem PySem.Spec PyProof.Rows L2 NB

/-! ### what a hand tells is one -/
theorem sorted_uniq : ∀ {l m : List Int}, l.Perm m → l.Pairwise (· ≤ ·) → m.Pairwise (· ≤ ·) → l = m
  | [], m, p, _, _ => (List.nil_perm.mp p).symm
  | a :: l, [], p, _, _ => by
    have := p.length_eq
    cases this
  | a :: l, b :: m, p, hl, hm => by
    have h1 := (List.pairwise_cons.mp hl).1
    have h2 := (List.pairwise_cons.mp hm).1
    have e : a = b := by
      have ha : a ∈ b :: m := (p.mem_iff).mp List.mem_cons_self
      have hb : b ∈ a :: l := (p.mem_iff).mpr List.mem_cons_self
      rcases List.mem_cons.mp ha with h | h
      · exact h
      · rcases List.mem_cons.mp hb with k | k
        · exact k.symm
        · have q1 : b ≤ a := h2 a h
          have q2 : a ≤ b := h1 b k
          omega
    subst e
    rw [sorted_uniq (List.perm_cons a |>.mp p) (List.pairwise_cons.mp hl).2 (List.pairwise_cons.mp hm).2]
theorem strict_uniq : ∀ {l m : List Int}, (∀ k, k ∈ l ↔ k ∈ m) → l.Pairwise (· < ·) → m.Pairwise (· < ·) → l = m
  | [], [], _, _, _ => rfl
  | [], b :: m, h, _, _ => absurd ((h b).mpr List.mem_cons_self) List.not_mem_nil
  | a :: l, [], h, _, _ => absurd ((h a).mp List.mem_cons_self) List.not_mem_nil
  | a :: l, b :: m, h, hl, hm => by
    have h1 := List.pairwise_cons.mp hl
    have h2 := List.pairwise_cons.mp hm
    have e : a = b := by
      rcases List.mem_cons.mp ((h a).mp List.mem_cons_self) with k | k
      · exact k
      · rcases List.mem_cons.mp ((h b).mpr List.mem_cons_self) with k' | k'
        · exact k'.symm
        · have q1 := h2.1 a k
          have q2 := h1.1 b k'
          omega
    subst e
    rw [strict_uniq (fun k => ?_) h1.2 h2.2]
    constructor
    · intro hk
      rcases List.mem_cons.mp ((h k).mp (List.mem_cons_of_mem _ hk)) with z | z
      · have := h1.1 k hk
        omega
      · exact z
    · intro hk
      rcases List.mem_cons.mp ((h k).mpr (List.mem_cons_of_mem _ hk)) with z | z
      · have := h2.1 k hk
        omega
      · exact z
theorem ShL.uniq {h : Hd} {ys ys' : List Int} (a : ShL h ys) (b : ShL h ys') : ys = ys' := by
  obtain ⟨zs, p, s, rfl⟩ := a
  obtain ⟨zs', p', s', rfl⟩ := b
  rw [sorted_uniq (p.trans p'.symm) s s']
theorem LkL.uniq {h : Hd} {ys ys' : List Int} (a : LkL h ys) (b : LkL h ys') : ys = ys' := by
  rcases a with ⟨g, rfl⟩ | ⟨g, ss, s, rfl⟩
  · rcases b with ⟨_, rfl⟩ | ⟨g', _⟩
    · rfl
    · exact absurd g g'
  · rcases b with ⟨g', _⟩ | ⟨_, ss', s', rfl⟩
    · exact absurd g' g
    · rw [s.uniq s']
theorem BtL.uniq {h : Hd} {bs bs' : List Bt} (a : BtL h bs) (b : BtL h bs') : bs = bs' := by
  obtain ⟨ys, l, a⟩ := a
  obtain ⟨ys', l', b⟩ := b
  have e := l.uniq l'
  subst e
  rcases a with ⟨_, rfl⟩ | ⟨n, ss, ts, s, st, sm, rfl⟩
  · rcases b with ⟨_, rfl⟩ | ⟨n', _⟩
    · rfl
    · exact absurd ‹h.wish = none› n'
  · rcases b with ⟨n', _⟩ | ⟨_, ss', ts', s', st', sm', rfl⟩
    · exact absurd n' n
    · have e := s.uniq s'
      subst e
      rw [strict_uniq (fun k => (sm k).trans (sm' k).symm) st st']

/-! ### a letter heard twice -/
theorem putC_twice (rows : List (Int × Rl × Int)) (n c : Int) : putC (putC rows n c) n c = putC rows n c := by
  unfold putC
  rw [List.map_map]
  refine List.map_congr_left fun r _ => ?_
  show (if (if r.1 = n then (r.1, r.2.1, c) else r).1 = n then _ else _) = _
  by_cases h : r.1 = n
  · rw [if_pos h]
    simp [h]
  · rw [if_neg h]
    simp [h]
theorem setc_twice (h : Hd) (n c : Int) : (h.setc n c).setc n c = h.setc n c := by
  show ({ h with rows := putC (putC h.rows n c) n c } : Hd) = { h with rows := putC h.rows n c }
  rw [putC_twice]
theorem hw_not {h : Hd} {o : Option Wi} (n : ¬ wishN o > wishN h.wish) : h.hw o = h := by
  unfold Hd.hw
  rw [if_neg n]
theorem hw_ge (h : Hd) (o : Option Wi) : ¬ wishN o > wishN (h.hw o).wish := by
  unfold Hd.hw
  split
  · show ¬ wishN o > wishN o
    omega
  · assumption
theorem mx_ge (i j : Int) : i ≤ mx i j ∧ j ≤ mx i j := by
  unfold mx
  split <;> omega
theorem mx_same {i j : Int} (h : j ≤ i) : mx i j = i := by
  unfold mx
  rw [if_neg (by omega)]
theorem setc_wish (h : Hd) (n c : Int) : (h.setc n c).wish = h.wish := rfl
theorem look_setc {h : Hd} {n c : Int} {z : Rl × Int} (e : look h.rows n = some z) : look (h.setc n c).rows n = some (z.1, c) := by
  show look (putC h.rows n c) n = _
  rw [look_put, e]
  simp
theorem hear_at {h : Hd} {a : Str} {n k : Int} {o : Option Wi} {z : Rl × Int} (e : look h.rows n = some z) (s : shrd z.1 = true) : h.hear (a, [n, k], o) = (h.hw o).hear2 a o n k z := by
  rw [hear_two, e]
  exact if_pos s
/-- a letter heard once more at once is answered alike and changes nothing -/
theorem hear_again {h : Hd} {a : Str} {n k : Int} {o : Option Wi} {z : Rl × Int} (e : look h.rows n = some z) (s : shrd z.1 = true) :
    (h.hear (a, [n, k], o)).1.hear (a, [n, k], o) = h.hear (a, [n, k], o) := by
  rw [hear_at e s]
  have hg := hw_ge h o
  have er : look (h.hw o).rows n = some z := by rw [hw_rows]; exact e
  generalize h.hw o = g at hg er
  have em := look_setc (c := mx z.2 k) er
  have km := (mx_ge z.2 k).2
  unfold Hd.hear2
  by_cases c : (decide (a = "leave") || decide (wishN o < wishN g.wish)) = true
  · rw [if_pos c, hear_at em s, hw_not (h := g.setc n (mx z.2 k)) hg]
    unfold Hd.hear2
    rw [if_pos (show (decide (a = "leave") || decide (wishN o < wishN (g.setc n (mx z.2 k)).wish)) = true from c), mx_same km, setc_twice]
  · rw [if_neg c, ans_of em]
    generalize hG : g.setc n (mx z.2 k) = G at em ⊢
    have wG : G.wish = g.wish := by rw [← hG]; rfl
    have eu := look_hup (k := k) em
    have wu : (G.hup n (z.1, mx z.2 k) k).wish = g.wish := by rw [hup_wish, wG]
    have ku : k ≤ G.cup (z.1, mx z.2 k) k := by
      unfold Hd.cup
      split
      · show k ≤ mx z.2 k + 1
        omega
      · exact km
    rw [hear_at eu s, hw_not (by rw [wu]; exact hg)]
    unfold Hd.hear2
    rw [wu, if_neg c, mx_same ku]
    have same : (G.hup n (z.1, mx z.2 k) k).setc n (G.cup (z.1, mx z.2 k) k) = G.hup n (z.1, mx z.2 k) k := by
      unfold Hd.hup Hd.cup
      by_cases q : G.cnd (z.1, mx z.2 k) k = true
      · rw [if_pos q, if_pos q, setc_twice]
      · rw [if_neg q, if_neg q, ← hG, setc_twice]
    rw [same, ans_of eu]
    have nc : (G.hup n (z.1, mx z.2 k) k).cnd (z.1, G.cup (z.1, mx z.2 k) k) k = false := by
      by_cases q : G.cnd (z.1, mx z.2 k) k = true
      · have q0 := q
        unfold Hd.cnd at q0
        have q1 : mx z.2 k = k := of_decide_eq_true (Bool.and_eq_true_iff.mp q0).1
        have e2 : G.cup (z.1, mx z.2 k) k = mx z.2 k + 1 := by unfold Hd.cup; rw [if_pos q]
        rw [e2]
        unfold Hd.cnd
        refine Bool.and_eq_false_iff.mpr (.inl (decide_eq_false ?_))
        show ¬ mx z.2 k + 1 = k
        omega
      · have q' : G.cnd (z.1, mx z.2 k) k = false := Bool.eq_false_iff.mpr q
        have e1 : G.hup n (z.1, mx z.2 k) k = G := by unfold Hd.hup; rw [if_neg q]
        have e2 : G.cup (z.1, mx z.2 k) k = mx z.2 k := by unfold Hd.cup; rw [if_neg q]
        rw [e1, e2]
        exact q'
    have th := hup_thing G n (z.1, mx z.2 k) k
    have wh := hup_wish G n (z.1, mx z.2 k) k
    generalize G.hup n (z.1, mx z.2 k) k = U at nc th wh
    generalize G.cup (z.1, mx z.2 k) k = c' at nc
    have e3 : U.hup n (z.1, c') k = U := by unfold Hd.hup; rw [if_neg (by rw [nc]; decide)]
    have e4 : U.cup (z.1, c') k = c' := by unfold Hd.cup; rw [if_neg (by rw [nc]; decide)]
    rw [e3, e4, th, wh]
end K65

set_option Elab.async false
set_option linter.all false
set_option maxRecDepth 100000
namespace K65
open PySem PySem.Spec PyProof.Rows L2 NB

/-! ### letters twice, and in any order -/
/-- a hand that has told whole rules: each shared -/
structure Ok5 (h : Hd) : Prop where
  nd : (h.rows.map (·.1)).Nodup
  sh : ∀ r ∈ h.rows, shrd r.2.1 = true
  l8 : h.rows.length ≤ 8
theorem look_in {rows : List (Int × Rl × Int)} (nd : (rows.map (·.1)).Nodup) {r : Int × Rl × Int} (hr : r ∈ rows) : look rows r.1 = some r.2 := by
  induction rows with
  | nil => exact absurd hr List.not_mem_nil
  | cons r0 rows ih =>
    rw [look_cons]
    rw [List.map_cons, List.nodup_cons] at nd
    rcases List.mem_cons.mp hr with rfl | hr
    · rw [if_pos rfl]
    · rw [if_neg (fun z : r0.1 = r.1 => nd.1 (by rw [z]; exact List.mem_map.mpr ⟨r, hr, rfl⟩))]
      exact ih nd.2 hr
theorem look_mem5 {rows : List (Int × Rl × Int)} {n : Int} {z : Rl × Int} (e : look rows n = some z) : (n, z) ∈ rows := by
  unfold look at e
  cases hf : rows.find? fun r => decide (r.1 = n) with
  | none =>
    rw [hf] at e
    cases e
  | some y =>
    rw [hf] at e
    have h2 := List.find?_some hf
    have h3 : y.1 = n := of_decide_eq_true h2
    have h4 : y.2 = z := Option.some.inj e
    have h5 := List.mem_of_find?_eq_some hf
    rw [← h3, ← h4]
    exact h5
/-- a letter heard once more at once -/
theorem hear_twice {h : Hd} {l : Lt} (lp : LetP l) : (h.hear l).1.hear l = h.hear l := by
  obtain ⟨a, ns, o⟩ := l
  have base : (h.hw o).hw o = h.hw o := hw_not (hw_ge h o)
  rcases lp.1 with ⟨_, l2⟩ | ⟨_, l0, _⟩
  · match ns, l2 with
    | [n, k], _ =>
      cases e : look h.rows n with
      | none =>
        have e1 : h.hear (a, [n, k], o) = (h.hw o, []) := by rw [hear_two, e]
        rw [e1]
        show (h.hw o).hear (a, [n, k], o) = _
        rw [hear_two, hw_rows, e, base]
      | some z =>
        by_cases s : shrd z.1 = true
        · exact hear_again e s
        · have e1 : h.hear (a, [n, k], o) = (h.hw o, []) := by
            rw [hear_two, e]
            exact if_neg s
          rw [e1]
          show (h.hw o).hear (a, [n, k], o) = _
          rw [hear_two, hw_rows, e, base]
          exact if_neg s
  · have l0' : ns = [] := l0
    subst l0'
    rw [hear_none rfl, hear_none rfl]
    show ((h.hw o).hw o, ([] : List Bt)) = _
    rw [base]
def lvc (l : Lt) (n c : Int) : Int := match l.2.1 with
  | [m, k] => if m = n then mx c k else c
  | _ => c
def lvR (l : Lt) (rows : List (Int × Rl × Int)) : List (Int × Rl × Int) := rows.map fun r => (r.1, r.2.1, lvc l r.1 r.2.2)
theorem lvR_keys (l : Lt) (rows : List (Int × Rl × Int)) : (lvR l rows).map (·.1) = rows.map (·.1) := by
  unfold lvR
  rw [List.map_map]
  rfl
/-- a leave or a word heard: no answer -/
theorem hear_lw {h : Hd} {l : Lt} (k : Ok5 h) (lp : LetP l) (na : l.1 ≠ "ask") : h.hear l = ({ h with wish := (h.hw l.2.2).wish, rows := lvR l h.rows }, ([] : List Bt)) := by
  obtain ⟨a, ns, o⟩ := l
  have eta : ∀ rows, ({ (h.hw o) with rows := rows } : Hd) = { h with wish := (h.hw o).wish, rows := rows } := fun rows => by
    unfold Hd.hw
    split <;> rfl
  have idr : ∀ f : Int × Rl × Int → Int × Rl × Int, (∀ r ∈ h.rows, f r = r) → h.rows.map f = h.rows := fun f hf => by
    conv => rhs; rw [← List.map_id h.rows]
    exact List.map_congr_left fun r hr => hf r hr
  have eself : h.hw o = { h with wish := (h.hw o).wish, rows := h.rows } := by
    unfold Hd.hw
    split <;> rfl
  rcases lp.1 with ⟨ha, l2⟩ | ⟨_, l0, _⟩
  · have hl : a = "leave" := ha.resolve_left na
    match ns, l2 with
    | [n, c], _ =>
      cases e : look h.rows n with
      | none =>
        have er : lvR (a, [n, c], o) h.rows = h.rows := idr _ fun r hr => by
          show (r.1, r.2.1, if n = r.1 then mx r.2.2 c else r.2.2) = r
          rw [if_neg]
          intro z
          rw [z, look_in k.nd hr] at e
          cases e
        rw [hear_two, e, er]
        exact congrArg (fun g => (g, ([] : List Bt))) eself
      | some z =>
        have s := k.sh _ (look_mem5 e)
        rw [hear_at e s]
        unfold Hd.hear2
        rw [if_pos (by rw [hl]; rfl)]
        refine congrArg (fun g => (g, ([] : List Bt))) ?_
        show ({ (h.hw o) with rows := putC (h.hw o).rows n (mx z.2 c) } : Hd) = _
        rw [hw_rows, eta]
        congr 1
        unfold putC lvR
        refine List.map_congr_left fun r hr => ?_
        show (if r.1 = n then (r.1, r.2.1, mx z.2 c) else r) = (r.1, r.2.1, if n = r.1 then mx r.2.2 c else r.2.2)
        by_cases q : r.1 = n
        · rw [if_pos q, if_pos q.symm]
          have : look h.rows r.1 = some r.2 := look_in k.nd hr
          rw [q, e] at this
          rw [Option.some.inj this]
        · rw [if_neg q, if_neg (Ne.symm q)]
  · have l0' : ns = [] := l0
    subst l0'
    have er : lvR (a, [], o) h.rows = h.rows := idr _ fun r hr => rfl
    rw [hear_none rfl, er]
    exact congrArg (fun g => (g, ([] : List Bt))) eself
def fld (h : Hd) (ls : List Lt) : Hd := ls.foldl (fun h l => (h.hear l).1) h
def cf (ls : List Lt) (n c : Int) : Int := ls.foldl (fun c l => lvc l n c) c
def wf (ls : List Lt) (w : Option Wi) : Option Wi := ls.foldl (fun w l => if wishN l.2.2 > wishN w then l.2.2 else w) w
theorem Ok5.lv {h : Hd} (k : Ok5 h) (l : Lt) (w : Option Wi) : Ok5 { h with wish := w, rows := lvR l h.rows } := ⟨by show ((lvR l h.rows).map (·.1)).Nodup; rw [lvR_keys]; exact k.nd, fun r hr => by
  obtain ⟨r0, h0, rfl⟩ := List.mem_map.mp (show r ∈ h.rows.map _ from hr)
  exact k.sh r0 h0, by show (List.map _ h.rows).length ≤ 8; rw [List.length_map]; exact k.l8⟩
theorem fld_eq : ∀ {ls : List Lt} {h : Hd}, Ok5 h → (∀ l ∈ ls, LetP l ∧ l.1 ≠ "ask") → fld h ls = { h with wish := wf ls h.wish, rows := h.rows.map fun r => (r.1, r.2.1, cf ls r.1 r.2.2) }
  | [], h, _, _ => by
    show h = { h with wish := h.wish, rows := h.rows.map fun r => (r.1, r.2.1, r.2.2) }
    have : (h.rows.map fun r : Int × Rl × Int => (r.1, r.2.1, r.2.2)) = h.rows := List.map_id h.rows
    rw [this]
  | l :: ls, h, k, hl => by
    have e := hear_lw k (hl l List.mem_cons_self).1 (hl l List.mem_cons_self).2
    show fld (h.hear l).1 ls = _
    rw [e]
    have ih := fld_eq (ls := ls) (h := { h with wish := (h.hw l.2.2).wish, rows := lvR l h.rows }) (k.lv l _) (fun y hy => hl y (List.mem_cons_of_mem _ hy))
    rw [ih]
    have e1 : (h.hw l.2.2).wish = if wishN l.2.2 > wishN h.wish then l.2.2 else h.wish := by
      unfold Hd.hw
      split <;> rfl
    show ({ h with wish := wf ls (h.hw l.2.2).wish, rows := (lvR l h.rows).map fun r => (r.1, r.2.1, cf ls r.1 r.2.2) } : Hd) = _
    rw [e1]
    unfold lvR
    rw [List.map_map]
    rfl
theorem cf_ge : ∀ (ls : List Lt) (n c : Int), c ≤ cf ls n c ∧ ∀ l ∈ ls, ∀ k, l.2.1 = [n, k] → k ≤ cf ls n c
  | [], n, c => ⟨Int.le_refl _, fun _ h => absurd h List.not_mem_nil⟩
  | l :: ls, n, c => by
    obtain ⟨h1, h2⟩ := cf_ge ls n (lvc l n c)
    have e : cf (l :: ls) n c = cf ls n (lvc l n c) := rfl
    have g : c ≤ lvc l n c ∧ ∀ k, l.2.1 = [n, k] → k ≤ lvc l n c := by
      unfold lvc
      split
      · next m k em =>
        have := mx_ge c k
        split
        · refine ⟨this.1, fun k' ek => ?_⟩
          rw [em] at ek
          cases ek
          exact this.2
        · next q =>
          refine ⟨Int.le_refl _, fun k' ek => ?_⟩
          rw [em] at ek
          cases ek
          exact absurd rfl q
      · next q => exact ⟨Int.le_refl _, fun k ek => absurd ek (q n k)⟩
    rw [e]
    refine ⟨Int.le_trans g.1 h1, fun y hy k ek => ?_⟩
    rcases List.mem_cons.mp hy with rfl | hy
    · exact Int.le_trans (g.2 k ek) h1
    · exact h2 y hy k ek
theorem cf_at : ∀ (ls : List Lt) (n c : Int), cf ls n c = c ∨ ∃ l ∈ ls, l.2.1 = [n, cf ls n c]
  | [], n, c => .inl rfl
  | l :: ls, n, c => by
    have e : cf (l :: ls) n c = cf ls n (lvc l n c) := rfl
    rw [e]
    rcases cf_at ls n (lvc l n c) with h | ⟨y, hy, ey⟩
    · rw [h]
      unfold lvc
      split
      · next m k em =>
        split
        · next q =>
          unfold mx
          split
          · exact .inr ⟨l, List.mem_cons_self, by rw [em, q]⟩
          · exact .inl rfl
        · exact .inl rfl
      · exact .inl rfl
    · exact .inr ⟨y, List.mem_cons_of_mem _ hy, ey⟩
theorem cf_congr {ls ms : List Lt} (h : ∀ l, l ∈ ls ↔ l ∈ ms) (n c : Int) : cf ls n c = cf ms n c := by
  have go : ∀ {ls ms : List Lt}, (∀ l, l ∈ ls → l ∈ ms) → cf ls n c ≤ cf ms n c := fun {ls ms} h => by
    rcases cf_at ls n c with e | ⟨l, hl, e⟩
    · rw [e]
      exact (cf_ge ms n c).1
    · exact (cf_ge ms n c).2 l (h l hl) _ e
  exact Int.le_antisymm (go fun l hl => (h l).mp hl) (go fun l hl => (h l).mpr hl)
theorem wf_ge : ∀ (ls : List Lt) (w : Option Wi), wishN w ≤ wishN (wf ls w) ∧ ∀ l ∈ ls, wishN l.2.2 ≤ wishN (wf ls w)
  | [], w => ⟨Int.le_refl _, fun _ h => absurd h List.not_mem_nil⟩
  | l :: ls, w => by
    obtain ⟨h1, h2⟩ := wf_ge ls (if wishN l.2.2 > wishN w then l.2.2 else w)
    have e : wf (l :: ls) w = wf ls (if wishN l.2.2 > wishN w then l.2.2 else w) := rfl
    rw [e]
    have g : wishN w ≤ wishN (if wishN l.2.2 > wishN w then l.2.2 else w) ∧ wishN l.2.2 ≤ wishN (if wishN l.2.2 > wishN w then l.2.2 else w) := by
      split <;> constructor <;> omega
    refine ⟨Int.le_trans g.1 h1, fun y hy => ?_⟩
    rcases List.mem_cons.mp hy with rfl | hy
    · exact Int.le_trans g.2 h1
    · exact h2 y hy
theorem wf_at : ∀ (ls : List Lt) (w : Option Wi), wf ls w = w ∨ ∃ l ∈ ls, wf ls w = l.2.2
  | [], w => .inl rfl
  | l :: ls, w => by
    have e : wf (l :: ls) w = wf ls (if wishN l.2.2 > wishN w then l.2.2 else w) := rfl
    rw [e]
    rcases wf_at ls (if wishN l.2.2 > wishN w then l.2.2 else w) with h | ⟨y, hy, ey⟩
    · rw [h]
      split
      · exact .inr ⟨l, List.mem_cons_self, rfl⟩
      · exact .inl rfl
    · exact .inr ⟨y, List.mem_cons_of_mem _ hy, ey⟩
/-- wishes of one number are the same one -/
def Uq (P : Option Wi → Prop) : Prop := ∀ o o', P o → P o' → wishN o = wishN o' → o = o'
theorem wf_congr {P : Option Wi → Prop} (u : Uq P) {ls ms : List Lt} {w : Option Wi} (pw : P w) (pl : ∀ l ∈ ls, P l.2.2) (h : ∀ l, l ∈ ls ↔ l ∈ ms) : wf ls w = wf ms w := by
  have inP : ∀ {ls : List Lt}, (∀ l ∈ ls, P l.2.2) → P (wf ls w) := fun {ls} pl => by
    rcases wf_at ls w with e | ⟨l, hl, e⟩
    · rw [e]; exact pw
    · rw [e]; exact pl l hl
  have go : ∀ {ls ms : List Lt}, (∀ l, l ∈ ls → l ∈ ms) → wishN (wf ls w) ≤ wishN (wf ms w) := fun {ls ms} h => by
    rcases wf_at ls w with e | ⟨l, hl, e⟩
    · rw [e]
      exact (wf_ge ms w).1
    · rw [e]
      exact (wf_ge ms w).2 l (h l hl)
  exact u _ _ (inP pl) (inP fun l hl => pl l ((h l).mpr hl)) (Int.le_antisymm (go fun l hl => (h l).mp hl) (go fun l hl => (h l).mpr hl))
/-- in whatever order, and how often soever, the same comes of it -/
theorem fld_congr {P : Option Wi → Prop} (u : Uq P) {h : Hd} (k : Ok5 h) {ls ms : List Lt} (pw : P h.wish) (pl : ∀ l ∈ ls, P l.2.2 ∧ LetP l ∧ l.1 ≠ "ask") (e : ∀ l, l ∈ ls ↔ l ∈ ms) : fld h ls = fld h ms := by
  rw [fld_eq k (fun l hl => (pl l hl).2), fld_eq k (fun l hl => (pl l ((e l).mpr hl)).2), wf_congr u pw (fun l hl => (pl l hl).1) e]
  congr 1
  exact List.map_congr_left fun r _ => by rw [cf_congr e]
end K65

set_option Elab.async false
set_option linter.all false
set_option maxRecDepth 100000
namespace K65
open PySem PySem.Spec PyProof.Rows L2 NB

/-! ### an ask of each rule, under one wish, in any order -/
def askR (h : Hd) (o : Option Wi) (n k : Int) (z : Rl × Int) : List Bt := if h.cup z k = k then [] else [(((othT z.1 h.thing : Nat) : Int), (("leave" : Str), [n, h.cup z k], o))]
structure AskS (h : Hd) (o : Option Wi) (kof : Int → Int) (S : List Int) (g : Hd) : Prop where
  t : g.thing = h.thing
  p : g.place = h.place
  w : g.wish = if S = [] then h.wish else o
  r : g.rows = h.rows.map fun r => if r.1 ∈ S then (r.1, r.2.1, h.cup r.2 (kof r.1)) else r
theorem cup_tp {g h : Hd} (t : g.thing = h.thing) (p : g.place = h.place) (z : Rl × Int) (k : Int) : g.cup z k = h.cup z k ∧ g.cnd z k = h.cnd z k := by
  unfold Hd.cup Hd.cnd
  rw [t, p]
  exact ⟨rfl, rfl⟩
theorem ask_zero (h : Hd) (o : Option Wi) (kof : Int → Int) : AskS h o kof [] h := ⟨rfl, rfl, rfl, by
  have : (h.rows.map fun r : Int × Rl × Int => if r.1 ∈ ([] : List Int) then (r.1, r.2.1, h.cup r.2 (kof r.1)) else r) = h.rows.map id := List.map_congr_left fun r _ => if_neg List.not_mem_nil
  rw [this, List.map_id]⟩
theorem AskS.uniq {h : Hd} {o : Option Wi} {kof : Int → Int} {S S' : List Int} {g g' : Hd} (a : AskS h o kof S g) (b : AskS h o kof S' g') (e : ∀ n, n ∈ S ↔ n ∈ S') : g = g' := by
  have ew : (if S = [] then h.wish else o) = if S' = [] then h.wish else o := by
    by_cases z : S = []
    · have : S' = [] := by
        cases S' with
        | nil => rfl
        | cons n S' => rw [z] at e; exact absurd ((e n).mpr List.mem_cons_self) List.not_mem_nil
      rw [if_pos z, if_pos this]
    · have : S' ≠ [] := fun q => by
        cases S with
        | nil => exact z rfl
        | cons n S => rw [q] at e; exact absurd ((e n).mp List.mem_cons_self) List.not_mem_nil
      rw [if_neg z, if_neg this]
  have er : (h.rows.map fun r : Int × Rl × Int => if r.1 ∈ S then (r.1, r.2.1, h.cup r.2 (kof r.1)) else r) = h.rows.map fun r => if r.1 ∈ S' then (r.1, r.2.1, h.cup r.2 (kof r.1)) else r := List.map_congr_left fun r _ => by
    by_cases z : r.1 ∈ S
    · rw [if_pos z, if_pos ((e _).mp z)]
    · rw [if_neg z, if_neg (fun q => z ((e _).mpr q))]
  obtain ⟨t, p, w, r⟩ := a
  obtain ⟨t', p', w', r'⟩ := b
  cases g
  cases g'
  simp only at t p w r t' p' w' r'
  rw [t, p, w, r, t', p', w', r', ew, er]
theorem ask_step {h : Hd} {o : Option Wi} {kof : Int → Int} {S : List Int} {g : Hd} {n : Int} {z : Rl × Int} (k : Ok5 h) (a : AskS h o kof S g) (e : look h.rows n = some z) (le : kof n ≤ z.2) (wle : wishN h.wish ≤ wishN o) (weq : wishN h.wish = wishN o → h.wish = o) :
    (g.hear ("ask", [n, kof n], o)).2 = askR h o n (kof n) z ∧ AskS h o kof (n :: S) (g.hear ("ask", [n, kof n], o)).1 := by
  have hz := look_mem5 e
  have sh := k.sh _ hz
  have keys : g.rows.map (·.1) = h.rows.map (·.1) := by
    rw [a.r, List.map_map]
    refine List.map_congr_left fun r _ => ?_
    show (if r.1 ∈ S then (r.1, r.2.1, h.cup r.2 (kof r.1)) else r).1 = r.1
    split <;> rfl
  have gnd : (g.rows.map (·.1)).Nodup := by rw [keys]; exact k.nd
  -- the row as it stands
  obtain ⟨c', hc', ec'⟩ : ∃ c', c' = (if n ∈ S then h.cup z (kof n) else z.2) ∧ (n, z.1, c') ∈ g.rows := by
    refine ⟨_, rfl, ?_⟩
    rw [a.r]
    refine List.mem_map.mpr ⟨(n, z), hz, ?_⟩
    show (if n ∈ S then (n, z.1, h.cup z (kof n)) else (n, z)) = _
    split <;> rfl
  have eg : look g.rows n = some (z.1, c') := look_in gnd ec'
  have hw : (g.hw o).wish = o ∧ (g.hw o).rows = g.rows ∧ (g.hw o).thing = g.thing ∧ (g.hw o).place = g.place := by
    unfold Hd.hw
    split
    · exact ⟨rfl, rfl, rfl, rfl⟩
    · next q =>
      refine ⟨?_, rfl, rfl, rfl⟩
      have wg := a.w
      by_cases s0 : S = []
      · rw [if_pos s0] at wg
        rw [wg] at q ⊢
        exact weq (by omega)
      · rw [if_neg s0] at wg
        exact wg
  have kc : kof n ≤ c' := by
    rw [hc']
    split
    · unfold Hd.cup
      split <;> omega
    · exact le
  rw [hear_at eg sh]
  generalize g.hw o = G at hw
  obtain ⟨w1, w2, w3, w4⟩ := hw
  unfold Hd.hear2
  rw [if_neg (by
    rw [w1]
    have : decide (("ask" : Str) = "leave") = false := by decide +kernel
    rw [this]
    simp), mx_same kc]
  have es : G.setc n c' = G := by
    show ({ G with rows := putC G.rows n c' } : Hd) = G
    have : putC G.rows n c' = G.rows := by
      unfold putC
      conv => rhs; rw [← List.map_id G.rows]
      refine List.map_congr_left fun r hr => ?_
      by_cases q : r.1 = n
      · rw [if_pos q]
        have h1 : look g.rows r.1 = some r.2 := look_in gnd (by rw [← w2]; exact hr)
        rw [q, eg] at h1
        have h2 : (z.1, c') = r.2 := Option.some.inj h1
        show (r.1, r.2.1, c') = r
        rw [← h2]
        show (r.1, z.1, c') = r
        rw [h2]
      · rw [if_neg q]
        rfl
    rw [this]
  rw [es, ans_of (by rw [w2]; exact eg)]
  have tp := cup_tp (g := G) (h := h) (by rw [w3]; exact a.t) (by rw [w4]; exact a.p)
  have cc : G.cup (z.1, c') (kof n) = h.cup z (kof n) ∧ (n ∈ S → G.cnd (z.1, c') (kof n) = false) := by
    by_cases q : n ∈ S
    · rw [if_pos q] at hc'
      have nc : h.cnd (z.1, c') (kof n) = false := by
        cases d : h.cnd z (kof n) with
        | true =>
          have e2 : c' = z.2 + 1 := by rw [hc']; unfold Hd.cup; rw [if_pos d]
          have e3 : z.2 = kof n := by
            unfold Hd.cnd at d
            exact of_decide_eq_true (Bool.and_eq_true_iff.mp d).1
          unfold Hd.cnd
          refine Bool.and_eq_false_iff.mpr (.inl (decide_eq_false ?_))
          show ¬ c' = kof n
          omega
        | false =>
          have e2 : c' = z.2 := by rw [hc']; unfold Hd.cup; rw [if_neg (by rw [d]; decide)]
          rw [e2]
          exact d
      refine ⟨?_, fun _ => by rw [(tp _ _).2]; exact nc⟩
      rw [(tp _ _).1]
      show h.cup (z.1, c') (kof n) = _
      conv => lhs; unfold Hd.cup
      rw [if_neg (by rw [nc]; decide)]
      exact hc'
    · rw [if_neg q] at hc'
      rw [hc']
      exact ⟨(tp _ _).1, fun w => absurd w q⟩
  refine ⟨?_, ?_, ?_, ?_, ?_⟩
  · show (if G.cup (z.1, c') (kof n) = kof n then ([] : List Bt) else _) = _
    rw [cc.1, w1, w3, a.t]
    rfl
  · show (G.hup n (z.1, c') (kof n)).thing = _
    rw [hup_thing, w3, a.t]
  · show (G.hup n (z.1, c') (kof n)).place = _
    have : (G.hup n (z.1, c') (kof n)).place = G.place := by unfold Hd.hup; split <;> rfl
    rw [this, w4, a.p]
  · show (G.hup n (z.1, c') (kof n)).wish = _
    rw [hup_wish, w1, if_neg (by simp)]
  · show (G.hup n (z.1, c') (kof n)).rows = _
    have hr : (G.hup n (z.1, c') (kof n)).rows = putC g.rows n (h.cup z (kof n)) := by
      rw [← cc.1]
      unfold Hd.hup Hd.cup
      by_cases q : G.cnd (z.1, c') (kof n) = true
      · rw [if_pos q, if_pos q]
        show putC G.rows n (c' + 1) = _
        rw [w2]
      · rw [if_neg q, if_neg q, w2]
        have := congrArg Hd.rows es
        rw [← w2]
        exact this.symm
    rw [hr, a.r]
    unfold putC
    rw [List.map_map]
    refine List.map_congr_left fun r hr => ?_
    show (if (if r.1 ∈ S then (r.1, r.2.1, h.cup r.2 (kof r.1)) else r).1 = n then _ else _) = _
    have e1 : (if r.1 ∈ S then (r.1, r.2.1, h.cup r.2 (kof r.1)) else r).1 = r.1 := by split <;> rfl
    have e2 : (if r.1 ∈ S then (r.1, r.2.1, h.cup r.2 (kof r.1)) else r).2.1 = r.2.1 := by split <;> rfl
    rw [e1]
    by_cases q : r.1 = n
    · have h1 : look h.rows r.1 = some r.2 := look_in k.nd hr
      rw [q, e] at h1
      have h2 : z = r.2 := Option.some.inj h1
      rw [if_pos q, if_pos (by rw [q]; exact List.mem_cons_self), e2, h2, q]
    · rw [if_neg q]
      by_cases s : r.1 ∈ S
      · rw [if_pos s, if_pos (List.mem_cons_of_mem _ s)]
      · rw [if_neg s, if_neg (fun w => (List.mem_cons.mp w).elim q s)]
end K65

set_option Elab.async false
set_option linter.all false
set_option maxRecDepth 100000
namespace K65
open PySem PySem.Spec PyProof.Rows L2 NB

/-! ### rules that are shared, drawn -/
def SdsAt (H : Hp) : List Addr → List Sd → Prop
  | [], [] => True
  | a :: as, b :: bs => SideAt H a b ∧ SdsAt H as bs
  | _, _ => False
theorem SdsAt.tk {H H' : Hp} (k : TupK H H') : ∀ {as : List Addr} {bs : List Sd}, SdsAt H as bs → SdsAt H' as bs
  | [], [], _ => trivial
  | _ :: _, _ :: _, ⟨a, c⟩ => ⟨a.tk k, c.tk k⟩
  | [], _ :: _, h => h.elim
  | _ :: _, [], h => h.elim
theorem SdsAt.app {H : Hp} {a : Addr} {b : Sd} (p : SideAt H a b) : ∀ {as : List Addr} {bs : List Sd}, SdsAt H as bs → SdsAt H (as ++ [a]) (bs ++ [b])
  | [], [], _ => ⟨p, trivial⟩
  | _ :: _, _ :: _, ⟨x, c⟩ => ⟨x, SdsAt.app p c⟩
  | [], _ :: _, h => h.elim
  | _ :: _, [], h => h.elim
theorem SdsAt.len {H : Hp} : ∀ {as : List Addr} {bs : List Sd}, SdsAt H as bs → as.length = bs.length
  | [], [], _ => rfl
  | _ :: _, _ :: _, ⟨_, c⟩ => by rw [List.length_cons, List.length_cons, c.len]
  | [], _ :: _, h => h.elim
  | _ :: _, [], h => h.elim
theorem tk_but {H H' : Hp} {p : Addr} {c : Nat} (h : PotAt H p c) (b : But p H H') : TupK H H' := fun a xs e => b a _ (fun z => by obtain ⟨_, _, _, e2, _⟩ := h; rw [z, e2] at e; cases e) e
theorem tk_lst {H : Hp} {l : Addr} {xs ys : List V} (h : H l = some (.lst xs)) : TupK H (upd H l (.lst ys)) := fun a zs e => (upd_ne (fun z => by rw [z, h] at e; cases e)).trans e
theorem TupK.trans {A B C : Hp} (h : TupK A B) (k : TupK B C) : TupK A C := fun a xs e => k _ _ (h _ _ e)
def okD (n i : Nat) (q : Rl) : Prop := (q.1.1 = i ∨ q.2.1 = i) ∧ q.1.1 < n ∧ q.2.1 < n
def RlA (H : Hp) (as : List Addr) (rows : List (Int × Rl × Int)) (hs : List (Int × Addr)) : Prop := as.length = rows.length ∧ hs.length = rows.length ∧
  ∀ (i : Nat) (a : Addr) (r : Int × Rl × Int) (z : Int × Addr), as[i]? = some a → rows[i]? = some r → hs[i]? = some z → z.1 = r.1 ∧ H a = some (.tup [.int r.1, .ref z.2, .int r.2.2]) ∧ RuleAt H z.2 r.2.1
theorem RlA.tk {H H' : Hp} {as rows hs} (h : RlA H as rows hs) (k : TupK H H') : RlA H' as rows hs := ⟨h.1, h.2.1, fun i a r z x y w => ⟨(h.2.2 i a r z x y w).1, k _ _ (h.2.2 i a r z x y w).2.1, (h.2.2 i a r z x y w).2.2.tk k⟩⟩
theorem RlA.snoc {H : Hp} {as rows hs} (h : RlA H as rows hs) {a hd : Addr} {n ct : Int} {rl : Rl} (e : H a = some (.tup [.int n, .ref hd, .int ct])) (er : RuleAt H hd rl) : RlA H (as ++ [a]) (rows ++ [(n, rl, ct)]) (hs ++ [(n, hd)]) := by
  obtain ⟨l1, l2, f⟩ := h
  refine ⟨by rw [List.length_append, List.length_append, l1]; rfl, by rw [List.length_append, List.length_append, l2]; rfl, fun i b r z x y w => ?_⟩
  by_cases hi : i < as.length
  · rw [List.getElem?_append_left hi] at x
    rw [List.getElem?_append_left (by omega)] at y w
    exact f i b r z x y w
  · have hl := (List.getElem?_eq_some_iff.mp x).1
    rw [List.length_append, List.length_singleton] at hl
    have hi2 : i = as.length := by omega
    rw [hi2, List.getElem?_append_right (Nat.le_refl _), Nat.sub_self] at x
    rw [hi2, l1, List.getElem?_append_right (Nat.le_refl _), Nat.sub_self] at y
    rw [hi2, l1, ← l2, List.getElem?_append_right (Nat.le_refl _), Nat.sub_self] at w
    cases x
    cases y
    cases w
    exact ⟨rfl, e, er⟩
def spRu5 : Sp := fun vs H Q _ => ∃ (p L : Addr) (tops : List Int) (i c : Nat), vs = [.ref p, .ref L, .int (i : Int)] ∧ PotAt H p c ∧ c < 600000 ∧ H L = some (.lst (tops.map V.int)) ∧ L ≠ p ∧ i < tops.length ∧ 2 ≤ tops.length ∧ tops.length ≤ 4 ∧ (∀ x ∈ tops, 1 ≤ x ∧ x < 10 ^ 30) ∧
  ∀ H' F as rows zs, But p H H' → PotAt H' p (c + 80) → H' F = some (.tup (as.map V.ref)) → RlA H' as rows zs → rows.length ≤ 8 → rows.map (·.1) = (List.range rows.length).map (fun k : Nat => (k : Int)) → (∀ r ∈ rows, shrd r.2.1 = true ∧ okD tops.length i r.2.1 ∧ 0 ≤ r.2.2 ∧ r.2.2 ≤ 5) → Q (.ref F) H'
section
variable {P : Program} {w : World} {K : PySem.W.Frag} {mg : Str → Option Value} {base : Heap}
abbrev a__law_rules : Stmt := topS 24
abbrev n__law_rules : List Str := ["_law_pot_here", "_law_tops", "_law_thing", "_law_found", "_law_number", "_law_other", "_law_sides", "_law_owner", "_law_word", "_law_rule"]
theorem sc__law_rules : FnScope n__law_rules ["_law_pot_here", "_law_tops", "_law_thing"] (defScope a__law_rules) := ⟨rfl, rfl, rfl, by decide +kernel, rfl, by decide +kernel, by decide +kernel⟩
set_option maxHeartbeats 8000000 in
theorem ok__law_rules {f fTk fOf : Addr} {fd fdTk fdOf : FuncData} {k : Nat}  (F : Fun K "_law_rules" "_law_rules" a__law_rules f fd) (Tk : Kn P w K mg base 1 "_law_take" ["_law_pot_here", "_law_many"] spTake fTk fdTk) (Of : Kn P w K mg base 2 "_law_of" ["_law_pot_here", "_law_some"] (spOf K) fOf fdOf)  (m_len : mg "len" = none) (m_range : mg "range" = none) (m_tuple : mg "tuple" = none) : FnOk P w K mg base CX0 (k + 3) f fd ["_law_pot_here", "_law_tops", "_law_thing"] spRu5 := by
  refine F.ok sc__law_rules (fun vs H Q E h => ?_) (fun cdv A outer s H vs Q E hr h => ?_)
  · obtain ⟨p, L, tops, i, c, rfl, _⟩ := h
    rfl
  · obtain ⟨p, L, tops, i, c, rfl, pp, hc, eL, nLp, hi, t2, t4, tb, q⟩ := h
    refine ⟨_, (pss_cons (ps_set (i := 3) sc__law_rules.nd rfl (.inl rfl) (pe_lst pa_nil))
      (pss_cons (ps_for PassesOwn.never rfl (pi_range1 (by rfl) m_range (pa_cons (pe_kn Tk hr (by omega) (pa_cons (pv 0) (pa_cons pe_int pa_nil))) pa_nil)) (pg_name (i := 4) sc__law_rules.nd rfl (.inl rfl))
        (pss_cons (ps_set (i := 5) sc__law_rules.nd rfl (.inl rfl) (pe_op op_mod (pe_op op_add (pe_op op_add (pv 2) pe_int) (pe_kn Tk hr (by omega) (pa_cons (pv 0) (pa_cons (pe_op op_sub (pe_callB call_len_seq (by rfl) m_len (by decide +kernel) (pa_cons (pv 1) pa_nil)) pe_int) pa_nil)))) (pe_callB call_len_seq (by rfl) m_len (by decide +kernel) (pa_cons (pv 1) pa_nil))))
      (pss_cons (ps_set (i := 6) sc__law_rules.nd rfl (.inl rfl) (pe_lst pa_nil))
      (pss_cons (ps_for PassesOwn.never rfl (pi_tup (pe_tup (pa_cons (pv 2) (pa_cons (pv 5) pa_nil)))) (pg_name (i := 7) sc__law_rules.nd rfl (.inl rfl))
        (pss_cons (ps_set (i := 8) sc__law_rules.nd rfl (.inl rfl) (pe_kn Of hr (by omega) (pa_cons (pv 0) (pa_cons (pe_lst (pa_cons pe_str (pa_cons pe_str pa_nil))) pa_nil))))
      (pss_one (ps_expr (pe_bm PySem.F.plainAttrs_list PySem.F.slot_list_append PySem.F.type_list_append mt_append (pv 6) (pa_cons (pe_tup (pa_cons (pv 7) (pa_cons (pv 8) (pa_cons (pe_kn Tk hr (by omega) (pa_cons (pv 0) (pa_cons (pe_op op_add (pe_ix ix_list (pv 1) (pv 7) (fun _ _ => rfl)) pe_int) pa_nil))) pa_nil)))) pa_nil))))))
      (pss_cons (ps_set (i := 9) sc__law_rules.nd rfl (.inl rfl) (pe_callTy call_tuple_of (by rfl) m_tuple (by decide +kernel) (pa_cons (pe_ifExp (pt_cmpR op_eq (pe_kn Tk hr (by omega) (pa_cons (pv 0) (pa_cons pe_int pa_nil))) pe_int (nomark _)) (pe_revL (pv 6)) (pv 6)) pa_nil)))
      (pss_one (ps_expr (pe_bm PySem.F.plainAttrs_list PySem.F.slot_list_append PySem.F.type_list_append mt_append (pv 3) (pa_cons (pe_tup (pa_cons (pv 4) (pa_cons (pv 9) (pa_cons (pe_kn Tk hr (by omega) (pa_cons (pv 0) (pa_cons pe_int pa_nil))) pa_nil)))) pa_nil)))))))))
      (pss_one (ps_ret (pe_callTy call_tuple_of (by rfl) m_tuple (by decide +kernel) (pa_cons (pv 3) pa_nil)))))), ?_⟩
    refine ⟨(show 0 ≤ sizeLine by decide), fun F nF => ?_⟩
    have nFp := pp.ne nF
    have sF := same_new (o := HO.lst []) nF
    have eF : (upd H F (HO.lst [])) F = some (.lst (([] : List Addr).map V.ref)) := upd_same
    have p1 := pp.keep sF
    have eL1 := sF _ _ eL
    generalize upd H F (HO.lst []) = H1 at sF eF p1 eL1 ⊢
    dsimp only [List.set]
    refine ⟨.ref p, rfl, p, 9, c, rfl, p1, by decide, by decide, by omega, fun m H2 b2 p2 m0 m1 => ?_⟩
    obtain ⟨m, rfl⟩ : ∃ k : Nat, m = k := ⟨m.toNat, by omega⟩
    have m8 : m ≤ 8 := by omega
    have eF2 := b2 _ _ nFp eF
    have eL2 := b2 _ _ nLp eL1
    have b02 : But p H H2 := (But.of sF).trans b2
    have nFL : F ≠ L := fun z => by rw [z, eL] at nF; cases nF
    refine ⟨m, rfl, by omega, by omega, for_it walk_range (fun j σ H' => (∃ u4 u5 u6 u7 u8 u9 : Option V, σ = [some (.ref p), some (.ref L), some (.int (i : Int)), some (.ref F), u4, u5, u6, u7, u8, u9]) ∧ But p H H' ∧ PotAt H' p (c + 1 + 8 * j) ∧ H' L = some (.lst (tops.map V.int)) ∧
      ∃ as rows zs, H' F = some (.lst (as.map V.ref)) ∧ RlA H' as rows zs ∧ rows.length = j ∧ rows.map (·.1) = (List.range j).map (fun k : Nat => (k : Int)) ∧ ∀ r ∈ rows, shrd r.2.1 = true ∧ okD tops.length i r.2.1 ∧ 0 ≤ r.2.2 ∧ r.2.2 ≤ 5)
      ⟨⟨_, _, _, _, _, _, rfl⟩, b02, p2, eL2, [], [], [], eF2, ⟨rfl, rfl, fun _ _ _ _ x => by cases x⟩, rfl, rfl, fun _ h => absurd h List.not_mem_nil⟩ (fun _ _ _ _ _ => trivial) (fun j v σ H3 H3' hj y z => ?_) (fun σ H3 y => ?_)⟩
    · obtain ⟨⟨u4, u5, u6, u7, u8, u9, rfl⟩, b3, p3, eL3, as, rows, zs, eF3, ra, lr, kr, ok⟩ := y
      obtain ⟨rfl, rfl⟩ := z
      have j8 : j < 8 := by omega
      dsimp only [gName, List.set]
      refine ⟨_, rfl, _, 1, rfl, rfl, .ref p, rfl, .ref L, rfl, L, tops.map V.int, rfl, .inl (.inl (.inl eL3)), _, 1, rfl, rfl, p, _, _, rfl, p3, by rw [List.length_map]; omega, by rw [List.length_map]; omega, by omega, fun d H4 b4 p4 d0 d1 => ?_⟩
      rw [List.length_map] at d1
      have eL4 := b4 _ _ nLp eL3
      refine ⟨_, d, rfl, rfl, .ref L, rfl, L, tops.map V.int, rfl, .inl (.inl (.inl eL4)), _, _, rfl, rfl, by rw [List.length_map]; omega, ?_⟩
      rw [List.length_map]
      obtain ⟨o, ho, o1, oi⟩ : ∃ o : Nat, ((i : Int) + 1 + d) % (tops.length : Int) = (o : Int) ∧ o < tops.length ∧ o ≠ i := by
        have h1 := Int.emod_nonneg ((i : Int) + 1 + d) (show (tops.length : Int) ≠ 0 by omega)
        have h2 := Int.emod_lt_of_pos ((i : Int) + 1 + d) (show (0 : Int) < tops.length by omega)
        refine ⟨(((i : Int) + 1 + d) % (tops.length : Int)).toNat, by omega, by omega, fun z => ?_⟩
        have h3 : ((i : Int) + 1 + d) % (tops.length : Int) = i := by omega
        have h4 := Int.emod_add_mul_ediv ((i : Int) + 1 + d) (tops.length : Int)
        rw [h3] at h4
        generalize ((i : Int) + 1 + d) / (tops.length : Int) = q at h4
        have h5 : (tops.length : Int) * q = 1 + d := by omega
        have q1 : 0 < q := by
          by_cases z : q ≤ 0
          · have := Int.mul_nonneg (show (0 : Int) ≤ tops.length by omega) (show (0 : Int) ≤ -q by omega)
            rw [Int.mul_neg] at this
            omega
          · omega
        have := Int.mul_le_mul_of_nonneg_left (show (1 : Int) ≤ q by omega) (show (0 : Int) ≤ tops.length by omega)
        omega
      dsimp only
      rw [ho]
      dsimp only [gName, List.set]
      -- the sides
      refine ⟨(show 0 ≤ sizeLine by decide), fun S nS => ?_⟩
      have sS := same_new (o := HO.lst []) nS
      have nSp := p4.ne nS
      have eS : (upd H4 S (HO.lst [])) S = some (.lst (([] : List Addr).map V.ref)) := upd_same
      have p5 := p4.keep sS
      have b45 : But p H3' (upd H4 S (HO.lst [])) := b4.trans (.of sS)
      have nS3 : H3' S = none := b4.free nSp nS
      have nSH : H S = none := b3.free nSp nS3
      have eF5 := b45 _ _ nFp eF3
      have eL5 := b45 _ _ nLp eL3
      generalize upd H4 S (HO.lst []) = H5 at sS eS p5 b45 eF5 eL5 ⊢
      have nSF : S ≠ F := (ne_of_none eF3 nS3).symm
      have nSL : S ≠ L := (ne_of_none eL3 nS3).symm
      dsimp only [List.set]
      refine ⟨_, rfl, _, rfl, (show 2 ≤ sizeLine by decide), fun Y nY => ?_⟩
      have sY := same_new (o := HO.tup [V.int (i : Int), .int (o : Int)]) nY
      have eY : (upd H5 Y (HO.tup [V.int (i : Int), .int (o : Int)])) Y = some (.tup [V.int (i : Int), .int (o : Int)]) := upd_same
      have eS7 := sY _ _ eS
      have b47 := b45.trans (.of sY)
      have eF7 := b47 _ _ nFp eF3
      have eL7 := b47 _ _ nLp eL3
      have p7 := p5.keep sY
      generalize upd H5 Y (HO.tup [V.int (i : Int), .int (o : Int)]) = H7 at eY eS7 b47 eF7 eL7 p7 ⊢
      have nYp : Y ≠ p := by
        obtain ⟨_, _, _, e, _⟩ := p7
        exact fun z => by rw [z, e] at eY; cases eY
      have nYS : Y ≠ S := fun z => by rw [z, eS7] at eY; cases eY
      refine ⟨Y, rfl, ⟨_, .inl (.inl eY)⟩, for_it (walk_tup (xs := [V.int (i : Int), .int (o : Int)])) (fun k σ H' => (∃ u7 u8 u9 : Option V, σ = [some (.ref p), some (.ref L), some (.int (i : Int)), some (.ref F), some (.int (0 + (j : Int))), some (.int (o : Int)), some (.ref S), u7, u8, u9]) ∧ But p H3' (upd H' S (.lst [])) ∧ H' Y = some (.tup [V.int (i : Int), .int (o : Int)]) ∧ PotAt H' p (c + 1 + 8 * j + 2 + 2 * k) ∧ TupK H7 H' ∧ H' F = some (.lst (as.map V.ref)) ∧ H' L = some (.lst (tops.map V.int)) ∧
        ∃ ts ss, H' S = some (.lst (ts.map V.ref)) ∧ SdsAt H' ts ss ∧ ss.map (·.1) = [i, o].take k) ⟨⟨_, _, _, rfl⟩, but_new b47 nS3, eY, p7.mono (by omega), fun _ _ e => e, eF7, eL7, [], [], eS7, trivial, rfl⟩ (fun k σ H' _ y => .inl (.inl y.2.2.1)) (fun k u σ H8 H8' hk y z => ?_) (fun σ H8 y => ?_)⟩
      · obtain ⟨⟨u7', u8', u9', rfl⟩, b8, eY8, p8, tk8, eF8, eL8, ts, ss, eS8, sd8, th8⟩ := y
        obtain ⟨rfl, gv⟩ := z
        have hk2 : k < 2 := hk
        obtain ⟨x, rfl, ex, xl⟩ : ∃ x : Nat, u = .int (x : Int) ∧ [i, o][k]? = some x ∧ x < tops.length := by
          match k, hk2, gv with
          | 0, _, gv => exact ⟨i, (Option.some.inj gv).symm, rfl, hi⟩
          | 1, _, gv => exact ⟨o, (Option.some.inj gv).symm, rfl, by omega⟩
        dsimp only [gName, List.set]
        refine ⟨.ref p, rfl, (show 2 ≤ sizeLine by decide), fun W2 nW2 => ?_⟩
        have sW2 := same_new (o := HO.lst [V.str "from", .str "to"]) nW2
        have nW2p := p8.ne nW2
        refine ⟨p, W2, [V.str "from", .str "to"], _, rfl, p8.keep sW2, nW2p, .inl (.inl (.inl upd_same)), (show 1 ≤ 2 by decide), (show 2 ≤ 1000000 by decide), by omega, fun wv H9 hwv b9 p9 => ?_⟩
        obtain ⟨bb, rfl⟩ : ∃ b : Bool, wv = .str (word b) := by
          rcases List.mem_cons.mp hwv with h | h
          · exact ⟨true, h⟩
          · exact ⟨false, List.mem_singleton.mp h⟩
        have b89 : But p H8' H9 := (But.of sW2).trans b9
        have eL9 := b89 _ _ nLp eL8
        have eS9 := b89 _ _ nSp eS8
        have ex2 := List.getElem?_eq_getElem xl
        have hx := tb _ (List.getElem_mem xl)
        have hx2 : tops[x] + 1 < 2 ^ 200 := Int.lt_of_lt_of_le (show tops[x] + 1 < 10 ^ 30 + 1 by omega) (by decide)
        dsimp only [List.set]
        refine ⟨.ref S, rfl, .inl ⟨rfl, _, .inl (.inl eS9)⟩, _, rfl, _, rfl, .ref p, rfl, .ref L, rfl, _, rfl, L, _, (x : Int), .int tops[x], rfl, rfl, .inl (.inl eL9), atI_nat (by rw [List.getElem?_map, ex2]; rfl), _, 1, rfl, rfl, ?_⟩
        refine ⟨p, _, _, rfl, p9, by omega, by omega, by omega, fun pl HA bA pA l0 l1 => ⟨(show 3 ≤ sizeLine by decide), fun M nM => ?_⟩⟩
        have sM := same_new (o := HO.tup [V.int (x : Int), .str (word bb), .int pl]) nM
        have b8B := (b89.trans bA).trans (.of sM)
        have tkB : TupK H8' (upd HA M (HO.tup [V.int (x : Int), .str (word bb), .int pl])) := tk_but p8 b8B
        have eM : SideAt (upd HA M (HO.tup [V.int (x : Int), .str (word bb), .int pl])) M (x, bb, pl) := upd_same
        have eSB := b8B _ _ nSp eS8
        have eYB := b8B _ _ nYp eY8
        have eFB := b8B _ _ nFp eF8
        have eLB := b8B _ _ nLp eL8
        have pB := pA.keep sM
        generalize upd HA M (HO.tup [V.int (x : Int), .str (word bb), .int pl]) = HB at sM b8B tkB eM eSB eYB eFB eLB pB ⊢
        have kS : TupK HB (upd HB S (.lst (ts.map V.ref ++ [V.ref M]))) := tk_lst eSB
        refine ⟨S, _, _, rfl, rfl, eSB, ?_, ⟨_, _, _, rfl⟩, ?_, (upd_ne nYS).trans eYB, (pot_upd (pB.mono (by omega)) nSp), (tk8.trans tkB).trans kS, (upd_ne nSF.symm).trans eFB, (upd_ne nSL.symm).trans eLB, ts ++ [M], ss ++ [(x, bb, pl)], ?_, ((sd8.tk tkB).tk kS).app (eM.tk kS), ?_⟩
        · rw [List.length_map, sd8.len]
          have := congrArg List.length th8
          rw [List.length_map, List.length_take] at this
          exact small1000 (by omega)
        · intro b o ne eb
          by_cases bS : b = S
          · rw [bS, nS3] at eb; cases eb
          · have := b8 b o ne eb
            rw [upd_ne bS] at this
            rw [upd_ne bS, upd_ne bS]
            exact b8B b o ne this
        · rw [upd_same, List.map_append]
          rfl
        · rw [List.map_append, th8, List.take_add_one, ex]
          rfl
      · obtain ⟨⟨u7', u8', u9', rfl⟩, b8, eY8, p8, tk8, eF8, eL8, ts, ss, eS8, sd8, th8⟩ := y
        have th8 : ss.map (·.1) = [i, o] := th8
        match ss, th8, ts, sd8, eS8 with
        | [s1, s2], th8, [t1, t2], ⟨g1, g2, _⟩, eS8 =>
        have p8 : PotAt H8 p (c + 1 + 8 * j + 2 + 2 * 2) := p8
        have h1 : s1.1 = i := (List.cons.inj th8).1
        have h2 : s2.1 = o := (List.cons.inj (List.cons.inj th8).2).1
        dsimp only [gName, List.set]
        refine ⟨.ref p, rfl, p, 2, _, rfl, p8, by decide, by decide, by omega, fun d HE bE pE d0 d1 => ?_⟩
        have kE := tk_but p8 bE
        have eSE := bE _ _ nSp eS8
        have eFE := bE _ _ nFp eF8
        have eLE := bE _ _ nLp eL8
        have BE : ∀ b o, b ≠ p → b ≠ S → H3' b = some o → HE b = some o := fun b o n1 n2 e => by
          have := b8 b o n1 e
          rw [upd_ne n2] at this
          exact bE _ _ n1 this
        have tk3E : TupK H3' HE := fun a xs e => by
          have nap : a ≠ p := by
            obtain ⟨_, _, _, e2, _⟩ := p3
            exact fun z => by rw [z, e2] at e; cases e
          exact BE a _ nap (fun z => by rw [z, nS3] at e; cases e) e
        have g1' := g1.tk kE
        have g2' := g2.tk kE
        have lF : (as.map V.ref).length < sizeLine := by
          rw [List.length_map, ra.1]
          exact small1000 (by omega)
        -- the tail: the rule stands at G in HG
        have tail : ∀ (HG : Hp) (G : Addr) (rl : Rl), Same HE HG → RuleAt HG G rl → (shrd rl = true ∧ okD tops.length i rl) → ∀ (HJ : Hp) (ct : Int) (T3 : Addr), But p HG HJ → PotAt HJ p (c + 1 + 8 * j + 8) → 0 ≤ ct → ct ≤ 5 → HJ T3 = none →
            HJ F = some (.lst (as.map V.ref)) ∧ But p H (upd (upd HJ T3 (.tup [.int (0 + (j : Int)), .ref G, .int ct])) F (.lst (as.map V.ref ++ [.ref T3]))) ∧ PotAt (upd (upd HJ T3 (.tup [.int (0 + (j : Int)), .ref G, .int ct])) F (.lst (as.map V.ref ++ [.ref T3]))) p (c + 1 + 8 * (j + 1)) ∧ (upd (upd HJ T3 (.tup [.int (0 + (j : Int)), .ref G, .int ct])) F (.lst (as.map V.ref ++ [.ref T3]))) L = some (.lst (tops.map V.int)) ∧
            ∃ as' rows' zs', (upd (upd HJ T3 (.tup [.int (0 + (j : Int)), .ref G, .int ct])) F (.lst (as.map V.ref ++ [.ref T3]))) F = some (.lst (as'.map V.ref)) ∧ RlA (upd (upd HJ T3 (.tup [.int (0 + (j : Int)), .ref G, .int ct])) F (.lst (as.map V.ref ++ [.ref T3]))) as' rows' zs' ∧ rows'.length = j + 1 ∧ rows'.map (·.1) = (List.range (j + 1)).map (fun k : Nat => (k : Int)) ∧ ∀ r ∈ rows', shrd r.2.1 = true ∧ okD tops.length i r.2.1 ∧ 0 ≤ r.2.2 ∧ r.2.2 ≤ 5 := fun HG G rl sG rG okG HJ ct T3 bJ pJ ct0 ct5 nT3 => by
          have s3 := same_new (o := HO.tup [V.int (0 + (j : Int)), .ref G, .int ct]) nT3
          have e3 : (upd HJ T3 (HO.tup [V.int (0 + (j : Int)), .ref G, .int ct])) T3 = some (.tup [.int (0 + (j : Int)), .ref G, .int ct]) := upd_same
          have bA : But p HE (upd HJ T3 (HO.tup [V.int (0 + (j : Int)), .ref G, .int ct])) := ((But.of sG).trans bJ).trans (.of s3)
          have eFJ := bJ _ _ nFp (sG _ _ eFE)
          have eFA := bA _ _ nFp eFE
          have eLA := bA _ _ nLp eLE
          have pG : PotAt HG p _ := pE.keep sG
          have r3 : RuleAt (upd HJ T3 (HO.tup [V.int (0 + (j : Int)), .ref G, .int ct])) G rl := (rG.tk (tk_but pG bJ)).tk (tk_same s3)
          have tA := tk_but pE bA
          have pA := pJ.keep s3
          generalize upd HJ T3 (HO.tup [V.int (0 + (j : Int)), .ref G, .int ct]) = HI at s3 e3 bA eFA eLA r3 tA pA ⊢
          have kI := tk_lst (ys := as.map V.ref ++ [.ref T3]) eFA
          refine ⟨eFJ, fun b o n1 e => ?_, (pot_upd pA nFp).mono (by omega), (upd_ne nFL.symm).trans eLA, as ++ [T3], rows ++ [((0 + (j : Int)), rl, ct)], zs ++ [((0 + (j : Int)), G)], ?_, ((ra.tk (tk3E.trans tA)).tk kI).snoc (kI _ _ e3) (r3.tk kI), by rw [List.length_append, lr]; rfl, ?_, fun r hr => ?_⟩
          · by_cases bF : b = F
            · rw [bF, nF] at e; cases e
            · rw [upd_ne bF]
              exact bA _ _ n1 (BE b o n1 (ne_of_none e nSH) (b3 b o n1 e))
          · rw [upd_same, List.map_append]
            rfl
          · rw [List.map_append, kr, List.range_succ, List.map_append]
            show _ ++ [0 + (j : Int)] = _ ++ [(j : Int)]
            rw [Int.zero_add]
          · rcases List.mem_append.mp hr with h | h
            · exact ok r h
            · rw [List.mem_singleton.mp h]
              exact ⟨okG.1, okG.2, ct0, ct5⟩
        have s12 : shrd (s1, s2) = true := decide_eq_true (by show s1.1 ≠ s2.1; omega)
        have s21 : shrd (s2, s1) = true := decide_eq_true (by show s2.1 ≠ s1.1; omega)
        refine ⟨rfl, _, rfl, ite2 (fun _ => ?_) (fun _ => ?_)⟩
        · refine ⟨.ref S, rfl, S, [.ref t1, .ref t2], rfl, .inl (.inl eSE), fun L3 nL3 => ?_⟩
          rw [show ([V.ref t1, .ref t2] : List V).reverse = [.ref t2, .ref t1] from rfl]
          refine ⟨L3, [.ref t2, .ref t1], rfl, .inl ⟨.inl (.inl upd_same), fun G nG => ?_⟩⟩
          have sG := (same_new (o := HO.lst [V.ref t2, .ref t1]) nL3).trans (same_new (o := HO.tup [V.ref t2, .ref t1]) nG)
          have rG : RuleAt (upd (upd HE L3 (HO.lst [V.ref t2, .ref t1])) G (HO.tup [V.ref t2, .ref t1])) G (s2, s1) := ⟨t2, t1, upd_same, g2'.tk (tk_same sG), g1'.tk (tk_same sG)⟩
          have pG := pE.keep sG
          generalize upd (upd HE L3 (HO.lst [V.ref t2, .ref t1])) G (HO.tup [V.ref t2, .ref t1]) = HG at sG rG pG ⊢
          dsimp only [gName, List.set]
          refine ⟨.ref F, rfl, .inl ⟨rfl, _, .inl (.inl (sG _ _ eFE))⟩, _, rfl, _, rfl, .ref p, rfl, p, 6, _, rfl, pG, by decide, by decide, by omega, fun ct HJ bJ pJ c0 c1 => ⟨(show 3 ≤ sizeLine by decide), fun T3 nT3 => ?_⟩⟩
          obtain ⟨q1, q2, q3, q4, q5⟩ := tail HG G (s2, s1) sG rG ⟨s21, .inr h1, by show s2.1 < _; omega, by show s1.1 < _; omega⟩ HJ ct T3 bJ (pJ.mono (by omega)) c0 (by omega) nT3
          exact ⟨F, _, _, rfl, rfl, (same_new nT3) _ _ q1, lF, ⟨_, _, _, _, _, _, rfl⟩, q2, q3, q4, q5⟩
        · refine ⟨.ref S, rfl, S, [.ref t1, .ref t2], rfl, .inl ⟨.inl (.inl eSE), fun G nG => ?_⟩⟩
          have sG := same_new (o := HO.tup [V.ref t1, .ref t2]) nG
          have rG : RuleAt (upd HE G (HO.tup [V.ref t1, .ref t2])) G (s1, s2) := ⟨t1, t2, upd_same, g1'.tk (tk_same sG), g2'.tk (tk_same sG)⟩
          have pG := pE.keep sG
          generalize upd HE G (HO.tup [V.ref t1, .ref t2]) = HG at sG rG pG ⊢
          dsimp only [gName, List.set]
          refine ⟨.ref F, rfl, .inl ⟨rfl, _, .inl (.inl (sG _ _ eFE))⟩, _, rfl, _, rfl, .ref p, rfl, p, 6, _, rfl, pG, by decide, by decide, by omega, fun ct HJ bJ pJ c0 c1 => ⟨(show 3 ≤ sizeLine by decide), fun T3 nT3 => ?_⟩⟩
          obtain ⟨q1, q2, q3, q4, q5⟩ := tail HG G (s1, s2) sG rG ⟨s12, .inl h1, by show s1.1 < _; omega, by show s2.1 < _; omega⟩ HJ ct T3 bJ (pJ.mono (by omega)) c0 (by omega) nT3
          exact ⟨F, _, _, rfl, rfl, (same_new nT3) _ _ q1, lF, ⟨_, _, _, _, _, _, rfl⟩, q2, q3, q4, q5⟩
    · obtain ⟨⟨u4, u5, u6, u7, u8, u9, rfl⟩, b3, p3, eL3, as, rows, zs, eF3, ra, lr, kr, ok⟩ := y
      refine ⟨.ref F, rfl, F, as.map V.ref, rfl, .inl ⟨.inl (.inl eF3), fun G nG => ?_⟩⟩
      have sG := same_new (o := HO.tup (as.map V.ref)) nG
      exact q _ G as rows zs (b3.trans (.of sG)) ((p3.keep sG).mono (by omega)) upd_same (ra.tk (tk_same sG)) (by omega) (by rw [lr]; exact kr) ok
end
end K65

set_option Elab.async false
set_option linter.all false
set_option maxRecDepth 100000
namespace K65
open PySem PySem.Spec PyProof.Rows L2 NB

/-! ### the hand of a case -/
structure CaseAt (H : Hp) (q R : Addr) (as : List Addr) (zs : List (Int × Addr)) (h : Hd) : Prop where
  e : ∃ v, H q = some (.tup [.int (h.thing : Int), .int h.place, .ref R, v]) ∧ WV H v h.wish
  r : H R = some (.tup (as.map V.ref))
  a : RlA H as h.rows zs
theorem CaseAt.tk {H H' : Hp} {q R : Addr} {as : List Addr} {zs : List (Int × Addr)} {h : Hd} (c : CaseAt H q R as zs h) (k : TupK H H') : CaseAt H' q R as zs h := by
  obtain ⟨⟨v, e, w⟩, r, a⟩ := c
  exact ⟨⟨v, k _ _ e, w.tk k⟩, k _ _ r, a.tk k⟩
def WsOk (h : Hd) (o : Option Wi) : Prop := ∀ w, o = some w → WiP w ∧ h.thing < w.2.length
def spMade (C : Addr) : Sp := fun vs H Q _ => ∃ (q R : Addr) (as : List Addr) (zs : List (Int × Addr)) (h : Hd), vs = [.ref q] ∧ CaseAt H q R as zs h ∧ Ok5 h ∧ WsOk h h.wish ∧
  ∀ H' x D T, Same H H' → HandAt C H' x D T h → D ≠ T → (∃ kvs, H' D = some (.dK kvs)) → H x = none → H D = none → H T = none → Q (.ref x) H'
theorem iteFa5 {c : Bool} {A B : Prop} (e : c = false) (h : B) : if c = true then A else B := by rw [e]; exact h
theorem iteTr5 {c : Bool} {A B : Prop} (e : c = true) (h : A) : if c = true then A else B := by rw [e]; exact h
section
variable {P : Program} {w : World} {K : PySem.W.Frag} {mg : Str → Option Value} {base : Heap}
abbrev a__law_made : Stmt := topS 25
abbrev n__law_made : List Str := ["_law_case", "_law_thing", "_law_place", "_law_rows", "_law_wish", "_law_hand"]
theorem sc__law_made : FnScope n__law_made ["_law_case"] (defScope a__law_made) := ⟨rfl, rfl, rfl, by decide +kernel, rfl, by decide +kernel, by decide +kernel⟩
set_option maxHeartbeats 8000000 in
theorem ok__law_made {f  : Addr} {fd  : FuncData} {k : Nat} {C f0 : Addr} {fd0 : FuncData} (F : Fun K "_law_made" "_law_made" a__law_made f fd) (Hh : C8.Met P w K mg base 7 C "hear" (spHear C) []) (X : HandTxt K C) (M : Mk K C f0) (GI : FnOk P w K mg base CX0 1 f0 fd0 ["self", "thing", "place", "rules"] (spHInit C)) (bI : Binds K fd0 ["self", "thing", "place", "rules"] []) (mgC : mg "Hand" = some (.ref C))  : FnOk P w K mg base CX0 (k + 8) f fd ["_law_case"] (spMade C) := by
  refine F.ok sc__law_made (fun vs H Q E h => ?_) (fun cdv A outer s H vs Q E hr h => ?_)
  · obtain ⟨q0, R, as, zs, h, rfl, _⟩ := h
    rfl
  · obtain ⟨q0, R, as, zs, h, rfl, ca, ok, ws, q⟩ := h
    refine ⟨_, (pss_cons (ps_asg (pv 0) (pg_tup rfl (pgs_cons (pg_name (i := 1) sc__law_made.nd rfl (.inl rfl)) (pgs_cons (pg_name (i := 2) sc__law_made.nd rfl (.inl rfl)) (pgs_cons (pg_name (i := 3) sc__law_made.nd rfl (.inl rfl)) (pgs_cons (pg_name (i := 4) sc__law_made.nd rfl (.inl rfl)) pgs_nil))))))
      (pss_cons (ps_set (i := 5) sc__law_made.nd rfl (.inl rfl) (pe_make M GI (hr.mono (by omega)) (by rfl) mgC bI .nil pass0 (pa_cons (pv 1) (pa_cons (pv 2) (pa_cons (pv 3) pa_nil)))))
      (pss_cons (ps_if (pt_cmpR op_notN (pv 4) pe_non (nomark _)) (pss_one (ps_expr (C8.pe_mt Hh hr (by omega) (pv 5) (pa_cons (pe_tup (pa_cons pe_str (pa_cons (pv 4) pa_nil))) pa_nil)))) pss_nil)
      (pss_one (ps_ret (pv 5)))))), ?_⟩
    obtain ⟨⟨v, e, wv⟩, er, ra⟩ := ca
    refine ⟨_, rfl, q0, _, rfl, .inl (.inl e), rfl, _, _, rfl, _, _, rfl, _, _, rfl, _, _, rfl, rfl, ?_⟩
    dsimp only [List.set]
    refine ⟨_, rfl, _, rfl, _, rfl, fun x dx nx ndx ne => ?_⟩
    have x1 : Same H (upd (upd H dx (.own x)) x (.ins C dx [])) := (same_new ndx).trans (same_new (by rw [upd_ne ne.symm]; exact nx))
    have raX := ra.tk (tk_same x1)
    refine ⟨x, dx, R, h.thing, h.place, h.rows, zs, rfl, upd_same, ⟨as, x1 _ _ er, raX.1, raX.2.1, raX.2.2⟩, ok.nd, by have := ok.l8; omega, fun HC D T kC aH nDT nD nT uD => ⟨rfl, ?_⟩⟩
    have s1 : Same H HC := fun b o e => kC b o (ne_of_none e nx) (x1 b o e)
    have free6 : ∀ b, b ≠ x → b ≠ dx → (upd (upd H dx (.own x)) x (.ins C dx [])) b = none → H b = none := fun b h1 h2 e => by rwa [upd_ne h1, upd_ne h2] at e
    have nDx : D ≠ x := fun z => by rw [z, upd_same] at nD; cases nD
    have nTx : T ≠ x := fun z => by rw [z, upd_same] at nT; cases nT
    have nDd : D ≠ dx := fun z => by rw [z, upd_ne ne, upd_same] at nD; cases nD
    have nTd : T ≠ dx := fun z => by rw [z, upd_ne ne, upd_same] at nT; cases nT
    have hD := free6 _ nDx nDd nD
    have hT := free6 _ nTx nTd nT
    have wC := wv.keep (.same s1)
    clear free6 x1 raX kC nD nT
    dsimp only [gName, List.set]
    obtain ⟨th, pl, wi, rows⟩ := h
    cases wi with
    | none =>
      obtain rfl : v = .non := wv
      exact ⟨_, rfl, rfl, _, rfl, iteFa5 (by simp) ⟨_, rfl, q HC x D T s1 aH nDT uD nx hD hT⟩⟩
    | some wi =>
      obtain ⟨wp, wl⟩ := ws wi rfl
      have wv' := wv
      obtain ⟨W, T2, rfl, _⟩ := wv'
      obtain ⟨dx5, vw5, hs5, i5', _⟩ := id aH
      have i0' : HC x = some (.ins C dx5 [("thing", .int (th : Int)), ("place", .int pl), ("wish", vw5), ("held", .ref D), ("tally", .ref T)]) := i5'
      refine ⟨_, rfl, rfl, _, rfl, iteTr5 (by simp) ⟨.ref x, rfl, x, dx5, _, rfl, i0', lkm, _, rfl, (show 2 ≤ sizeLine by decide), fun W1 nW1 => ?_⟩⟩
      have sW := same_new (o := HO.tup [V.str "word", .ref W]) nW1
      have la : LetAt (upd HC W1 (HO.tup [V.str "word", .ref W])) W1 (("word", [], some wi) : Lt) := ⟨.ref W, upd_same, wC.keep (.same sW)⟩
      have a6 := aH.same sW
      obtain ⟨kvs, ekv⟩ := uD
      have u6 := sW _ _ ekv
      have s6 := s1.trans sW
      generalize upd HC W1 (HO.tup [V.str "word", .ref W]) = H6 at la a6 u6 s6 ⊢
      refine ⟨x, D, T, W1, ⟨th, pl, none, rows⟩, ("word", [], some wi), rfl, a6, nDT, la, ⟨.inr ⟨rfl, rfl, fun w => by cases w⟩, fun y hy => absurd hy List.not_mem_nil, fun w e => by cases e; exact wp⟩, fun w e => by cases e; exact wl, by have l8 : rows.length ≤ 8 := ok.l8; show rows.length ≤ 40; omega, fun H7 ga bH hA7 _ => ?_⟩
      have eh : ((⟨th, pl, none, rows⟩ : Hd).hear ("word", [], some wi)).1 = ⟨th, pl, some wi, rows⟩ := by
        show (⟨th, pl, none, rows⟩ : Hd).hw (some wi) = _
        unfold Hd.hw
        rw [if_pos (show wishN (some wi) > wishN none from wp.1)]
      rw [eh] at hA7
      have s7 : Same H H7 := fun b o e => bH _ _ (ne_of_none e nx) (ne_of_none e hT) (s6 _ _ e)
      exact ⟨_, rfl, q H7 x D T s7 hA7 nDT ⟨_, bH _ _ nDx nDT u6⟩ nx hD hT⟩
end
end K65

set_option Elab.async false
set_option linter.all false
set_option maxRecDepth 100000
namespace K65
open PySem PySem.Spec PyProof.Rows L2 NB

/-! ### letters told, shown; a second stride is none -/
def btD (b : Bt) : PyData := .tuple [.int b.1, ltD b.2]
theorem dp_bts {K : PySem.W.Frag} {H : Hp} : ∀ {as : List Addr} {bs : List Bt}, BtAt H as bs → DpAll K H (as.map V.ref) (bs.map btD)
  | [], [], _ => .nil
  | _ :: _, _ :: _, ⟨⟨l, e, g⟩, c⟩ => .cons (.tup (.inl (.inl e)) (.cons (.int _) (.cons (dp_let g) .nil))) (dp_bts c)
  | [], _ :: _, h => h.elim
  | _ :: _, [], h => h.elim
theorem dp_bat {K : PySem.W.Frag} {H : Hp} {g : Addr} {bs : List Bt} (h : BAt H g bs) : Dp K H (.ref g) (.tuple (bs.map btD)) := by
  obtain ⟨as, e, b⟩ := h
  exact .tup (.inl (.inl e)) (dp_bts b)
theorem Small.wd {a : Str} (h : a = "ask" ∨ a = "leave" ∨ a = "word") : Small (.str a) 150 0 := by
  rcases h with rfl | rfl | rfl <;> exact ⟨rfl, rfl, Nat.le_refl _, by decide +kernel, by decide +kernel⟩
theorem small_wi {o : Option Wi} (h : ∀ w, o = some w → WiP w) : Small (wiD o) 4100 2 := by
  cases o with
  | none => exact ⟨rfl, rfl, Nat.zero_le _, rfl, Nat.zero_le _⟩
  | some w =>
    obtain ⟨h1, h2, _, h4, h5⟩ := h w rfl
    have e : ((10 ^ 30 : Nat) : Int) = 10 ^ 30 := by norm_cast
    have a1 : w.1.natAbs < 10 ^ 90 := Nat.lt_trans (show w.1.natAbs < 10 ^ 30 by omega) (by decide)
    have a2 : ∀ x ∈ w.2, x.natAbs < 10 ^ 90 := fun x hx => by
      obtain ⟨p1, p2⟩ := h5 x hx
      exact Nat.lt_trans (show x.natAbs < 10 ^ 30 by omega) (by decide)
    have c := Small.tuple (SmallAll.cons (Small.int a1) (SmallAll.cons (Small.tuple (SmallAll.ints a2)) .nil))
    exact ⟨c.sh, c.nd, Nat.le_trans c.dp (by decide), c.lv, Nat.le_trans c.wt (by omega)⟩
def LtS (l : Lt) : Prop := (l.1 = "ask" ∨ l.1 = "leave" ∨ l.1 = "word") ∧ l.2.1.length ≤ 2 ∧ (∀ x ∈ l.2.1, x.natAbs < 10 ^ 90) ∧ ∀ w, l.2.2 = some w → WiP w
theorem small_lt {l : Lt} (h : LtS l) : Small (ltD l) 4900 3 := by
  obtain ⟨a, ns, o⟩ := l
  obtain ⟨h1, h2, h3, h4⟩ := h
  match ns, h2, h3 with
  | [], _, _ =>
    have c := Small.tuple (SmallAll.cons (Small.wd h1) (SmallAll.cons (small_wi h4) .nil))
    exact ⟨c.sh, c.nd, Nat.le_trans c.dp (by decide), c.lv, Nat.le_trans c.wt (by omega)⟩
  | [i], _, h3 =>
    have c := Small.tuple (SmallAll.cons (Small.wd h1) (SmallAll.cons (Small.int (h3 i (by simp))) (SmallAll.cons (small_wi h4) .nil)))
    exact ⟨c.sh, c.nd, Nat.le_trans c.dp (by decide), c.lv, Nat.le_trans c.wt (by omega)⟩
  | [i, j], _, h3 =>
    have c := Small.tuple (SmallAll.cons (Small.wd h1) (SmallAll.cons (Small.int (h3 i (by simp))) (SmallAll.cons (Small.int (h3 j (by simp))) (SmallAll.cons (small_wi h4) .nil))))
    exact ⟨c.sh, c.nd, Nat.le_trans c.dp (by decide), c.lv, Nat.le_trans c.wt (by omega)⟩
def BtS (b : Bt) : Prop := b.1.natAbs < 10 ^ 90 ∧ LtS b.2
theorem small_bt {b : Bt} (h : BtS b) : Small (btD b) 5300 4 := by
  have c := Small.tuple (SmallAll.cons (Small.int h.1) (SmallAll.cons (small_lt h.2) .nil))
  exact ⟨c.sh, c.nd, Nat.le_trans c.dp (by decide), c.lv, Nat.le_trans c.wt (by omega)⟩
theorem small_bts : ∀ {bs : List Bt}, (∀ b ∈ bs, BtS b) → SmallAll (bs.map btD) (5301 * bs.length) 4
  | [], _ => ⟨rfl, rfl, Nat.zero_le _, rfl, Nat.le_refl _⟩
  | b :: bs, h => by
    have c := SmallAll.cons (small_bt (h b List.mem_cons_self)) (small_bts fun y hy => h y (List.mem_cons_of_mem _ hy))
    refine ⟨c.sh, c.nd, c.dp, c.lv, Nat.le_trans c.wt ?_⟩
    rw [List.length_cons]
    omega
/-- what a hand tells of itself is small -/
def HdS (h : Hd) : Prop := (∀ r ∈ h.rows, r.1.natAbs < 10 ^ 60 ∧ r.2.2.natAbs < 10 ^ 60 ∧ r.2.1.1.1 ≤ 12 ∧ r.2.1.2.1 ≤ 12) ∧ ∀ w, h.wish = some w → WiP w
theorem look_some {rows : List (Int × Rl × Int)} {n : Int} {z : Rl × Int} (e : look rows n = some z) : (n, z) ∈ rows := by
  unfold look at e
  cases hf : rows.find? fun r => decide (r.1 = n) with
  | none =>
    rw [hf] at e
    cases e
  | some y =>
    rw [hf] at e
    have h2 := List.find?_some hf
    have h3 : y.1 = n := of_decide_eq_true h2
    have h4 : y.2 = z := Option.some.inj e
    have h5 := List.mem_of_find?_eq_some hf
    rw [← h3, ← h4]
    exact h5
theorem othN_bd {h : Hd} (S : HdS h) (n : Int) : 0 ≤ h.othN n ∧ h.othN n ≤ 12 := by
  unfold Hd.othN
  cases e : look h.rows n with
  | none => exact ⟨Int.le_refl _, show (0 : Int) ≤ 12 by decide⟩
  | some z =>
    obtain ⟨_, _, h3, h4⟩ := S.1 _ (look_some e)
    dsimp only at h3 h4 ⊢
    unfold othT
    split <;> omega
theorem cntN_bd {h : Hd} (S : HdS h) (n : Int) : (h.cntN n).natAbs < 10 ^ 60 := by
  unfold Hd.cntN
  cases e : look h.rows n with
  | none => exact (show (0 : Int).natAbs < 10 ^ 60 by decide)
  | some z =>
    obtain ⟨_, h2, _, _⟩ := S.1 _ (look_some e)
    exact h2
theorem strict_len : ∀ (l : List Int) (lo hi : Int), l.Pairwise (· < ·) → (∀ x ∈ l, lo ≤ x ∧ x ≤ hi) → l = [] ∨ (l.length : Int) ≤ hi - lo + 1
  | [], _, _, _, _ => .inl rfl
  | a :: l, lo, hi, p, b => by
    right
    obtain ⟨p1, p2⟩ := List.pairwise_cons.mp p
    obtain ⟨b1, b2⟩ := b a List.mem_cons_self
    rcases strict_len l (a + 1) hi p2 (fun x hx => ⟨by have := p1 x hx; omega, (b x (List.mem_cons_of_mem _ hx)).2⟩) with h | h
    · rw [h]
      show ((0 + 1 : Nat) : Int) ≤ _
      omega
    · rw [List.length_cons]
      omega
theorem BtL.small {h : Hd} {bs : List Bt} (S : HdS h) (b : BtL h bs) : (∀ x ∈ bs, BtS x) ∧ bs.length ≤ h.rows.length + 13 := by
  obtain ⟨ys, yL, b⟩ := b
  have mem : ∀ n ∈ ys, n.natAbs < 10 ^ 60 := fun n hn => by
    obtain ⟨q, c, e, _⟩ := yL.mem hn
    exact (S.1 _ (look_some e)).1
  have up : ∀ {z : Nat}, z < 10 ^ 60 → z < 10 ^ 90 := fun hz => Nat.lt_trans hz (by decide)
  have asks : ∀ x ∈ h.asks ys, BtS x := fun x hx => by
    obtain ⟨n, hn, rfl⟩ := List.mem_map.mp hx
    have o := othN_bd S n
    refine ⟨up (Nat.lt_of_le_of_lt (show (h.othN n).natAbs ≤ 12 by omega) (by decide)), .inl rfl, Nat.le_refl _, fun y hy => ?_, S.2⟩
    rcases List.mem_cons.mp hy with rfl | hy
    · exact up (mem _ hn)
    · rw [List.mem_singleton.mp hy]
      exact up (cntN_bd S n)
  have la : (h.asks ys).length ≤ h.rows.length := by
    unfold Hd.asks
    rw [List.length_map]
    exact yL.len
  rcases b with ⟨_, rfl⟩ | ⟨_, ss, ts, sL, pw, tm, rfl⟩
  · exact ⟨asks, by omega⟩
  · have tb : ∀ k ∈ ts, 0 ≤ k ∧ k ≤ 12 := fun k hk => by
      obtain ⟨n, _, rfl⟩ := List.mem_map.mp ((tm k).mp hk)
      exact othN_bd S n
    refine ⟨fun x hx => ?_, ?_⟩
    · rcases List.mem_append.mp hx with hx | hx
      · exact asks x hx
      · obtain ⟨k, hk, rfl⟩ := List.mem_map.mp hx
        have := tb k hk
        exact ⟨up (Nat.lt_of_le_of_lt (show k.natAbs ≤ 12 by omega) (by decide)), .inr (.inr rfl), Nat.zero_le _, (fun y hy => absurd hy List.not_mem_nil), S.2⟩
    · rw [List.length_append]
      have lw : (h.words ts).length ≤ 13 := by
        unfold Hd.words
        rw [List.length_map]
        rcases strict_len ts 0 12 pw tb with e | e
        · rw [e]; decide
        · omega
      omega
theorem LkL.small {h : Hd} {ys : List Int} (S : HdS h) (b : LkL h ys) : (∀ x ∈ ys, x.natAbs < 10 ^ 90) ∧ ys.length ≤ h.rows.length :=
  ⟨fun n hn => by
    obtain ⟨q, c, e, _⟩ := b.mem hn
    exact Nat.lt_trans (S.1 _ (look_some e)).1 (by decide), b.len⟩
end K65

set_option Elab.async false
set_option linter.all false
set_option maxRecDepth 100000
namespace K65
open PySem PySem.Spec PyProof.Rows L2 NB

/-! ### what is told of a hand -/
theorem SmallAll.le {ds : List PyData} {w n v m : Nat} (h : SmallAll ds w n) (h1 : w ≤ v) (h2 : n ≤ m) : SmallAll ds v m := by
  obtain ⟨a1, a2, a3, a4, a5⟩ := h
  exact ⟨a1, a2, by omega, a4, by omega⟩
theorem Small.le {d : PyData} {w n v m : Nat} (h : Small d w n) (h1 : w ≤ v) (h2 : n ≤ m) : Small d v m := by
  obtain ⟨a1, a2, a3, a4, a5⟩ := h
  exact ⟨a1, a2, by omega, a4, by omega⟩
def cntD (h : Hd) (ns : List Int) : List Int := ns.map h.cntN
def st5 (h : Hd) (ns ys : List Int) (bs : List Bt) : PyData := .list [.int (h.thing : Int), .int h.place, wiD h.wish, .list ((cntD h ns).map PyData.int), .tuple (ys.map PyData.int), .tuple (bs.map btD)]
def ShN (h : Hd) (ns : List Int) : Prop := ∀ n ∈ ns, ∃ rl c, look h.rows n = some (rl, c) ∧ shrd rl = true
/-- what is small of a hand -/
structure Hs (h : Hd) : Prop where
  s : HdS h
  l8 : h.rows.length ≤ 8
  th : h.thing ≤ 12
  pl : h.place.natAbs < 10 ^ 60
  wl : ∀ w, h.wish = some w → h.thing < w.2.length
theorem st_shown {h : Hd} (s : Hs h) {ns ys : List Int} {bs : List Bt} (l8 : ns.length ≤ 8) (y : LkL h ys) (b : BtL h bs) : Showable (st5 h ns ys bs) := by
  obtain ⟨y1, y2⟩ := y.small s.s
  obtain ⟨b1, b2⟩ := b.small s.s
  have c1 : (10 : Nat) ^ 60 < 10 ^ 90 := by decide
  have ht : (h.thing : Int).natAbs < 10 ^ 90 := Nat.lt_of_le_of_lt (show (h.thing : Int).natAbs ≤ 12 from by have := s.th; omega) (by decide)
  have hc : ∀ x ∈ cntD h ns, x.natAbs < 10 ^ 90 := fun x hx => by
    obtain ⟨n, _, rfl⟩ := List.mem_map.mp hx
    exact Nat.lt_trans (cntN_bd s.s n) c1
  have lc : (cntD h ns).length ≤ 8 := by unfold cntD; rw [List.length_map]; exact l8
  have l := s.l8
  have c := Small.list (SmallAll.cons (Small.int ht) (SmallAll.cons (Small.int (Nat.lt_trans s.pl c1)) (SmallAll.cons (small_wi s.s.2) (SmallAll.cons (Small.list (SmallAll.ints hc)) (SmallAll.cons (Small.tuple (SmallAll.ints y1)) (SmallAll.cons (Small.tuple (small_bts b1)) .nil))))))
  exact c.ok (by omega) (by omega)
def spState (C : Addr) : Sp := fun vs H Q _ => ∃ (x D T R : Addr) (h : Hd) (as : List Addr) (rows : List (Int × Rl × Int)) (zs : List (Int × Addr)), vs = [.ref x, .ref R] ∧ HandAt C H x D T h ∧ Hs h ∧ H R = some (.tup (as.map V.ref)) ∧ RlA H as rows zs ∧ rows.length ≤ 8 ∧ ShN h (rows.map (·.1)) ∧ ∀ H' ys bs, Same H H' → LkL h ys → BtL h bs → Q (.str (st5 h (rows.map (·.1)) ys bs).shown) H'
section
variable {P : Program} {w : World} {K : PySem.W.Frag} {mg : Str → Option Value} {base : Heap}
abbrev a__law_state : Stmt := topS 26
abbrev n__law_state : List Str := ["_law_hand", "_law_rows", "_law_counts", "_law_number", "_law_rule", "_law_count"]
theorem sc__law_state : FnScope n__law_state ["_law_hand", "_law_rows"] (defScope a__law_state) := ⟨rfl, rfl, rfl, by decide +kernel, rfl, by decide +kernel, by decide +kernel⟩
set_option maxHeartbeats 8000000 in
theorem ok__law_state {f  : Addr} {fd  : FuncData}  {C : Addr} (F : Fun K "_law_state" "_law_state" a__law_state f fd) (Hc : C8.Met P w K mg base 4 C "count_of" (spCount C) []) (Hl : C8.Met P w K mg base 6 C "lacks" (spLkL C) []) (Hb : C8.Met P w K mg base 7 C "beat" (spBeat C) []) (X : HandTxt K C) (m_repr : mg "repr" = none) : FnG P w K mg base 8 f fd ["_law_hand", "_law_rows"] (spState C) := by
  refine fnG F sc__law_state (fun vs H Q E h => ?_) (fun cdv A outer s H vs Q E hG hr h => ?_)
  · obtain ⟨x, D, T, R0, h, as0, rows, zs, rfl, _⟩ := h
    rfl
  · obtain ⟨x, D, T, R0, h, as0, rows, zs, rfl, ha, sm, eR0, ra0, l8, sn, q⟩ := h
    refine ⟨_, (pss_cons (ps_setLc (i := 2) (own := [("_law_number", 3), ("_law_rule", 4), ("_law_count", 5)]) (g := (gTup K 3 (gCons (gName 3) (gCons (gName 4) (gCons (gName 5) gNil))))) (tt := tYes) (te := (tMeth C "count_of" (spCount C) [] E0 (tVar 0) (tCons (tVar 3) tNil))) rfl sc__law_state.nd rfl rfl (sw_true rfl rfl rfl (by decide +kernel)) (pi_tup (pv 1)) (blkOk_by (N := n__law_state) (sc := defScope a__law_state) (by decide +kernel))
          (fun _ _ _ _ _ => (pg_tup rfl (pgs_cons (pg_name (i := 3) sc__law_state.nd rfl (.inl rfl) (hf := .inr rfl)) (pgs_cons (pg_name (i := 4) sc__law_state.nd rfl (.inl rfl) (hf := .inr rfl)) (pgs_cons (pg_name (i := 5) sc__law_state.nd rfl (.inl rfl) (hf := .inr rfl)) pgs_nil))))) (fun _ _ _ _ _ => pts_nil) (fun _ _ _ _ _ => (C8.pe_mt Hc hr (by omega) (pv 0) (pa_cons (pv 3) pa_nil))))
      (pss_one (ps_ret (pe_callB (call_reprD hG hr.units) (by rfl) m_repr (by decide +kernel) (pa_cons (pe_lst (pa_cons (pe_fld (pv 0) rfl) (pa_cons (pe_fld (pv 0) rfl) (pa_cons (pe_fld (pv 0) rfl) (pa_cons (pv 2) (pa_cons (C8.pe_mt0 Hl hr (by omega) (pv 0)) (pa_cons (C8.pe_mt0 Hb hr (by omega) (pv 0)) pa_nil))))))) pa_nil))))), ?_⟩
    obtain ⟨dx, v, hs, i0, wv, _⟩ := id ha
    have i0' : H x = some (.ins C dx [("thing", .int (h.thing : Int)), ("place", .int h.place), ("wish", v), ("held", .ref D), ("tally", .ref T)]) := i0
    have l40 : h.rows.length ≤ 40 := by have := sm.l8; omega
    refine ⟨_, rfl, R0, rfl, ⟨_, .inl (.inl eR0)⟩, fun R nR => lc_it (walk_tup (xs := as0.map V.ref)) (fun j H' => Same H H' ∧ H' R = some (.lst ((cntD h ((rows.map (·.1)).take j)).map V.int))) ⟨same_new nR, upd_same⟩ (fun j H' _ y => .inl (.inl (y.1 _ _ eR0))) (fun j u H1' H1 hj y z => ?_) (fun H1 y => ?_)⟩
    · obtain ⟨s1, eR⟩ := y
      obtain ⟨rfl, gv⟩ := z
      obtain ⟨ad, ea, rfl⟩ := mapGet gv
      have lenA := ra0.1
      have lenZ := ra0.2.1
      have hia := (List.getElem?_eq_some_iff.mp ea).1
      obtain ⟨r, er⟩ : ∃ r, rows[j]? = some r := ⟨_, List.getElem?_eq_getElem (by omega)⟩
      obtain ⟨z, ez⟩ : ∃ z, zs[j]? = some z := ⟨_, List.getElem?_eq_getElem (by omega)⟩
      obtain ⟨_, f1, _⟩ := ra0.2.2 j ad r z ea er ez
      have en : (rows.map (·.1))[j]? = some r.1 := by rw [List.getElem?_map, er]; rfl
      obtain ⟨rl, c, e, sh⟩ := sn r.1 (List.mem_of_getElem? en)
      have ec : h.cntN r.1 = c := by unfold Hd.cntN; rw [e]
      refine ⟨ad, _, rfl, .inl (.inl (s1 _ _ f1)), rfl, _, _, rfl, _, _, rfl, _, _, rfl, rfl, rfl, .ref x, rfl, x, dx, _, rfl, s1 _ _ i0', lkm, .int r.1, rfl, x, D, T, h, r.1, rl, c, rfl, ha.same s1, e, sh, fun H2 s2 => ?_⟩
      refine ⟨_, s2 _ _ eR, ?_, same_over (s1.trans s2) nR, ?_⟩
      · unfold cntD
        rw [List.length_map, List.length_map, List.length_take]
        exact small1000 (by omega)
      · rw [upd_same, List.take_add_one, en]
        unfold cntD
        rw [List.map_append, List.map_append, ← ec]
        rfl
    · obtain ⟨s1, eR⟩ := y
      have tk : (rows.map (·.1)).take (as0.map V.ref).length = rows.map (·.1) := List.take_of_length_le (by rw [List.length_map, List.length_map, ra0.1]; exact Nat.le_refl _)
      rw [tk] at eR
      dsimp only [List.set]
      refine ⟨.ref x, rfl, x, C, dx, _, _, rfl, s1 _ _ i0', X.cl, X.n1, lk1, .ref x, rfl, x, C, dx, _, _, rfl, s1 _ _ i0', X.cl, X.n2, lk2, .ref x, rfl, x, C, dx, _, _, rfl, s1 _ _ i0', X.cl, X.n3, lk3, ?_⟩
      refine ⟨_, rfl, .ref x, rfl, x, dx, _, rfl, s1 _ _ i0', lkm, x, D, T, h, rfl, ha.same s1, l40, sm.wl, fun H2 Y ys s2 eY yL => ⟨.ref x, rfl, x, dx, _, rfl, (s1.trans s2) _ _ i0', lkm, x, D, T, h, rfl, ha.same (s1.trans s2), l40, sm.wl, fun H3 B bs s3 bA bL => ⟨(show 6 ≤ sizeLine by decide), fun W nW => ?_⟩⟩⟩
      have sW := same_new (o := HO.lst [V.int (h.thing : Int), .int h.place, v, .ref R, .ref Y, .ref B]) nW
      have s4 := (s2.trans s3).trans sW
      have dInts : ∀ {H' : Hp} (ms : List Int), DpAll K H' (ms.map V.int) (ms.map PyData.int) := fun {H'} ms => by
        induction ms with
        | nil => exact .nil
        | cons n ms ih => exact .cons (.int _) ih
      have dp : Dp K (upd H3 W (HO.lst [V.int (h.thing : Int), .int h.place, v, .ref R, .ref Y, .ref B])) (.ref W) (st5 h (rows.map (·.1)) ys bs) := .lst (.inl (.inl upd_same)) (.cons (.int _) (.cons (.int _) (.cons (dp_wish (wv.keep (.same (s1.trans s4)))) (.cons (.lst (.inl (.inl (s4 _ _ eR))) (dInts _)) (.cons (dp_tup (.inl (.inl ((s3.trans sW) _ _ eY)))) (.cons (dp_bat (bA.tk (tk_same sW))) .nil))))))
      exact ⟨W, _, rfl, dp, st_shown sm (by rw [List.length_map]; exact l8) yL bL, q _ ys bs (s1.trans s4) yL bL⟩
end
end K65

set_option Elab.async false
set_option linter.all false
set_option maxRecDepth 100000
namespace K65
open PySem PySem.Spec PyProof.Rows L2 NB

/-! ### letters, drawn -/
def LtsA (H : Hp) (as : List Addr) (ls : List Lt) : Prop := as.length = ls.length ∧ ∀ (i : Nat) (a : Addr) (l : Lt), as[i]? = some a → ls[i]? = some l → LetAt H a l
theorem LtsA.tk {H H' : Hp} {as : List Addr} {ls : List Lt} (h : LtsA H as ls) (k : TupK H H') : LtsA H' as ls := ⟨h.1, fun i a l x y => (h.2 i a l x y).tk k⟩
theorem LtsA.snoc {H : Hp} {as : List Addr} {ls : List Lt} (h : LtsA H as ls) {a : Addr} {l : Lt} (e : LetAt H a l) : LtsA H (as ++ [a]) (ls ++ [l]) := by
  obtain ⟨l1, f⟩ := h
  refine ⟨by rw [List.length_append, List.length_append, l1]; rfl, fun i b m x y => ?_⟩
  by_cases hi : i < as.length
  · rw [List.getElem?_append_left hi] at x
    rw [List.getElem?_append_left (by omega)] at y
    exact f i b m x y
  · have hl := (List.getElem?_eq_some_iff.mp x).1
    rw [List.length_append, List.length_singleton] at hl
    have hi2 : i = as.length := by omega
    rw [hi2, List.getElem?_append_right (Nat.le_refl _), Nat.sub_self] at x
    rw [hi2, l1, List.getElem?_append_right (Nat.le_refl _), Nat.sub_self] at y
    cases x
    cases y
    exact e
theorem LtsA.nil {H : Hp} : LtsA H [] [] := ⟨rfl, fun _ _ _ x => by cases x⟩
theorem tAnd_of {c1 c2 : TT} {b1 b2 : Bool} {σ : L2.St} {H : Hp} {Q : Bool → Hp → Prop} (h1 : ∀ R : Bool → Hp → Prop, R b1 H → c1 σ H R) (h2 : ∀ R : Bool → Hp → Prop, R b2 H → c2 σ H R) (q : Q (b1 && b2) H) : tAnd c1 c2 σ H Q := by
  refine h1 _ ?_
  cases b1 with
  | true => exact h2 _ q
  | false => exact q
theorem wne_a : ("word" : Str) ≠ "ask" := by decide +kernel
theorem lne_a : ("leave" : Str) ≠ "ask" := by decide +kernel
def wordsOf (asky : Bool) : List Str := if asky = true then ["ask", "ask", "leave", "word"] else ["leave", "word"]
def WshA (H : Hp) (ws : List (V × Option Wi)) : Prop := ∀ z ∈ ws, WV H z.1 z.2 ∧ ∀ w, z.2 = some w → WiP w
theorem WshA.tk {H H' : Hp} {ws : List (V × Option Wi)} (h : WshA H ws) (k : TupK H H') : WshA H' ws := fun z hz => ⟨(h z hz).1.tk k, (h z hz).2⟩
def spLs : Sp := fun vs H Q _ => ∃ (p WL WD : Addr) (ws : List (V × Option Wi)) (asky : Bool) (c : Nat), vs = [.ref p, .ref WL, .ref WD] ∧ PotAt H p c ∧ c < 600000 ∧ H WL = some (.lst (ws.map (·.1))) ∧ WshA H ws ∧ 1 ≤ ws.length ∧ ws.length ≤ 10 ∧ H WD = some (.lst ((wordsOf asky).map V.str)) ∧ WL ≠ p ∧ WD ≠ p ∧
  ∀ H' F as ls, But p H H' → PotAt H' p (c + 40) → H' F = some (.lst (as.map V.ref)) → LtsA H' as ls → ls.length ≤ 6 → (∀ l ∈ ls, LetP l ∧ l.2.2 ∈ ws.map (·.2) ∧ (asky = false → l.1 ≠ "ask")) → F ≠ p → H F = none → Q (.ref F) H'
section
variable {P : Program} {w : World} {K : PySem.W.Frag} {mg : Str → Option Value} {base : Heap}
abbrev a__law_letters : Stmt := topS 27
abbrev n__law_letters : List Str := ["_law_pot_here", "_law_wishes", "_law_words", "_law_found", "_law_turn", "_law_word", "_law_wish", "_law_number", "_law_count"]
theorem sc__law_letters : FnScope n__law_letters ["_law_pot_here", "_law_wishes", "_law_words"] (defScope a__law_letters) := ⟨rfl, rfl, rfl, by decide +kernel, rfl, by decide +kernel, by decide +kernel⟩
set_option maxHeartbeats 8000000 in
theorem ok__law_letters {f fTk fOf : Addr} {fd fdTk fdOf : FuncData} {k : Nat}  (F : Fun K "_law_letters" "_law_letters" a__law_letters f fd) (Tk : Kn P w K mg base 1 "_law_take" ["_law_pot_here", "_law_many"] spTake fTk fdTk) (Of : Kn P w K mg base 2 "_law_of" ["_law_pot_here", "_law_some"] (spOf K) fOf fdOf)  (m_range : mg "range" = none) : FnOk P w K mg base CX0 (k + 3) f fd ["_law_pot_here", "_law_wishes", "_law_words"] spLs := by
  refine F.ok sc__law_letters (fun vs H Q E h => ?_) (fun cdv A outer s H vs Q E hr h => ?_)
  · obtain ⟨p, WL, WD, ws, asky, c, rfl, _⟩ := h
    rfl
  · obtain ⟨p, WL, WD, ws, asky, c, rfl, pp, hc, eW, wsA, w1, w10, eD, nWp, nDp, q⟩ := h
    refine ⟨_, (pss_cons (ps_set (i := 3) sc__law_letters.nd rfl (.inl rfl) (pe_lst pa_nil))
      (pss_cons (ps_for PassesOwn.never rfl (pi_range1 (by rfl) m_range (pa_cons (pe_op op_add pe_int (pe_kn Tk hr (by omega) (pa_cons (pv 0) (pa_cons pe_int pa_nil)))) pa_nil)) (pg_name (i := 4) sc__law_letters.nd rfl (.inl rfl))
        (pss_cons (ps_par (i := 5) (j := 6) (by rfl) sc__law_letters.nd rfl rfl (by decide) rfl rfl (pa_cons (pe_kn Of hr (by omega) (pa_cons (pv 0) (pa_cons (pv 2) pa_nil))) (pa_cons (pe_kn Of hr (by omega) (pa_cons (pv 0) (pa_cons (pv 1) pa_nil))) pa_nil)) (by rfl))
      (pss_cons (ps_par (i := 7) (j := 8) (by rfl) sc__law_letters.nd rfl rfl (by decide) rfl rfl (pa_cons (pe_kn Tk hr (by omega) (pa_cons (pv 0) (pa_cons pe_int pa_nil))) (pa_cons (pe_kn Tk hr (by omega) (pa_cons (pv 0) (pa_cons pe_int pa_nil))) pa_nil)) (by rfl))
      (pss_one (ps_if (PW.pt (pw_and (pt_cmpR op_eq (pv 5) pe_str (nomark _)) (pw_and1 (pt_cmpR op_notN (pv 6) pe_non (nomark _))))) (pss_one (ps_expr (pe_bm PySem.F.plainAttrs_list PySem.F.slot_list_append PySem.F.type_list_append mt_append (pv 3) (pa_cons (pe_tup (pa_cons (pv 5) (pa_cons (pv 6) pa_nil))) pa_nil)))) (pss_one (ps_expr (pe_bm PySem.F.plainAttrs_list PySem.F.slot_list_append PySem.F.type_list_append mt_append (pv 3) (pa_cons (pe_tup (pa_cons (pe_ifExp (pt_cmpR op_in_seq pe_str (pv 2) (by rfl)) (pe_kn Of hr (by omega) (pa_cons (pv 0) (pa_cons (pe_lst (pa_cons pe_str (pa_cons pe_str pa_nil))) pa_nil))) pe_str) (pa_cons (pv 7) (pa_cons (pv 8) (pa_cons (pv 6) pa_nil))))) pa_nil)))))))))
      (pss_one (ps_ret (pv 3))))), ?_⟩
    refine ⟨(show 0 ≤ sizeLine by decide), fun F nF => ?_⟩
    have nFp := pp.ne nF
    have sF := same_new (o := HO.lst []) nF
    have eF : (upd H F (HO.lst [])) F = some (.lst (([] : List Addr).map V.ref)) := upd_same
    have p1 := pp.keep sF
    have eW1 := sF _ _ eW
    have eD1 := sF _ _ eD
    generalize upd H F (HO.lst []) = H1 at sF eF p1 eW1 eD1 ⊢
    dsimp only [List.set]
    have nFW : F ≠ WL := fun z => by rw [z, eW] at nF; cases nF
    have nFD : F ≠ WD := fun z => by rw [z, eD] at nF; cases nF
    refine ⟨.ref p, rfl, p, 6, c, rfl, p1, by decide, by decide, by omega, fun m H2 b2 p2 m0 m1 => ⟨1, m, rfl, rfl, ?_⟩⟩
    have eF2 := b2 _ _ nFp eF
    have b02 : But p H H2 := (But.of sF).trans b2
    refine ⟨_, rfl, by omega, by omega, for_it walk_range (fun j σ H' => (∃ u4 u5 u6 u7 u8 : Option V, σ = [some (.ref p), some (.ref WL), some (.ref WD), some (.ref F), u4, u5, u6, u7, u8]) ∧ But p H H' ∧ PotAt H' p (c + 1 + 5 * j) ∧
      ∃ as ls, H' F = some (.lst (as.map V.ref)) ∧ LtsA H' as ls ∧ ls.length = j ∧ ∀ l ∈ ls, LetP l ∧ l.2.2 ∈ ws.map (·.2) ∧ (asky = false → l.1 ≠ "ask"))
      ⟨⟨_, _, _, _, _, rfl⟩, b02, p2, [], [], eF2, .nil, rfl, fun _ h => absurd h List.not_mem_nil⟩ (fun _ _ _ _ _ => trivial) (fun j v σ H3 H3' hj y z => ?_) (fun σ H3 y => ?_)⟩
    · obtain ⟨⟨u4, u5, u6, u7, u8, rfl⟩, b3, p3, as, ls, eF3, la, lj, ok⟩ := y
      obtain ⟨rfl, rfl⟩ := z
      have j6 : j < 6 := by omega
      have eD3 := b3 _ _ nDp eD
      have eW3 := b3 _ _ nWp eW
      have wlen : 1 ≤ (wordsOf asky).length ∧ (wordsOf asky).length ≤ 4 := by cases asky <;> decide
      dsimp only [gName, List.set]
      refine ⟨.ref p, rfl, .ref WD, rfl, p, WD, (wordsOf asky).map V.str, _, rfl, p3, nDp, .inl (.inl (.inl eD3)), by rw [List.length_map]; omega, by rw [List.length_map]; omega, by omega, fun u H4 hu b4 p4 => ?_⟩
      obtain ⟨a, ha, rfl⟩ := List.mem_map.mp hu
      have eW4 := b4 _ _ nWp eW3
      have ws4 := wsA.tk (tk_but pp (b3.trans b4))
      refine ⟨.ref p, rfl, .ref WL, rfl, p, WL, ws.map (·.1), _, rfl, p4, nWp, .inl (.inl (.inl eW4)), by rw [List.length_map]; omega, by rw [List.length_map]; omega, by omega, fun u H5 hu b5 p5 => ⟨_, _, rfl, ?_⟩⟩
      obtain ⟨z, hz, rfl⟩ := List.mem_map.mp hu
      have wv5 := (ws4 z hz).1.tk (tk_but p4 b5)
      have wp := (ws4 z hz).2
      dsimp only [List.set]
      refine ⟨.ref p, rfl, p, 9, _, rfl, p5, by decide, by decide, by omega, fun n H6 b6 p6 n0 n1 => ⟨.ref p, rfl, p, 8, _, rfl, p6, by decide, by decide, by omega, fun k H7 b7 p7 k0 k1 => ⟨_, _, rfl, ?_⟩⟩⟩
      have b37 : But p H3' H7 := ((b4.trans b5).trans b6).trans b7
      have eF7 := b37 _ _ nFp eF3
      have eD7 := b37 _ _ nDp eD3
      have la7 := la.tk (tk_but p3 b37)
      have wv7 := wv5.tk (tk_but p5 (b6.trans b7))
      have mz : z.2 ∈ ws.map (·.2) := List.mem_map.mpr ⟨z, hz, rfl⟩
      have b07 := b3.trans b37
      clear b4 b5 b6 b7 p3 p4 p5 p6 eW3 eW4 eD3 ws4 wv5 hu b37 eF3 la
      -- a letter at T3 in HT ends the turn
      have fin : ∀ (HB : Hp) (T3 : Addr) (l : Lt), But p H7 HB → PotAt HB p (c + 1 + 5 * j + 5) → LetAt HB T3 l → LetP l → l.2.2 ∈ ws.map (·.2) → (asky = false → l.1 ≠ "ask") →
          HB F = some (.lst (as.map V.ref)) ∧ (as.map V.ref).length < sizeLine ∧ But p H (upd HB F (.lst (as.map V.ref ++ [.ref T3]))) ∧ PotAt (upd HB F (.lst (as.map V.ref ++ [.ref T3]))) p (c + 1 + 5 * (j + 1)) ∧
          ∃ as' ls', (upd HB F (.lst (as.map V.ref ++ [.ref T3]))) F = some (.lst (as'.map V.ref)) ∧ LtsA (upd HB F (.lst (as.map V.ref ++ [.ref T3]))) as' ls' ∧ ls'.length = j + 1 ∧ ∀ l ∈ ls', LetP l ∧ l.2.2 ∈ ws.map (·.2) ∧ (asky = false → l.1 ≠ "ask") := fun HB T3 l bB pB eT lp lw la' => by
        have eFB := bB _ _ nFp eF7
        have kF := tk_lst (ys := as.map V.ref ++ [.ref T3]) eFB
        refine ⟨eFB, by rw [List.length_map, la7.1]; exact small1000 (by omega), fun b o n1 e => ?_, (pot_upd pB nFp).mono (by omega), as ++ [T3], ls ++ [l], by rw [upd_same, List.map_append]; rfl, ((la7.tk (tk_but p7 bB)).tk kF).snoc (eT.tk kF), by rw [List.length_append, lj]; rfl, fun y hy => ?_⟩
        · rw [upd_ne (fun w => by rw [w, nF] at e; cases e)]
          exact bB _ _ n1 (b07 _ _ n1 e)
        · rcases List.mem_append.mp hy with h | h
          · exact ok y h
          · rw [List.mem_singleton.mp h]
            exact ⟨lp, lw, la'⟩
      dsimp only [List.set]
      refine tAnd_of (b1 := decide (a = "word")) (b2 := z.2.isSome) (fun R h => ⟨_, rfl, rfl, _, rfl, by rw [dstr]; exact h⟩) (fun R h => ⟨_, rfl, rfl, _, rfl, ?_⟩) ?_
      · obtain ⟨zv, zo⟩ := z
        cases zo with
        | none =>
          obtain rfl : zv = .non := wv7
          rw [decide_eq_true rfl]
          exact h
        | some w0 =>
          obtain ⟨W, T2, e1, _⟩ := wv7
          have e1' : zv = .ref W := e1
          subst e1'
          rw [decide_eq_false (fun w => by cases w)]
          exact h
      · cases hb : (decide (a = "word") && z.2.isSome) with
        | true =>
          obtain ⟨h1, h2⟩ := Bool.and_eq_true_iff.mp hb
          have haw := of_decide_eq_true h1
          subst haw
          refine iteTr5 rfl ⟨_, rfl, .inl ⟨rfl, _, .inl (.inl eF7)⟩, _, rfl, _, rfl, (show 2 ≤ sizeLine by decide), fun T3 nT3 => ?_⟩
          have s3 := same_new (o := HO.tup [V.str "word", z.1]) nT3
          have eT : LetAt (upd H7 T3 (HO.tup [V.str "word", z.1])) T3 (("word", [], z.2) : Lt) := ⟨z.1, upd_same, wv7.keep (.same s3)⟩
          obtain ⟨q1, q2, q3, q4, q5⟩ := fin _ T3 _ (.of s3) ((p7.keep s3).mono (by omega)) eT ⟨.inr ⟨rfl, rfl, fun w => by rw [w] at h2; cases h2⟩, fun y hy => absurd hy List.not_mem_nil, wp⟩ mz (fun _ => wne_a)
          exact ⟨F, _, _, rfl, rfl, q1, q2, ⟨_, _, _, _, _, rfl⟩, q3, q4, q5⟩
        | false =>
          have plk : Pl [n, k] := fun y hy => by
            rcases List.mem_cons.mp hy with rfl | hy
            · exact ⟨n0, Int.lt_of_lt_of_le n1 (by decide)⟩
            · rw [List.mem_singleton.mp hy]
              exact ⟨k0, Int.lt_of_lt_of_le k1 (by decide)⟩
          have lpo : ∀ a' : Str, a' = "ask" ∨ a' = "leave" → LetP (a', [n, k], z.2) := fun a' ha' => ⟨.inl ⟨ha', rfl⟩, plk, wp⟩
          refine iteFa5 rfl ⟨_, rfl, .inl ⟨rfl, _, .inl (.inl eF7)⟩, ?_⟩
          refine ⟨_, rfl, WD, (wordsOf asky).map V.str, rfl, .inl (.inl (.inl eD7)), rfl, by cases asky <;> decide, _, rfl, ?_⟩
          cases asky with
          | true =>
            refine iteTr5 (by decide +kernel) ⟨.ref p, rfl, (show 2 ≤ sizeLine by decide), fun M nM => ?_⟩
            have sM := same_new (o := HO.lst [V.str "leave", .str "ask"]) nM
            refine ⟨p, M, [V.str "leave", .str "ask"], _, rfl, p7.keep sM, p7.ne nM, .inl (.inl (.inl upd_same)), (show 1 ≤ 2 by decide), (show 2 ≤ 1000000 by decide), by omega, fun u H8 hu b8 p8 => ?_⟩
            obtain ⟨a', rfl, ha'⟩ : ∃ a' : Str, u = .str a' ∧ (a' = "ask" ∨ a' = "leave") := by
              rcases List.mem_cons.mp hu with h | h
              · exact ⟨_, h, .inr rfl⟩
              · exact ⟨_, List.mem_singleton.mp h, .inl rfl⟩
            have b78 : But p H7 H8 := (But.of sM).trans b8
            have wv8 := wv7.tk (tk_but p7 b78)
            refine ⟨_, rfl, _, rfl, _, rfl, (show 4 ≤ sizeLine by decide), fun T3 nT3 => ?_⟩
            have s3 := same_new (o := HO.tup [V.str a', .int n, .int k, z.1]) nT3
            have eT : LetAt (upd H8 T3 (HO.tup [V.str a', .int n, .int k, z.1])) T3 ((a', [n, k], z.2) : Lt) := ⟨z.1, upd_same, wv8.keep (.same s3)⟩
            obtain ⟨q1, q2, q3, q4, q5⟩ := fin _ T3 _ (b78.trans (.of s3)) ((p8.keep s3).mono (by omega)) eT (lpo a' ha') mz (fun w => by cases w)
            exact ⟨F, _, _, rfl, rfl, q1, q2, ⟨_, _, _, _, _, rfl⟩, q3, q4, q5⟩
          | false =>
            refine iteFa5 (by decide +kernel) ⟨_, rfl, _, rfl, _, rfl, (show 4 ≤ sizeLine by decide), fun T3 nT3 => ?_⟩
            have s3 := same_new (o := HO.tup [V.str "leave", .int n, .int k, z.1]) nT3
            have eT : LetAt (upd H7 T3 (HO.tup [V.str "leave", .int n, .int k, z.1])) T3 (("leave", [n, k], z.2) : Lt) := ⟨z.1, upd_same, wv7.keep (.same s3)⟩
            obtain ⟨q1, q2, q3, q4, q5⟩ := fin _ T3 _ (.of s3) ((p7.keep s3).mono (by omega)) eT (lpo _ (.inr rfl)) mz (fun _ => lne_a)
            exact ⟨F, _, _, rfl, rfl, q1, q2, ⟨_, _, _, _, _, rfl⟩, q3, q4, q5⟩
    · obtain ⟨⟨u4, u5, u6, u7, u8, rfl⟩, b3, p3, as, ls, eF3, la, lj, ok⟩ := y
      exact ⟨_, rfl, q H3 F as ls b3 (p3.mono (by omega)) eF3 la (by omega) ok nFp nF⟩
end
end K65

set_option Elab.async false
set_option linter.all false
set_option maxRecDepth 100000
set_option maxHeartbeats 1000000
/-! xs == [], xs != [], xs any list -/
namespace NB
open PySem PySem.Sem PySem.Builtin PyProof.Rows L2
variable {X : Cx}
theorem op_eq0L (hu : X.A.units < cLine) : OpR X (compareOp .Eq) (fun x y H Q => ∃ a b xs, x = .ref a ∧ y = .ref b ∧ SqL X.K H a xs ∧ SqL X.K H b [] ∧ Q (.bl xs.isEmpty) H) := by
  intro pins s σ H x y v u Q I rx ry h
  obtain ⟨a, b, xs, rfl, rfl, ha, hb, q⟩ := h
  cases rx
  cases ry
  obtain ⟨i1, r1, p1, _⟩ := I.list ha
  obtain ⟨i2, r2, p2, _⟩ := I.list hb
  cases r2
  cases xs with
  | nil =>
    cases r1
    refine SeqAt.eq_listAt (e := fun _ => true) p1.isList p2.isList rfl hu (fun j h1 h2 => absurd h2 (by simp)) ?_
    exact ⟨.bl true, H, I, rfl, q⟩
  | cons z zs =>
    cases r1
    refine SeqAt.eq_list_lengthsAt p1.isList p2.isList (by simp) hu ?_
    exact ⟨.bl false, H, I, rfl, q⟩
theorem op_ne0L (hu : X.A.units < cLine) : OpR X (compareOp .NotEq) (fun x y H Q => ∃ a b xs, x = .ref a ∧ y = .ref b ∧ SqL X.K H a xs ∧ SqL X.K H b [] ∧ Q (.bl (!xs.isEmpty)) H) := by
  intro pins s σ H x y v u Q I rx ry h
  obtain ⟨a, b, xs, rfl, rfl, ha, hb, q⟩ := h
  cases rx
  cases ry
  obtain ⟨i1, r1, p1, _⟩ := I.list ha
  obtain ⟨i2, r2, p2, _⟩ := I.list hb
  cases r2
  cases xs with
  | nil =>
    cases r1
    refine SeqAt.RcNeAt.lists (e := fun _ => true) p1.isList p2.isList rfl hu (fun j h1 h2 => absurd h2 (by simp)) X.prog X.w X.xe _ ?_
    exact ⟨.bl false, H, I, rfl, q⟩
  | cons z zs =>
    cases r1
    refine SeqAt.RcNeAt.lists_lengths p1.isList p2.isList (by simp) hu X.prog X.w X.xe _ ?_
    exact ⟨.bl true, H, I, rfl, q⟩
end NB

set_option Elab.async false
set_option linter.all false
set_option maxRecDepth 100000
namespace K65
open PySem PySem.Spec PyProof.Rows L2 NB

/-! ### letters in another order, some twice -/
def rfs (L : List (Addr × Lt)) : List V := L.map fun z => V.ref z.1
theorem zipL {H : Hp} : ∀ {as : List Addr} {ls : List Lt}, LtsA H as ls → ∃ L : List (Addr × Lt), as = L.map (·.1) ∧ ls = L.map (·.2) ∧ ∀ z ∈ L, LetAt H z.1 z.2
  | [], [], _ => ⟨[], rfl, rfl, fun _ h => absurd h List.not_mem_nil⟩
  | a :: as, l :: ls, ⟨e, f⟩ => by
    obtain ⟨L, h1, h2, h3⟩ := zipL (as := as) (ls := ls) ⟨Nat.succ.inj e, fun i b m x y => f (i + 1) b m x y⟩
    refine ⟨(a, l) :: L, by rw [h1]; rfl, by rw [h2]; rfl, fun z hz => ?_⟩
    rcases List.mem_cons.mp hz with rfl | hz
    · exact f 0 a l rfl rfl
    · exact h3 z hz
  | [], _ :: _, ⟨e, _⟩ => by cases e
  | _ :: _, [], ⟨e, _⟩ => by cases e
def szL (H : Hp) (S : Addr) : Nat := match H S with
  | some (.lst xs) => xs.length
  | _ => 0
theorem szL_of {H : Hp} {S : Addr} {xs : List V} (e : H S = some (.lst xs)) : szL H S = xs.length := by
  unfold szL
  rw [e]
theorem seq_ix5 {i : Int} {n : Nat} (h0 : 0 ≤ i) (h1 : i < n) : seqIndex? i n = some i.toNat := by
  unfold seqIndex?
  simp only [if_neg (show ¬ i < 0 by omega)]
  rw [if_pos (by simp; omega)]
def spShf : Sp := fun vs H Q _ => ∃ (p A : Addr) (L : List (Addr × Lt)) (c : Nat), vs = [.ref p, .ref A] ∧ PotAt H p c ∧ c < 600000 ∧ H A = some (.lst (rfs L)) ∧ A ≠ p ∧ L.length ≤ 8 ∧
  ∀ H' F M, But p H H' → PotAt H' p (c + 16) → H' F = some (.lst (rfs M)) → (∀ z, z ∈ M ↔ z ∈ L) → M.length ≤ 16 → F ≠ p → H F = none → Q (.ref F) H'
section
variable {P : Program} {w : World} {K : PySem.W.Frag} {mg : Str → Option Value} {base : Heap}
abbrev a__law_shuffled : Stmt := topS 28
abbrev n__law_shuffled : List Str := ["_law_pot_here", "_law_letters_here", "_law_left", "_law_found", "_law_letter"]
theorem sc__law_shuffled : FnScope n__law_shuffled ["_law_pot_here", "_law_letters_here"] (defScope a__law_shuffled) := ⟨rfl, rfl, rfl, by decide +kernel, rfl, by decide +kernel, by decide +kernel⟩
set_option maxHeartbeats 8000000 in
theorem ok__law_shuffled {f fTk : Addr} {fd fdTk : FuncData} {k : Nat}  (F : Fun K "_law_shuffled" "_law_shuffled" a__law_shuffled f fd) (Tk : Kn P w K mg base 1 "_law_take" ["_law_pot_here", "_law_many"] spTake fTk fdTk)  (m_int : mg "int" = none) (m_len : mg "len" = none) (m_list : mg "list" = none) : FnOk P w K mg base CX0 (k + 3) f fd ["_law_pot_here", "_law_letters_here"] spShf := by
  refine F.ok sc__law_shuffled (fun vs H Q E h => ?_) (fun cdv A outer s H vs Q E hr h => ?_)
  · obtain ⟨p, A, L, c, rfl, _⟩ := h
    rfl
  · obtain ⟨p, A, L, c, rfl, pp, hc, eA, nAp, l8, q⟩ := h
    refine ⟨_, (pss_cons (ps_par (i := 2) (j := 3) (by rfl) sc__law_shuffled.nd rfl rfl (by decide) rfl rfl (pa_cons (pe_callTy call_list_of (by rfl) m_list (by decide +kernel) (pa_cons (pv 1) pa_nil)) (pa_cons (pe_lst pa_nil) pa_nil)) (by rfl))
      (pss_cons (ps_while PassesOwn.never (pt_cmpR (op_ne0L hr.units0) (pv 2) (pe_lst pa_nil) (nomark _))
        (pss_cons (ps_set (i := 4) sc__law_shuffled.nd rfl (.inl rfl) (pe_bm PySem.F.plainAttrs_list PySem.F.slot_list_pop PySem.F.type_list_pop mt_popAt (pv 2) (pa_cons (pe_kn Tk hr (by omega) (pa_cons (pv 0) (pa_cons (pe_callB call_len_seq (by rfl) m_len (by decide +kernel) (pa_cons (pv 2) pa_nil)) pa_nil))) pa_nil)))
      (pss_one (ps_expr (pe_bm PySem.F.plainAttrs_list PySem.F.slot_list_extend PySem.F.type_list_extend mt_extend (pv 3) (pa_cons (pe_op op_rep (pe_lst (pa_cons (pv 4) pa_nil)) (pe_op op_add pe_int (pe_callTy call_int1 (by rfl) m_int (by decide +kernel) (pa_cons (pe_cmpR op_eq (pe_kn Tk hr (by omega) (pa_cons (pv 0) (pa_cons pe_int pa_nil))) pe_int (nomark _)) pa_nil)))) pa_nil))))))
      (pss_one (ps_ret (pv 3))))), ?_⟩
    have lrf : ∀ M : List (Addr × Lt), (rfs M).length = M.length := fun M => List.length_map _
    refine ⟨.ref A, rfl, A, rfs L, rfl, .inl (.inl (.inl eA)), fun S nS => ⟨(show 0 ≤ sizeLine by decide), fun F nF => ⟨_, _, rfl, ?_⟩⟩⟩
    have s1 := same_new (o := HO.lst (rfs L)) nS
    have eS : (upd H S (HO.lst (rfs L))) S = some (.lst (rfs L)) := upd_same
    have nSp := pp.ne nS
    have p1 := pp.keep s1
    have nFH : H F = none := s1.free nF
    generalize upd H S (HO.lst (rfs L)) = H1 at s1 eS p1 nF ⊢
    have s2 := same_new (o := HO.lst []) nF
    have eF : (upd H1 F (HO.lst [])) F = some (.lst (rfs [])) := upd_same
    have nFp := p1.ne nF
    have nFS : F ≠ S := fun z => by rw [z, eS] at nF; cases nF
    have eS2 := s2 _ _ eS
    have p2 := p1.keep s2
    have b2 : But p H (upd H1 F (HO.lst [])) := But.of (s1.trans s2)
    generalize upd H1 F (HO.lst []) = H2 at s2 eF eS2 p2 b2 ⊢
    dsimp only [List.set]
    obtain ⟨W, hW⟩ : ∃ W : Nat → L2.St → Hp → Prop, W = fun m σ H' => (∃ u4, σ = [some (.ref p), some (.ref A), some (.ref S), some (.ref F), u4]) ∧ But p H H' ∧ ∃ Lf M : List (Addr × Lt), Lf.length = m ∧ H' S = some (.lst (rfs Lf)) ∧ H' F = some (.lst (rfs M)) ∧ (∀ z, z ∈ L ↔ z ∈ Lf ∨ z ∈ M) ∧ M.length + 2 * Lf.length ≤ 2 * L.length ∧ ∃ j, j + Lf.length = L.length ∧ PotAt H' p (c + 2 * j) := ⟨_, rfl⟩
    refine ⟨W, ⟨L.length, ?_⟩, fun m σ H3 y => ?_⟩
    · rw [hW]
      exact ⟨⟨_, rfl⟩, b2, L, [], rfl, eS2, eF, fun z => by simp, by simp, 0, by omega, p2⟩
    have y' := y
    rw [hW] at y'
    obtain ⟨⟨u4, rfl⟩, b3, Lf, M, lm, eS3, eF3, mem, len, j, jl, p3⟩ := y'
    refine ⟨.ref S, rfl, (show 0 ≤ sizeLine by decide), fun E0' nE => ?_⟩
    have sE := same_new (o := HO.lst []) nE
    have eE : (upd H3 E0' (HO.lst [])) E0' = some (.lst []) := upd_same
    have eS4 := sE _ _ eS3
    have eF4 := sE _ _ eF3
    have p4 := p3.keep sE
    have b4 := b3.trans (But.of sE)
    generalize upd H3 E0' (HO.lst []) = H4 at sE eE eS4 eF4 p4 b4 ⊢
    refine ⟨S, E0', rfs Lf, rfl, rfl, .inl (.inl eS4), .inl (.inl eE), _, rfl, ?_⟩
    cases hL : Lf with
    | nil =>
      subst hL
      refine iteFa5 rfl ?_
      exact ⟨_, rfl, q H4 F M b4 (p4.mono (by omega)) eF4 (fun z => by rw [mem z]; simp) (by simp at len; omega) nFp nFH⟩
    | cons z0 Lr =>
      rw [← hL]
      have l1 : 1 ≤ Lf.length := by rw [hL]; simp
      refine iteTr5 (by rw [hL]; rfl) ⟨fun σ' H' => W (m - 1) σ' H', fun σ' H' h => ⟨m - 1, by omega, h⟩, ?_⟩
      refine ⟨.ref S, rfl, .inl ⟨rfl, _, .inl (.inl eS4)⟩, .ref p, rfl, .ref S, rfl, S, rfs Lf, rfl, .inl (.inl (.inl eS4)), p, _, _, rfl, p4, by rw [lrf]; omega, by rw [lrf]; omega, by omega, fun d H5 b5 p5 d0 d1 => ?_⟩
      rw [lrf] at d1
      obtain ⟨d, rfl⟩ : ∃ k : Nat, d = k := ⟨d.toNat, by omega⟩
      have dl : d < Lf.length := by omega
      have eS5 := b5 _ _ nSp eS4
      have eF5 := b5 _ _ nFp eF4
      have ez : (rfs Lf)[d]? = some (V.ref Lf[d].1) := by
        unfold rfs
        rw [List.getElem?_map, List.getElem?_eq_getElem dl]
        rfl
      have ix : seqIndex? (d : Int) (rfs Lf).length = some d := by
        rw [lrf]
        exact seq_ix5 (by omega) (by omega)
      refine ⟨S, rfs Lf, (d : Int), d, V.ref Lf[d].1, rfl, rfl, eS5, by omega, by omega, ix, ez, ?_⟩
      have er : (rfs Lf).eraseIdx d = rfs (Lf.eraseIdx d) := by
        unfold rfs
        rw [List.eraseIdx_eq_take_drop_succ, List.eraseIdx_eq_take_drop_succ, List.map_append, List.map_take, List.map_drop]
      have memE : ∀ z, z ∈ Lf ↔ z = Lf[d] ∨ z ∈ Lf.eraseIdx d := fun z => by
        conv => lhs; rw [← List.take_append_drop d Lf, List.drop_eq_getElem_cons dl]
        rw [List.eraseIdx_eq_take_drop_succ, List.mem_append, List.mem_append, List.mem_cons]
        constructor
        · rintro (h | h | h)
          · exact .inr (.inl h)
          · exact .inl h
          · exact .inr (.inr h)
        · rintro (h | h | h)
          · exact .inr (.inl h)
          · exact .inl h
          · exact .inr (.inr h)
      have lenE : (Lf.eraseIdx d).length = Lf.length - 1 := by rw [List.length_eraseIdx, if_pos dl]
      generalize Lf[d] = zz at memE ez ⊢
      rw [er]
      generalize Lf.eraseIdx d = Le at memE lenE ⊢
      have eS6 : (upd H5 S (.lst (rfs Le))) S = some (.lst (rfs Le)) := upd_same
      have eF6 : (upd H5 S (.lst (rfs Le))) F = some (.lst (rfs M)) := by rw [upd_ne nFS]; exact eF5
      have p6 : PotAt (upd H5 S (.lst (rfs Le))) p (c + 2 * j + 1) := pot_upd p5 nSp
      have b6 : But p H (upd H5 S (.lst (rfs Le))) := fun b o n1 e => by
        rw [upd_ne (fun w => by rw [w, nS] at e; cases e)]
        exact b5 _ _ n1 (b4 _ _ n1 e)
      generalize upd H5 S (.lst (rfs Le)) = H6 at eS6 eF6 p6 b6 ⊢
      dsimp only [gName, List.set]
      refine ⟨.ref F, rfl, .inl ⟨rfl, _, .inl (.inl eF6)⟩, _, rfl, (show 1 ≤ sizeLine by decide), fun X nX => ?_⟩
      have sX := same_new (o := HO.lst [V.ref zz.1]) nX
      have eX : (upd H6 X (HO.lst [V.ref zz.1])) X = some (.lst [V.ref zz.1]) := upd_same
      have nXp := p6.ne nX
      have eS7 := sX _ _ eS6
      have eF7 := sX _ _ eF6
      have p7 := p6.keep sX
      have b7 := b6.trans (But.of sX)
      generalize upd H6 X (HO.lst [V.ref zz.1]) = H7 at sX eX eS7 eF7 p7 b7 ⊢
      refine ⟨.ref p, rfl, p, 3, _, rfl, p7, by decide, by decide, by omega, fun e H8 b8 p8 e0 e1 => ⟨rfl, .inr ⟨_, rfl, 1, _, rfl, rfl, ?_⟩⟩⟩
      have eX8 := b8 _ _ nXp eX
      have eS8 := b8 _ _ nSp eS7
      have eF8 := b8 _ _ nFp eF7
      have b08 := b7.trans b8
      obtain ⟨k, hk, k1, k2⟩ : ∃ k : Nat, (1 : Int) + (if (decide (V.int e = V.int 0)) = true then 1 else 0) = (k : Int) ∧ 1 ≤ k ∧ k ≤ 2 := by
        split
        · exact ⟨2, rfl, by decide, by decide⟩
        · exact ⟨1, rfl, by decide, by decide⟩
      dsimp only
      rw [hk]
      refine ⟨X, (k : Int), [V.ref zz.1], rfl, rfl, eX8, by omega, by omega, by rw [Int.toNat_natCast]; exact Nat.le_trans (show 1 * k ≤ 1000 by omega) (by decide), fun Y nY => ?_⟩
      have eRp : (List.replicate ((k : Int)).toNat [V.ref zz.1]).flatten = rfs (List.replicate k zz) := by
        rw [Int.toNat_natCast]
        unfold rfs
        rw [List.map_replicate]
        clear hk k1 k2
        induction k with
        | zero => rfl
        | succ k ih => rw [List.replicate_succ, List.replicate_succ, List.flatten_cons, ih]; rfl
      rw [eRp]
      have sY := same_new (o := HO.lst (rfs (List.replicate k zz))) nY
      have eY : (upd H8 Y (HO.lst (rfs (List.replicate k zz)))) Y = some (.lst (rfs (List.replicate k zz))) := upd_same
      have eS9 := sY _ _ eS8
      have eF9 := sY _ _ eF8
      have p9 := p8.keep sY
      have b9 := b08.trans (But.of sY)
      generalize upd H8 Y (HO.lst (rfs (List.replicate k zz))) = H9 at sY eY eS9 eF9 p9 b9 ⊢
      have lM : M.length ≤ 16 := by omega
      refine ⟨F, Y, rfs M, _, rfl, rfl, eF9, eY, by rw [lrf, lrf, List.length_replicate]; exact Nat.le_trans (show M.length + k ≤ 1000 by omega) (by decide), ?_⟩
      have eap : rfs M ++ rfs (List.replicate k zz) = rfs (M ++ List.replicate k zz) := by unfold rfs; rw [List.map_append]
      rw [eap]
      rw [hW]
      refine ⟨⟨_, rfl⟩, fun b o n1 e => ?_, Le, M ++ List.replicate k zz, by omega, by rw [upd_ne (Ne.symm nFS)]; exact eS9, upd_same, fun z => ?_, by rw [List.length_append, List.length_replicate]; omega, j + 1, by omega, pot_upd (p9.mono (by omega)) nFp⟩
      · rw [upd_ne (fun w => by rw [w, nFH] at e; cases e)]
        exact b9 _ _ n1 e
      · rw [mem z, memE z, List.mem_append, List.mem_replicate]
        constructor
        · rintro ((h | h) | h)
          · exact .inr (.inr ⟨by omega, h⟩)
          · exact .inl h
          · exact .inr (.inl h)
        · rintro (h | h | h)
          · exact .inl (.inr h)
          · exact .inr h
          · exact .inl (.inl h.2)
end
end K65

set_option Elab.async false
set_option linter.all false
set_option maxRecDepth 100000
namespace K65
open PySem PySem.Spec PyProof.Rows L2 NB

/-! ### two hands of one case -/
structure Two (C : Addr) (H0 H : Hp) (x D T y E F : Addr) (h g : Hd) : Prop where
  a : HandAt C H x D T h
  u : ∃ kvs, H D = some (.dK kvs)
  b : HandAt C H y E F g
  v : ∃ kvs, H E = some (.dK kvs)
  nDT : D ≠ T
  nEF : E ≠ F
  nxy : x ≠ y
  nTE : T ≠ E
  nTF : T ≠ F
  nDF : D ≠ F
  n1 : H0 x = none
  n2 : H0 T = none
  n3 : H0 y = none
  n4 : H0 F = none
  n5 : H0 D = none
  fr : Same H0 H
theorem HandAt.in {C : Addr} {H : Hp} {x D T : Addr} {h : Hd} (a : HandAt C H x D T h) : ∃ dx v, H x = some (.ins C dx [("thing", .int (h.thing : Int)), ("place", .int h.place), ("wish", v), ("held", .ref D), ("tally", .ref T)]) ∧ WV H v h.wish := by
  obtain ⟨dx, v, hs, e, w, _⟩ := a
  exact ⟨dx, v, e, w⟩
theorem HandAt.tt {C : Addr} {H : Hp} {x D T : Addr} {h : Hd} (a : HandAt C H x D T h) : ∃ kvs, H T = some (.dK kvs) := by
  obtain ⟨dx, v, hs, _, _, _, e, _⟩ := a
  exact ⟨_, e⟩
theorem HandAt.far {C : Addr} {H H' : Hp} {x D T y F : Addr} {h : Hd} (a : HandAt C H x D T h) (b : ButH y F H H') (nx : x ≠ y) (nD : D ≠ F) (nT : T ≠ F) {dy : Addr} {fs : List (Str × V)} (ey : H y = some (.ins C dy fs)) {kvs : List (Key × V)} (eF : H F = some (.dK kvs)) : HandAt C H' x D T h := by
  obtain ⟨dx, v, hs, e, w, d, t, l⟩ := a
  have e' : H x = some (.ins C dx _) := e
  have tk : TupK H H' := fun c xs ec => b _ _ (fun z => by rw [z, ey] at ec; cases ec) (fun z => by rw [z, eF] at ec; cases ec) ec
  have nxF : x ≠ F := fun z => by rw [z, eF] at e'; cases e'
  have nTy : T ≠ y := fun z => by rw [z, ey] at t; cases t
  refine ⟨dx, v, hs, b _ _ nx nxF e', w.tk tk, ?_, b _ _ nTy nT t, l.tk tk⟩
  rcases d with d | ⟨od, d⟩
  · exact .inl (b _ _ (fun z => by rw [z, ey] at d; cases d) nD d)
  · exact .inr ⟨od, b _ _ (fun z => by rw [z, ey] at d; cases d) nD d⟩
section
variable {C : Addr} {H0 H H' : Hp} {x D T y E F : Addr} {h g : Hd}
theorem Two.same (t : Two C H0 H x D T y E F h g) (s : Same H H') : Two C H0 H' x D T y E F h g := by
  obtain ⟨kd, ud⟩ := t.u
  obtain ⟨ke, ue⟩ := t.v
  exact ⟨t.a.same s, ⟨kd, s _ _ ud⟩, t.b.same s, ⟨ke, s _ _ ue⟩, t.nDT, t.nEF, t.nxy, t.nTE, t.nTF, t.nDF, t.n1, t.n2, t.n3, t.n4, t.n5, t.fr.trans s⟩
theorem Two.left (t : Two C H0 H x D T y E F h g) (b : ButH x T H H') {h' : Hd} (a : HandAt C H' x D T h') : Two C H0 H' x D T y E F h' g := by
  obtain ⟨kd, ud⟩ := t.u
  obtain ⟨ke, ue⟩ := t.v
  obtain ⟨dx, v, ex, _⟩ := t.a.in
  obtain ⟨kt, et⟩ := t.a.tt
  exact ⟨a, ⟨kd, b _ _ (fun z => by rw [z, ex] at ud; cases ud) t.nDT ud⟩, t.b.far b t.nxy.symm t.nTE.symm t.nTF.symm ex et, ⟨ke, b _ _ (fun z => by rw [z, ex] at ue; cases ue) t.nTE.symm ue⟩, t.nDT, t.nEF, t.nxy, t.nTE, t.nTF, t.nDF, t.n1, t.n2, t.n3, t.n4, t.n5, fun c o e => b _ _ (ne_of_none e t.n1) (ne_of_none e t.n2) (t.fr _ _ e)⟩
theorem Two.right (t : Two C H0 H x D T y E F h g) (b : ButH y F H H') {g' : Hd} (a : HandAt C H' y E F g') : Two C H0 H' x D T y E F h g' := by
  obtain ⟨kd, ud⟩ := t.u
  obtain ⟨ke, ue⟩ := t.v
  obtain ⟨dy, v, ey, _⟩ := t.b.in
  obtain ⟨kf, ef⟩ := t.b.tt
  exact ⟨t.a.far b t.nxy t.nDF t.nTF ey ef, ⟨kd, b _ _ (fun z => by rw [z, ey] at ud; cases ud) t.nDF ud⟩, a, ⟨ke, b _ _ (fun z => by rw [z, ey] at ue; cases ue) t.nEF ue⟩, t.nDT, t.nEF, t.nxy, t.nTE, t.nTF, t.nDF, t.n1, t.n2, t.n3, t.n4, t.n5, fun c o e => b _ _ (ne_of_none e t.n3) (ne_of_none e t.n4) (t.fr _ _ e)⟩
end
/-- two hands of a case, made one behind the other -/
theorem two_made {C : Addr} {H H1 H2 : Hp} {x D T y E F : Addr} {h g : Hd} (s1 : Same H H1) (a : HandAt C H1 x D T h) (nDT : D ≠ T) (u : ∃ kvs, H1 D = some (.dK kvs)) (n1 : H x = none) (n5 : H D = none) (n2 : H T = none)
    (s2 : Same H1 H2) (b : HandAt C H2 y E F g) (nEF : E ≠ F) (v : ∃ kvs, H2 E = some (.dK kvs)) (m1 : H1 y = none) (m5 : H1 E = none) (m2 : H1 F = none) : Two C H H2 x D T y E F h g := by
  obtain ⟨dx, vx, ex, _⟩ := a.in
  obtain ⟨kt, et⟩ := a.tt
  obtain ⟨kd, ed⟩ := u
  exact ⟨a.same s2, ⟨kd, s2 _ _ ed⟩, b, v, nDT, nEF, ne_of_none ex m1, ne_of_none et m5, ne_of_none et m2, ne_of_none ed m2, n1, n2, s1.free m1, s1.free m2, n5, s1.trans s2⟩
/-- what is fixed of a case -/
structure Bs5 (h : Hd) : Prop where
  ok : Ok5 h
  th : h.thing ≤ 12
  pl : h.place.natAbs < 10 ^ 60
  rw : ∀ r ∈ h.rows, 0 ≤ r.1 ∧ r.1 ≤ 8 ∧ r.2.1.1.1 ≤ 12 ∧ r.2.1.2.1 ≤ 12 ∧ 0 ≤ r.2.2 ∧ r.2.2 ≤ 5
/-- a hand of the case, of whatever it has heard -/
structure Gd5 (h0 : Hd) (B : Int) (g : Hd) : Prop where
  th : g.thing = h0.thing
  pl : g.place = h0.place
  ky : g.rows.map (fun r => (r.1, r.2.1)) = h0.rows.map (fun r => (r.1, r.2.1))
  ct : ∀ r ∈ g.rows, 0 ≤ r.2.2 ∧ r.2.2 ≤ B
  ws : WsOk h0 g.wish
theorem Gd5.zero {h : Hd} (b : Bs5 h) (w : WsOk h h.wish) : Gd5 h (10 ^ 31) h := ⟨rfl, rfl, rfl, fun r hr => by
  obtain ⟨_, _, _, _, h1, h2⟩ := b.rw r hr
  exact ⟨h1, Int.le_trans h2 (by decide)⟩, w⟩
theorem Gd5.keys {h0 g : Hd} {B : Int} (d : Gd5 h0 B g) : g.rows.map (·.1) = h0.rows.map (·.1) := by
  have := congrArg (List.map (·.1)) d.ky
  rw [List.map_map, List.map_map] at this
  exact this
theorem Gd5.row {h0 g : Hd} {B : Int} (d : Gd5 h0 B g) {r : Int × Rl × Int} (hr : r ∈ g.rows) : ∃ r0 ∈ h0.rows, r0.1 = r.1 ∧ r0.2.1 = r.2.1 := by
  have : (r.1, r.2.1) ∈ h0.rows.map (fun r => (r.1, r.2.1)) := by
    rw [← d.ky]
    exact List.mem_map.mpr ⟨r, hr, rfl⟩
  obtain ⟨r0, h1, h2⟩ := List.mem_map.mp this
  exact ⟨r0, h1, (Prod.mk.inj h2).1, (Prod.mk.inj h2).2⟩
theorem Gd5.len {h0 g : Hd} {B : Int} (d : Gd5 h0 B g) : g.rows.length = h0.rows.length := by
  have := congrArg List.length d.ky
  rw [List.length_map, List.length_map] at this
  exact this
theorem Gd5.ok {h0 g : Hd} {B : Int} (d : Gd5 h0 B g) (b : Bs5 h0) : Ok5 g := ⟨by rw [d.keys]; exact b.ok.nd, fun r hr => by
  obtain ⟨r0, h1, _, h2⟩ := d.row hr
  rw [← h2]
  exact b.ok.sh r0 h1, by rw [d.len]; exact b.ok.l8⟩
theorem Gd5.hs {h0 g : Hd} {B : Int} (d : Gd5 h0 B g) (b : Bs5 h0) (hB : B < 10 ^ 40) : Hs g := ⟨⟨fun r hr => by
  obtain ⟨r0, h1, h2, h3⟩ := d.row hr
  obtain ⟨b1, b2, b3, b4, _⟩ := b.rw r0 h1
  have := d.ct r hr
  refine ⟨Nat.lt_of_le_of_lt (show r.1.natAbs ≤ 8 by omega) (by decide), ?_, by rw [← h3]; exact b3, by rw [← h3]; exact b4⟩
  have e : (10 : Int) ^ 40 ≤ 10 ^ 60 := by decide
  have f : ((10 ^ 60 : Nat) : Int) = 10 ^ 60 := by decide
  omega, fun w e => (d.ws w e).1⟩, by rw [d.len]; exact b.ok.l8, by rw [d.th]; exact b.th, by rw [d.pl]; exact b.pl, fun w e => by rw [d.th]; exact (d.ws w e).2⟩
theorem Gd5.mono {h0 g : Hd} {B B' : Int} (d : Gd5 h0 B g) (h : B ≤ B') : Gd5 h0 B' g := ⟨d.th, d.pl, d.ky, fun r hr => ⟨(d.ct r hr).1, Int.le_trans (d.ct r hr).2 h⟩, d.ws⟩
theorem Gd5.setc {h0 g : Hd} {B : Int} (d : Gd5 h0 B g) {n c : Int} (c0 : 0 ≤ c) (c1 : c ≤ B) : Gd5 h0 B (g.setc n c) := ⟨d.th, d.pl, by
  show (putC g.rows n c).map _ = _
  rw [← d.ky]
  unfold putC
  rw [List.map_map]
  refine List.map_congr_left fun r _ => ?_
  show ((if r.1 = n then (r.1, r.2.1, c) else r).1, (if r.1 = n then (r.1, r.2.1, c) else r).2.1) = _
  split <;> rfl, fun r hr => by
  obtain ⟨r0, h1, h2⟩ := List.mem_map.mp (show r ∈ g.rows.map _ from hr)
  have h2' : (if r0.1 = n then (r0.1, r0.2.1, c) else r0) = r := h2
  rw [← h2']
  split
  · exact ⟨c0, c1⟩
  · exact d.ct r0 h1, d.ws⟩
theorem Gd5.hw {h0 g : Hd} {B : Int} (d : Gd5 h0 B g) {o : Option Wi} (w : WsOk h0 o) : Gd5 h0 B (g.hw o) := by
  unfold Hd.hw
  split
  · exact ⟨d.th, d.pl, d.ky, d.ct, w⟩
  · exact d
theorem Gd5.hear {h0 g : Hd} {B : Int} (d : Gd5 h0 B g) {l : Lt} (lp : LetP l) (w : WsOk h0 l.2.2) (hB : 10 ^ 30 ≤ B) : Gd5 h0 (B + 1) (g.hear l).1 := by
  have dw := d.hw w
  obtain ⟨a, ns, o⟩ := l
  rcases lp.1 with ⟨_, l2⟩ | ⟨_, l0, _⟩
  · match ns, l2 with
    | [n, k], _ =>
      have kb := lp.2.1 k (List.mem_cons_of_mem _ List.mem_cons_self)
      rw [hear_two]
      cases e : look g.rows n with
      | none => exact dw.mono (by omega)
      | some z =>
        by_cases s : shrd z.1 = true
        · show Gd5 h0 (B + 1) (if shrd z.1 = true then (g.hw o).hear2 a o n k z else (g.hw o, [])).1
          rw [if_pos s]
          have hz := look_mem5 e
          have cz := d.ct _ hz
          have cz1 : 0 ≤ z.2 := cz.1
          have cz2 : z.2 ≤ B := cz.2
          have m0 : 0 ≤ mx z.2 k ∧ mx z.2 k ≤ B := by
            unfold mx
            split
            · exact ⟨kb.1, Int.le_trans (Int.le_of_lt kb.2) hB⟩
            · exact ⟨cz1, cz2⟩
          have ds := dw.setc (n := n) m0.1 m0.2
          unfold Hd.hear2
          split
          · exact ds.mono (by omega)
          · have em : look ((g.hw o).setc n (mx z.2 k)).rows n = some (z.1, mx z.2 k) := look_setc (by rw [hw_rows]; exact e)
            rw [ans_of em]
            show Gd5 h0 (B + 1) (((g.hw o).setc n (mx z.2 k)).hup n (z.1, mx z.2 k) k)
            unfold Hd.hup
            split
            · exact (ds.mono (by omega)).setc (by show 0 ≤ mx z.2 k + 1; omega) (by show mx z.2 k + 1 ≤ B + 1; omega)
            · exact ds.mono (by omega)
        · show Gd5 h0 (B + 1) (if shrd z.1 = true then (g.hw o).hear2 a o n k z else (g.hw o, [])).1
          rw [if_neg s]
          exact dw.mono (by omega)
  · have l0' : ns = [] := l0
    subst l0'
    rw [hear_none rfl]
    exact dw.mono (by omega)
/-- what is answered is small -/
def SmB (bs : List Bt) : Prop := (∀ b ∈ bs, BtS b) ∧ bs.length ≤ 1
theorem hear_small {h0 g : Hd} {B : Int} (b : Bs5 h0) (d : Gd5 h0 B g) {l : Lt} (lp : LetP l) (w : WsOk h0 l.2.2) (hB : B < 10 ^ 40) : SmB (g.hear l).2 := by
  have dw := d.hw w
  obtain ⟨a, ns, o⟩ := l
  have nil : SmB [] := ⟨fun _ h => absurd h List.not_mem_nil, by decide⟩
  rcases lp.1 with ⟨_, l2⟩ | ⟨_, l0, _⟩
  · match ns, l2 with
    | [n, k], _ =>
      have nb := lp.2.1 n List.mem_cons_self
      have kb := lp.2.1 k (List.mem_cons_of_mem _ List.mem_cons_self)
      rw [hear_two]
      cases e : look g.rows n with
      | none => exact nil
      | some z =>
        show SmB (if shrd z.1 = true then (g.hw o).hear2 a o n k z else (g.hw o, [])).2
        by_cases s : shrd z.1 = true
        · rw [if_pos s]
          have hz := look_mem5 e
          have cz := d.ct _ hz
          have cz1 : 0 ≤ z.2 := cz.1
          have cz2 : z.2 ≤ B := cz.2
          obtain ⟨r0, h1, _, h3⟩ := d.row hz
          obtain ⟨_, _, b3, b4, _⟩ := b.rw r0 h1
          have h3' : r0.2.1 = z.1 := h3
          rw [h3'] at b3 b4
          unfold Hd.hear2
          split
          · exact nil
          · have em : look ((g.hw o).setc n (mx z.2 k)).rows n = some (z.1, mx z.2 k) := look_setc (by rw [hw_rows]; exact e)
            rw [ans_of em]
            show SmB (if ((g.hw o).setc n (mx z.2 k)).cup (z.1, mx z.2 k) k = k then ([] : List Bt) else [(((othT z.1 ((g.hw o).setc n (mx z.2 k)).thing : Nat) : Int), (("leave" : Str), [n, ((g.hw o).setc n (mx z.2 k)).cup (z.1, mx z.2 k) k], ((g.hw o).setc n (mx z.2 k)).wish))])
            split
            · exact nil
            · refine ⟨fun y hy => ?_, by simp⟩
              rw [List.mem_singleton.mp hy]
              have c40 : (10 : Int) ^ 40 < 10 ^ 90 := by decide
              have c30 : (10 : Int) ^ 30 < 10 ^ 90 := by decide
              have f : ((10 ^ 90 : Nat) : Int) = 10 ^ 90 := by decide
              have m1 : 0 ≤ mx z.2 k ∧ mx z.2 k + 1 < 10 ^ 90 := by
                unfold mx
                have k2 := kb.2
                have c31 : (10 : Int) ^ 30 + 1 < 10 ^ 90 := by decide
                have c41 : (10 : Int) ^ 40 + 1 < 10 ^ 90 := by decide
                split
                · exact ⟨kb.1, by omega⟩
                · exact ⟨cz1, by omega⟩
              have cu : (((g.hw o).setc n (mx z.2 k)).cup (z.1, mx z.2 k) k).natAbs < 10 ^ 90 := by
                unfold Hd.cup
                split
                · show (mx z.2 k + 1).natAbs < 10 ^ 90
                  omega
                · show (mx z.2 k).natAbs < 10 ^ 90
                  omega
              have ot : othT z.1 ((g.hw o).setc n (mx z.2 k)).thing ≤ 12 := by
                unfold othT
                split
                · exact b4
                · exact b3
              refine ⟨?_, .inr (.inl rfl), by simp, fun x hx => ?_, fun w' e' => (dw.ws w' e').1⟩
              · show ((othT z.1 ((g.hw o).setc n (mx z.2 k)).thing : Nat) : Int).natAbs < 10 ^ 90
                exact Nat.lt_of_le_of_lt (show _ ≤ 12 by omega) (by decide)
              · rcases List.mem_cons.mp hx with rfl | hx
                · have := nb.1
                  have := nb.2
                  omega
                · rw [List.mem_singleton.mp hx]
                  exact cu
        · rw [if_neg s]
          exact nil
  · have l0' : ns = [] := l0
    subst l0'
    rw [hear_none rfl]
    exact nil
end K65

set_option Elab.async false
set_option linter.all false
set_option maxRecDepth 100000
namespace K65
open PySem PySem.Spec PyProof.Rows L2 NB

/-! ### each letter once more at once -/
section
variable {P : Program} {w : World} {K : PySem.W.Frag} {mg : Str → Option Value} {base : Heap}
def spTwc (C : Addr) : Sp := fun vs H Q _ => ∃ (q R A : Addr) (as : List Addr) (zs : List (Int × Addr)) (h : Hd) (L : List (Addr × Lt)), vs = [.ref q, .ref A] ∧ CaseAt H q R as zs h ∧ Bs5 h ∧ WsOk h h.wish ∧ H A = some (.lst (rfs L)) ∧ (∀ z ∈ L, LetAt H z.1 z.2 ∧ LetP z.2 ∧ WsOk h z.2.2.2) ∧ L.length ≤ 8 ∧
  ∀ H', Same H H' → Q (.bl true) H'
abbrev a__law_twice_right : Stmt := topS 29
abbrev n__law_twice_right : List Str := ["_law_case", "_law_letters_here", "_law_hand", "_law_other", "_law_letter", "_law_told"]
theorem sc__law_twice_right : FnScope n__law_twice_right ["_law_case", "_law_letters_here"] (defScope a__law_twice_right) := ⟨rfl, rfl, rfl, by decide +kernel, rfl, by decide +kernel, by decide +kernel⟩
set_option maxHeartbeats 8000000 in
theorem ok__law_twice_right {f fMa fSt : Addr} {fd fdMa fdSt : FuncData}  {C : Addr} (F : Fun K "_law_twice_right" "_law_twice_right" a__law_twice_right f fd) (Ma : Kn P w K mg base 8 "_law_made" ["_law_case"] (spMade C) fMa fdMa) (St : FnG P w K mg base 8 fSt fdSt ["_law_hand", "_law_rows"] (spState C)) (gSt : mg "_law_state" = some (.ref fSt)) (kSt : PySem.W.keepIn K (.ref fSt) = true) (bSt : Binds K fdSt ["_law_hand", "_law_rows"] []) (Hh : C8.Met P w K mg base 7 C "hear" (spHear C) []) (X : HandTxt K C) (m_repr : mg "repr" = none) : FnG P w K mg base 9 f fd ["_law_case", "_law_letters_here"] (spTwc C) := by
  refine fnG F sc__law_twice_right (fun vs H Q E h => ?_) (fun cdv A outer s H vs Q E hG hr h => ?_)
  · obtain ⟨q0, R, A, as, zs, h, L, rfl, _⟩ := h
    rfl
  · obtain ⟨q0, R, A, as, zs, h, L, rfl, ca, bs, ws, eA, al, l8, q⟩ := h
    refine ⟨_, (pss_cons (ps_par (i := 2) (j := 3) (by rfl) sc__law_twice_right.nd rfl rfl (by decide) rfl rfl (pa_cons (pe_kn Ma hr (by omega) (pa_cons (pv 0) pa_nil)) (pa_cons (pe_kn Ma hr (by omega) (pa_cons (pv 0) pa_nil)) pa_nil)) (by rfl))
      (pss_cons (ps_for PassesOwn.never rfl (pi_list (pv 1)) (pg_name (i := 4) sc__law_twice_right.nd rfl (.inl rfl))
        (pss_cons (ps_set (i := 5) sc__law_twice_right.nd rfl (.inl rfl) (C8.pe_mt Hh hr (by omega) (pv 2) (pa_cons (pv 4) pa_nil)))
      (pss_cons (ps_if (pt_cmpR op_ne (pe_callB (call_reprD hG hr.units) (by rfl) m_repr (by decide +kernel) (pa_cons (pe_lst (pa_cons (C8.pe_mt Hh hr (by omega) (pv 3) (pa_cons (pv 4) pa_nil)) (pa_cons (C8.pe_mt Hh hr (by omega) (pv 3) (pa_cons (pv 4) pa_nil)) pa_nil))) pa_nil)) (pe_callB (call_reprD hG hr.units) (by rfl) m_repr (by decide +kernel) (pa_cons (pe_lst (pa_cons (pv 5) (pa_cons (pv 5) pa_nil))) pa_nil)) (nomark _)) (pss_one (ps_ret pe_bl)) pss_nil)
      (pss_one (ps_if (pt_cmpR op_ne (pe_callG hG St (hr.mono (by omega)) (by rfl) gSt kSt bSt (pa_cons (pv 2) (pa_cons (pe_ix ix_tup (pv 0) pe_int (fun _ _ => rfl)) pa_nil))) (pe_callG hG St (hr.mono (by omega)) (by rfl) gSt kSt bSt (pa_cons (pv 3) (pa_cons (pe_ix ix_tup (pv 0) pe_int (fun _ _ => rfl)) pa_nil))) (nomark _)) (pss_one (ps_ret pe_bl)) pss_nil)))))
      (pss_one (ps_ret pe_bl)))), ?_⟩
    obtain ⟨⟨cv, ce, _⟩, cr, cra⟩ := id ca
    refine ⟨.ref q0, rfl, q0, R, as, zs, h, rfl, ca, bs.ok, ws, fun H1 x D T s1 a1 nDT u1 n1 n5 n2 => ⟨.ref q0, rfl, q0, R, as, zs, h, rfl, ca.tk (tk_same s1), bs.ok, ws, fun H2 y E F s2 a2 nEF u2 m1 m5 m2 => ⟨_, _, rfl, ?_⟩⟩⟩
    have two := two_made s1 a1 nDT u1 n1 n5 n2 s2 a2 nEF u2 m1 m5 m2
    clear s1 a1 u1 n1 n5 n2 s2 a2 u2 m1 m5 m2
    dsimp only [List.set]
    refine ⟨_, rfl, A, rfl, ⟨_, .inl (.inl (two.fr _ _ eA))⟩, for_it (walk_list (xs := rfs L)) (fun j σ H' => (∃ u4 u5, σ = [some (.ref q0), some (.ref A), some (.ref x), some (.ref y), u4, u5]) ∧ ∃ g, Two C H H' x D T y E F g g ∧ Gd5 h (10 ^ 31 + (j : Int)) g) ⟨⟨_, _, rfl⟩, h, two, (Gd5.zero bs ws).mono (by omega)⟩ (fun j σ H' _ y => by obtain ⟨_, g, t, _⟩ := y; exact .inl (.inl (t.fr _ _ eA))) (fun j v σ H3' H3 hj yy z => ?_) (fun σ H3 yy => ?_)⟩
    · obtain ⟨⟨u4, u5, rfl⟩, g, tw, gd⟩ := yy
      obtain ⟨rfl, gv⟩ := z
      obtain ⟨z, ez, rfl⟩ := mapGet gv
      obtain ⟨la, lp, lw⟩ := al z (List.mem_of_getElem? ez)
      have jl : j < L.length := (List.getElem?_eq_some_iff.mp ez).1
      have b31 : (10 : Int) ^ 30 ≤ 10 ^ 31 := by decide
      have b30 : (10 : Int) ^ 30 ≤ 10 ^ 31 + (j : Int) := by omega
      have gok := gd.ok bs
      have g40 : g.rows.length ≤ 40 := by have := gok.l8; omega
      have gw : ∀ w, z.2.2.2 = some w → g.thing < w.2.length := fun w e => by rw [gd.th]; exact (lw w e).2
      dsimp only [gName, List.set]
      obtain ⟨dx, vx, ex, _⟩ := tw.a.in
      refine ⟨.ref x, rfl, x, dx, _, rfl, ex, lkm, .ref z.1, rfl, x, D, T, z.1, g, z.2, rfl, tw.a, nDT, la.tk (tk_same tw.fr), lp, gw, g40, fun H4 ga b4 a4 ba4 => ?_⟩
      have t4 := tw.left b4 a4
      dsimp only [gName, List.set]
      obtain ⟨dy, vy, ey, _⟩ := t4.b.in
      refine ⟨.ref y, rfl, y, dy, _, rfl, ey, lkm, .ref z.1, rfl, y, E, F, z.1, g, z.2, rfl, t4.b, nEF, la.tk (tk_same t4.fr), lp, gw, g40, fun H5 gb b5 a5 ba5 => ?_⟩
      have t5 := t4.right b5 a5
      have gd1 := gd.hear lp lw b30
      have tw2 := hear_twice (h := g) lp
      have small := hear_small bs gd lp lw (by
        have : (10 : Int) ^ 31 + 8 < 10 ^ 40 := by decide
        omega)
      have ba4 := ba4.tk (b5.tk t4.b)
      have g1ok := gd1.ok bs
      have g140 : (g.hear z.2).1.rows.length ≤ 40 := by have := g1ok.l8; omega
      have gw1 : ∀ w, z.2.2.2 = some w → (g.hear z.2).1.thing < w.2.length := fun w e => by rw [gd1.th]; exact (lw w e).2
      obtain ⟨dy', vy', ey', _⟩ := t5.b.in
      refine ⟨.ref y, rfl, y, dy', _, rfl, ey', lkm, .ref z.1, rfl, y, E, F, z.1, (g.hear z.2).1, z.2, rfl, t5.b, nEF, la.tk (tk_same t5.fr), lp, gw1, g140, fun H6 gc b6 a6 ba6 => ?_⟩
      rw [tw2] at a6 ba6
      have t6 := t5.right b6 a6
      have tk56 := b6.tk t5.b
      have ba4 := ba4.tk tk56
      have ba5 := ba5.tk tk56
      clear ex ey ey' t4 t5 b4 b5 b6 a4 a5 a6 tw
      generalize hG : (g.hear z.2).1 = g1 at *
      generalize (g.hear z.2).2 = rep at *
      refine ⟨(show 2 ≤ sizeLine by decide), fun W nW => ?_⟩
      have sW := same_new (o := HO.lst [V.ref gb, .ref gc]) nW
      have t7 := t6.same sW
      have dp1 : Dp K (upd H6 W (HO.lst [V.ref gb, .ref gc])) (.ref W) (.list [.tuple (rep.map btD), .tuple (rep.map btD)]) := .lst (.inl (.inl upd_same)) (.cons (dp_bat (ba5.tk (tk_same sW))) (.cons (dp_bat (ba6.tk (tk_same sW))) .nil))
      have ba7 := ba4.tk (tk_same sW)
      have shw : Showable (.list [.tuple (rep.map btD), .tuple (rep.map btD)]) := by
        have c := Small.list (SmallAll.cons (Small.tuple (small_bts small.1)) (SmallAll.cons (Small.tuple (small_bts small.1)) .nil))
        have := small.2
        exact c.ok (by omega) (by decide)
      generalize upd H6 W (HO.lst [V.ref gb, .ref gc]) = H7 at sW t7 dp1 ba7 ⊢
      refine ⟨W, _, rfl, dp1, shw, _, rfl, _, rfl, (show 2 ≤ sizeLine by decide), fun W2 nW2 => ?_⟩
      have sW2 := same_new (o := HO.lst [V.ref ga, .ref ga]) nW2
      have t8 := t7.same sW2
      have dp2 : Dp K (upd H7 W2 (HO.lst [V.ref ga, .ref ga])) (.ref W2) (.list [.tuple (rep.map btD), .tuple (rep.map btD)]) := .lst (.inl (.inl upd_same)) (.cons (dp_bat (ba7.tk (tk_same sW2))) (.cons (dp_bat (ba7.tk (tk_same sW2))) .nil))
      generalize upd H7 W2 (HO.lst [V.ref ga, .ref ga]) = H8 at sW2 t8 dp2 ⊢
      refine ⟨W2, _, rfl, dp2, shw, rfl, _, rfl, iteFa5 (by simp) ?_⟩
      have k8 := tk_same t8.fr
      have sn : ShN g1 (h.rows.map (·.1)) := fun n hn => by
        rw [← gd1.keys] at hn
        obtain ⟨rl, c1, e⟩ := look_of hn
        exact ⟨rl, c1, e, g1ok.sh _ (look_mem5 e)⟩
      have hs1 := gd1.hs bs (by
        have : (10 : Int) ^ 31 + 9 < 10 ^ 40 := by decide
        omega)
      refine ⟨_, rfl, .ref q0, rfl, q0, _, 2, .ref R, rfl, rfl, .inl (.inl (k8 _ _ ce)), atI_nat (j := 2) rfl, x, D, T, R, g1, as, h.rows, zs, rfl, t8.a, hs1, k8 _ _ cr, cra.tk k8, bs.ok.l8, sn, fun H9 ys1 bs1 s9 lk1' bt1 => ?_⟩
      have t9 := t8.same s9
      have k9 := tk_same t9.fr
      refine ⟨_, rfl, .ref q0, rfl, q0, _, 2, .ref R, rfl, rfl, .inl (.inl (k9 _ _ ce)), atI_nat (j := 2) rfl, y, E, F, R, g1, as, h.rows, zs, rfl, t9.b, hs1, k9 _ _ cr, cra.tk k9, bs.ok.l8, sn, fun HA ys2 bs2 sA lk2' bt2 => ?_⟩
      cases lk1'.uniq lk2'
      cases bt1.uniq bt2
      refine ⟨rfl, _, rfl, iteFa5 (by simp) ?_⟩
      exact ⟨⟨_, _, rfl⟩, g1, t9.same sA, gd1.mono (by omega)⟩
    · obtain ⟨⟨u4, u5, rfl⟩, g, tw, gd⟩ := yy
      exact q _ tw.fr
end
end K65

set_option Elab.async false
set_option linter.all false
set_option maxRecDepth 100000
namespace K65
open PySem PySem.Spec PyProof.Rows L2 NB

/-! ### leaves and words in two orders -/
def offP (p : Addr) (H : Hp) : Hp := fun b => if b = p then none else H b
theorem offP_ne {p b : Addr} {H : Hp} (n : b ≠ p) : offP p H b = H b := by unfold offP; rw [if_neg n]
theorem same_off {p : Addr} {H H' : Hp} (b : But p H H') : Same (offP p H) H' := fun c o e => by
  by_cases n : c = p
  · unfold offP at e
    rw [if_pos n] at e
    cases e
  · rw [offP_ne n] at e
    exact b _ _ n e
theorem but_off {p : Addr} {H H' : Hp} (s : Same (offP p H) H') : But p H H' := fun b o n e => s _ _ (by rw [offP_ne n]; exact e)
theorem none_off {p b : Addr} {H : Hp} (e : H b = none) : offP p H b = none := by unfold offP; split <;> trivial
theorem tk_off {p : Addr} {H : Hp} {c : Nat} (pp : PotAt H p c) : TupK H (offP p H) := fun b xs e => by
  rw [offP_ne]
  · exact e
  · intro z
    obtain ⟨_, _, _, e2, _⟩ := pp
    rw [z, e2] at e
    cases e
theorem TupK.trans5 {A B C : Hp} (h : TupK A B) (k : TupK B C) : TupK A C := fun a xs e => k _ _ (h _ _ e)
theorem But.kp {a : Addr} {H H' : Hp} {c : Nat} (b : But a H H') (p : PotAt H a c) : Keep H H' := fun x o n e => b _ _ (fun z => by
  obtain ⟨_, _, _, e2, _⟩ := p
  rw [z, e2] at e
  cases e
  exact n _ rfl) e
theorem HandAt.kp {C : Addr} {H H' : Hp} {x D T : Addr} {h : Hd} (a : HandAt C H x D T h) (k : Keep H H') : HandAt C H' x D T h := by
  obtain ⟨dx, v, hs, e, w, d, t, l⟩ := a
  refine ⟨dx, v, hs, k _ _ (fun _ z => by cases z) e, w.keep k, ?_, k _ _ (fun _ z => by cases z) t, l.keep k⟩
  rcases d with d | ⟨od, d⟩
  · exact .inl (k _ _ (fun _ z => by cases z) d)
  · exact .inr ⟨od, k _ _ (fun _ z => by cases z) d⟩
/-- the pot moves on: the hands stay -/
theorem two_pot {C p : Addr} {H H1 H2 : Hp} {c : Nat} {x D T y E F : Addr} {h g : Hd} (t : Two C (offP p H) H1 x D T y E F h g) (pp : PotAt H1 p c) (b : But p H1 H2) : Two C (offP p H) H2 x D T y E F h g := by
  have k := b.kp pp
  obtain ⟨kd, ud⟩ := t.u
  obtain ⟨ke, ue⟩ := t.v
  refine ⟨t.a.kp k, ⟨kd, k _ _ (fun _ z => by cases z) ud⟩, t.b.kp k, ⟨ke, k _ _ (fun _ z => by cases z) ue⟩, t.nDT, t.nEF, t.nxy, t.nTE, t.nTF, t.nDF, t.n1, t.n2, t.n3, t.n4, t.n5, fun b' o e => ?_⟩
  by_cases n : b' = p
  · unfold offP at e
    rw [if_pos n] at e
    cases e
  · exact b _ _ n (t.fr _ _ e)
/-- a hand hears: the pot stays -/
theorem pot_hear {C p : Addr} {H H' : Hp} {c : Nat} {x D T : Addr} {h : Hd} (pp : PotAt H p c) (a : HandAt C H x D T h) (b : ButH x T H H') : PotAt H' p c := by
  obtain ⟨i, j, r, e, h1, h2, h3⟩ := pp
  obtain ⟨dx, v, ex, _⟩ := a.in
  obtain ⟨kt, et⟩ := a.tt
  exact ⟨i, j, r, b _ _ (fun z => by rw [z, ex] at e; cases e) (fun z => by rw [z, et] at e; cases e) e, h1, h2, h3⟩
def hs1Of (l : Lt) (n : Int) : Option Int := match l.2.1 with
  | [m, k] => if m = n then some k else none
  | _ => none
def hsOf (ls : List Lt) (n : Int) : List Int := ls.filterMap fun l => hs1Of l n
theorem hsOf_snoc (ls : List Lt) (l : Lt) (n : Int) : hsOf (ls ++ (some l).toList) n = hsOf ls n ++ (hs1Of l n).toList := by
  unfold hsOf
  rw [List.filterMap_append]
  cases h : hs1Of l n with
  | none => simp [h]
  | some k => simp [h]
theorem wne_l : ("word" : Str) ≠ "leave" := by decide +kernel
theorem tAnd_no {c1 c2 : TT} {b1 : Bool} {σ : L2.St} {H : Hp} {Q : Bool → Hp → Prop} (h1 : ∀ R : Bool → Hp → Prop, (∀ H', Same H H' → R b1 H') → c1 σ H R) (h2 : b1 = true → ∀ H', Same H H' → ∀ R : Bool → Hp → Prop, (∀ H'', Same H' H'' → R false H'') → c2 σ H' R) (q : ∀ H', Same H H' → Q false H') : tAnd c1 c2 σ H Q := by
  refine h1 _ fun H' s => ?_
  cases b1 with
  | true => exact h2 rfl H' s _ fun H'' s' => q _ (s.trans s')
  | false => exact q _ s
section
variable {P : Program} {w : World} {K : PySem.W.Frag} {mg : Str → Option Value} {base : Heap}
def spOrd (C : Addr) : Sp := fun vs H Q _ => ∃ (p q R A : Addr) (as : List Addr) (zs : List (Int × Addr)) (h : Hd) (L : List (Addr × Lt)) (Pl : Option Wi → Prop) (c : Nat), vs = [.ref p, .ref q, .ref A] ∧ PotAt H p c ∧ c < 500000 ∧ CaseAt H q R as zs h ∧ Bs5 h ∧ WsOk h h.wish ∧ H A = some (.lst (rfs L)) ∧ A ≠ p ∧ (∀ z ∈ L, LetAt H z.1 z.2 ∧ LetP z.2 ∧ WsOk h z.2.2.2 ∧ z.2.1 ≠ "ask" ∧ Pl z.2.2.2) ∧ L.length ≤ 8 ∧ Uq Pl ∧ Pl h.wish ∧
  ∀ H', But p H H' → PotAt H' p (c + 20) → Q (.bl true) H'
abbrev a__law_orders_right : Stmt := topS 30
abbrev n__law_orders_right : List Str := ["_law_pot_here", "_law_case", "_law_letters_here", "_law_hand", "_law_other", "_law_rows", "_law_wish", "_law_letter", "_law_some", "_law_number", "_law_rule", "_law_count", "_law_heard", "_law_one"]
theorem sc__law_orders_right : FnScope n__law_orders_right ["_law_pot_here", "_law_case", "_law_letters_here"] (defScope a__law_orders_right) := ⟨rfl, rfl, rfl, by decide +kernel, rfl, by decide +kernel, by decide +kernel⟩
set_option maxHeartbeats 8000000 in
theorem ok__law_orders_right {f fMa fSt fSf : Addr} {fd fdMa fdSt fdSf : FuncData}  {C : Addr} (F : Fun K "_law_orders_right" "_law_orders_right" a__law_orders_right f fd) (Ma : Kn P w K mg base 8 "_law_made" ["_law_case"] (spMade C) fMa fdMa) (St : FnG P w K mg base 8 fSt fdSt ["_law_hand", "_law_rows"] (spState C)) (gSt : mg "_law_state" = some (.ref fSt)) (kSt : PySem.W.keepIn K (.ref fSt) = true) (bSt : Binds K fdSt ["_law_hand", "_law_rows"] []) (Sf : Kn P w K mg base 3 "_law_shuffled" ["_law_pot_here", "_law_letters_here"] spShf fSf fdSf) (Hh : C8.Met P w K mg base 7 C "hear" (spHear C) []) (Hc : C8.Met P w K mg base 4 C "count_of" (spCount C) []) (X : HandTxt K C) (m_int : mg "int" = none) (m_max : mg "max" = none) : FnG P w K mg base 9 f fd ["_law_pot_here", "_law_case", "_law_letters_here"] (spOrd C) := by
  refine fnG F sc__law_orders_right (fun vs H Q E h => ?_) (fun cdv A outer s H vs Q E hG hr h => ?_)
  · obtain ⟨p, q0, R, A, as, zs, h, L, Pl, c, rfl, _⟩ := h
    rfl
  · obtain ⟨p, q0, R, A, as, zs, h, L, Pl, c, rfl, pp, hc, ca, bs, ws, eA, nAp, al, l8, uq, pw, q⟩ := h
    refine ⟨_, (pss_cons (ps_asg (pe_tup (pa_cons (pe_kn Ma hr (by omega) (pa_cons (pv 1) pa_nil)) (pa_cons (pe_kn Ma hr (by omega) (pa_cons (pv 1) pa_nil)) (pa_cons (pe_ix ix_tup (pv 1) pe_int (fun _ _ => rfl)) (pa_cons (pe_ix ix_tup (pv 1) pe_int (fun _ _ => rfl)) pa_nil))))) (pg_tup rfl (pgs_cons (pg_name (i := 3) sc__law_orders_right.nd rfl (.inl rfl)) (pgs_cons (pg_name (i := 4) sc__law_orders_right.nd rfl (.inl rfl)) (pgs_cons (pg_name (i := 5) sc__law_orders_right.nd rfl (.inl rfl)) (pgs_cons (pg_name (i := 6) sc__law_orders_right.nd rfl (.inl rfl)) pgs_nil))))))
      (pss_cons (ps_for PassesOwn.never rfl (pi_list (pv 2)) (pg_name (i := 7) sc__law_orders_right.nd rfl (.inl rfl))
        (pss_one (ps_if (pt_cmpR (op_neD hr.units) (C8.pe_mt Hh hr (by omega) (pv 3) (pa_cons (pv 7) pa_nil)) (pe_tup pa_nil) (nomark _)) (pss_one (ps_ret pe_bl)) pss_nil)))
      (pss_cons (ps_for PassesOwn.never rfl (pi_list (pe_kn Sf hr (by omega) (pa_cons (pv 0) (pa_cons (pv 2) pa_nil)))) (pg_name (i := 7) sc__law_orders_right.nd rfl (.inl rfl))
        (pss_one (ps_if (pt_cmpR (op_neD hr.units) (C8.pe_mt Hh hr (by omega) (pv 4) (pa_cons (pv 7) pa_nil)) (pe_tup pa_nil) (nomark _)) (pss_one (ps_ret pe_bl)) pss_nil)))
      (pss_cons (ps_if (pt_cmpR op_ne (pe_callG hG St (hr.mono (by omega)) (by rfl) gSt kSt bSt (pa_cons (pv 3) (pa_cons (pv 5) pa_nil))) (pe_callG hG St (hr.mono (by omega)) (by rfl) gSt kSt bSt (pa_cons (pv 4) (pa_cons (pv 5) pa_nil))) (nomark _)) (pss_one (ps_ret pe_bl)) pss_nil)
      (pss_cons (ps_set (i := 8) sc__law_orders_right.nd rfl (.inl rfl) (pe_op op_cat (
        pe_lc (own := [("_law_letter", 7)]) (g := (gName 7)) (tt := (tTest (tOp (fun x y H Q => y = V.non ∧ Q (V.bl (!decide (x = V.non))) H) (tOp (rIxT K) (tVar 7) (tUn (rU fun i => .int (-i)) (tC (.int 1)))) (tC .non)))) (te := (tOp (rIxT K) (tVar 7) (tUn (rU fun i => .int (-i)) (tC (.int 1))))) rfl sc__law_orders_right.nd (pi_list (pv 2)) (blkOk_by (N := n__law_orders_right) (sc := defScope a__law_orders_right) (by decide +kernel))
          (fun _ _ _ _ _ => (pg_name (i := 7) sc__law_orders_right.nd rfl (.inl rfl) (hf := .inr rfl))) (fun _ _ _ _ _ => pts_one (pt_cmpR op_notN (pe_ix (r := rIxT K) ix_tup (pv 7) (pe_un un_neg pe_int) (fun _ _ => rfl)) pe_non (nomark _))) (fun _ _ _ _ _ => (pe_ix (r := rIxT K) ix_tup (pv 7) (pe_un un_neg pe_int) (fun _ _ => rfl)))) (pe_op op_rep (pe_lst (pa_cons (pv 6) pa_nil)) (pe_callTy call_int1 (by rfl) m_int (by decide +kernel) (pa_cons (pe_cmpR op_notN (pv 6) pe_non (nomark _)) pa_nil)))))
      (pss_cons (ps_if (PW.pt (pw_and (pt_cmpR (op_ne0L hr.units0) (pv 8) (pe_lst pa_nil) (nomark _)) (pw_and1 (PW.pt (pw_or (pt_cmpR op_isN (pe_fld (pv 3) rfl) pe_non (nomark _)) (pw_or1 (pt_cmpR op_ne (pe_ix ix_tup (pe_fld (pv 3) rfl) pe_int (fun _ _ => rfl)) (pe_callB (cr_max rfl) (by rfl) m_max (by decide +kernel) (pa_cons (
        pe_lc (own := [("_law_one", 13)]) (g := (gName 13)) (tt := tYes) (te := (tOp (rIxT K) (tVar 13) (tC (.int 0)))) rfl sc__law_orders_right.nd (pi_list (pv 8)) (blkOk_by (N := n__law_orders_right) (sc := defScope a__law_orders_right) (by decide +kernel))
          (fun _ _ _ _ _ => (pg_name (i := 13) sc__law_orders_right.nd rfl (.inl rfl) (hf := .inr rfl))) (fun _ _ _ _ _ => pts_nil) (fun _ _ _ _ _ => (pe_ix (r := rIxT K) ix_tup (pv 13) pe_int (fun _ _ => rfl)))) pa_nil)) (nomark _)))))))) (pss_one (ps_ret pe_bl)) pss_nil)
      (pss_cons (ps_for PassesOwn.never rfl (pi_tup (pv 5)) (pg_tup rfl (pgs_cons (pg_name (i := 9) sc__law_orders_right.nd rfl (.inr rfl)) (pgs_cons (pg_name (i := 10) sc__law_orders_right.nd rfl (.inl rfl)) (pgs_cons (pg_name (i := 11) sc__law_orders_right.nd rfl (.inl rfl)) pgs_nil))))
        (pss_cons (ps_setLc (i := 12) (own := [("_law_letter", 7)]) (g := (gName 7)) (tt := (tAnd (tTest (tOp rEq (tOp (rIxT K) (tVar 7) (tC (.int 0))) (tC (.str "leave")))) (tTest (tOp rEq (tOp (rIxT K) (tVar 7) (tC (.int 1))) (tVar 9))))) (te := (tOp (rIxT K) (tVar 7) (tC (.int 2)))) rfl sc__law_orders_right.nd rfl rfl (sw_true rfl rfl rfl (by decide +kernel)) (pi_list (pv 2)) (blkOk_by (N := n__law_orders_right) (sc := defScope a__law_orders_right) (by decide +kernel))
          (fun _ _ _ _ _ => (pg_name (i := 7) sc__law_orders_right.nd rfl (.inl rfl) (hf := .inr rfl))) (fun _ _ _ _ _ => pts_one (PW.pt (pw_and (pt_cmpR op_eq (pe_ix (r := rIxT K) ix_tup (pv 7) pe_int (fun _ _ => rfl)) pe_str (nomark _)) (pw_and1 (pt_cmpR op_eq (pe_ix (r := rIxT K) ix_tup (pv 7) pe_int (fun _ _ => rfl)) (pv 9) (nomark _)))))) (fun _ _ _ _ _ => (pe_ix (r := rIxT K) ix_tup (pv 7) pe_int (fun _ _ => rfl))))
      (pss_one (ps_if (pt_cmpR op_ne (C8.pe_mt Hc hr (by omega) (pv 3) (pa_cons (pv 9) pa_nil)) (pe_callB (cr_max rfl) (by rfl) m_max (by decide +kernel) (pa_cons (pe_op op_cat (pe_lst (pa_cons (pv 11) pa_nil)) (pv 12)) pa_nil)) (nomark _)) (pss_one (ps_ret pe_bl)) pss_nil))))
      (pss_one (ps_ret pe_bl))))))))), ?_⟩
    obtain ⟨⟨cv, ce, cw⟩, cr, cra⟩ := id ca
    have ko := tk_off pp
    refine ⟨.ref q0, rfl, q0, R, as, zs, h, rfl, ca, bs.ok, ws, fun H1 x D T s1 a1 nDT u1 n1 n5 n2 => ⟨.ref q0, rfl, q0, R, as, zs, h, rfl, ca.tk (tk_same s1), bs.ok, ws, fun H2 y E F s2 a2 nEF u2 m1 m5 m2 => ?_⟩⟩
    have two : Two C (offP p H) H2 x D T y E F h h := two_made (same_off (But.of s1)) a1 nDT u1 (none_off n1) (none_off n5) (none_off n2) s2 a2 nEF u2 m1 m5 m2
    have s12 := s1.trans s2
    have p2 := pp.keep s12
    clear a1 u1 n1 n5 n2 s2 a2 u2 m1 m5 m2 s1
    refine ⟨.ref q0, rfl, q0, _, 2, .ref R, rfl, rfl, .inl (.inl (s12 _ _ ce)), atI_nat (j := 2) rfl, .ref q0, rfl, q0, _, 3, cv, rfl, rfl, .inl (.inl (s12 _ _ ce)), atI_nat (j := 3) rfl, (show 4 ≤ sizeLine by decide), fun W nW => ?_⟩
    have sW := same_new (o := HO.tup [V.ref x, .ref y, .ref R, cv]) nW
    have eW : (upd H2 W (HO.tup [V.ref x, .ref y, .ref R, cv])) W = some (.tup [V.ref x, .ref y, .ref R, cv]) := upd_same
    have two := two.same sW
    have p3 := p2.keep sW
    generalize upd H2 W (HO.tup [V.ref x, .ref y, .ref R, cv]) = H3 at sW eW two p3 ⊢
    refine ⟨W, _, rfl, .inl (.inl eW), rfl, _, _, rfl, _, _, rfl, _, _, rfl, _, _, rfl, rfl, ?_⟩
    clear sW eW nW p2 s12
    dsimp only [List.set]
    have eA' : ∀ {H' : Hp} {g1 g2 : Hd}, Two C (offP p H) H' x D T y E F g1 g2 → H' A = some (.lst (rfs L)) := fun t => t.fr _ _ (by rw [offP_ne nAp]; exact eA)
    have tkf : ∀ {H' : Hp} {g1 g2 : Hd}, Two C (offP p H) H' x D T y E F g1 g2 → TupK H H' := fun t => ko.trans5 (tk_same t.fr)
    obtain ⟨ls, hls⟩ : ∃ ls, ls = L.map (·.2) := ⟨_, rfl⟩
    have lsL : ls.length = L.length := by rw [hls, List.length_map]
    have lslw : ∀ l ∈ ls, LetP l ∧ l.1 ≠ "ask" := fun l hl => by
      rw [hls] at hl
      obtain ⟨z, hz, rfl⟩ := List.mem_map.mp hl
      obtain ⟨_, h1, _, h2, _⟩ := al z hz
      exact ⟨h1, h2⟩
    have b31 : (10 : Int) ^ 30 ≤ 10 ^ 31 := by decide
    -- the one hand
    refine ⟨_, rfl, A, rfl, ⟨_, .inl (.inl (eA' two))⟩, for_it (walk_list (xs := rfs L)) (fun j σ H' => (∃ u7, σ = [some (.ref p), some (.ref q0), some (.ref A), some (.ref x), some (.ref y), some (.ref R), some cv, u7, none, none, none, none, none, none]) ∧ PotAt H' p c ∧ Two C (offP p H) H' x D T y E F (fld h (ls.take j)) h ∧ Gd5 h (10 ^ 31 + (j : Int)) (fld h (ls.take j))) ⟨⟨_, rfl⟩, p3, two, (Gd5.zero bs ws).mono (by omega)⟩ (fun j σ H' _ yy => .inl (.inl (eA' yy.2.2.1))) (fun j v σ H4' H4 hj yy z => ?_) (fun σ H4 yy => ?_)⟩
    · obtain ⟨⟨u7, rfl⟩, p4, tw, gd⟩ := yy
      obtain ⟨rfl, gv⟩ := z
      obtain ⟨z, ez, rfl⟩ := mapGet gv
      obtain ⟨la, lp, lw, na, _⟩ := al z (List.mem_of_getElem? ez)
      have el : ls[j]? = some z.2 := by rw [hls, List.getElem?_map, ez]; rfl
      have e1 : fld h (ls.take (j + 1)) = ((fld h (ls.take j)).hear z.2).1 := by
        rw [List.take_add_one, el]
        unfold fld
        rw [List.foldl_append]
        rfl
      rw [e1]
      generalize fld h (ls.take j) = g at tw gd ⊢
      have gok := gd.ok bs
      have g40 : g.rows.length ≤ 40 := by have := gok.l8; omega
      have gw : ∀ w, z.2.2.2 = some w → g.thing < w.2.length := fun w e => by rw [gd.th]; exact (lw w e).2
      dsimp only [gName, List.set]
      obtain ⟨dx, vx, ex, _⟩ := tw.a.in
      refine ⟨.ref x, rfl, x, dx, _, rfl, ex, lkm, .ref z.1, rfl, x, D, T, z.1, g, z.2, rfl, tw.a, nDT, la.tk (tkf tw), lp, gw, g40, fun H5 ga b5 a5 ba5 => ?_⟩
      have t5 := tw.left b5 a5
      have p5 := pot_hear p4 tw.a b5
      have er : (g.hear z.2).2 = [] := by rw [hear_lw gok lp na]
      rw [er] at ba5
      refine ⟨(show 0 ≤ sizeLine by decide), fun W nW => ?_⟩
      have sW := same_new (o := HO.tup []) nW
      refine ⟨.tuple [], .tuple [], dp_bat (ba5.tk (tk_same sW)), .tup (.inl (.inl upd_same)) .nil, rfl, rfl, _, rfl, iteFa5 (by decide) ?_⟩
      exact ⟨⟨_, rfl⟩, p5.keep sW, t5.same sW, (gd.hear lp lw (by omega)).mono (by omega)⟩
    obtain ⟨⟨u7, rfl⟩, p4, tw, gd⟩ := yy
    have tkL : ls.take (rfs L).length = ls := List.take_of_length_le (by rw [lsL]; show L.length ≤ (L.map _).length; rw [List.length_map]; exact Nat.le_refl _)
    rw [tkL] at tw gd
    have gd1 := gd.mono (show 10 ^ 31 + ((rfs L).length : Int) ≤ 10 ^ 31 + 8 by
      have : (rfs L).length = L.length := List.length_map _
      omega)
    clear gd
    -- the other
    refine ⟨.ref p, rfl, .ref A, rfl, p, A, L, c, rfl, p4, by omega, eA' tw, nAp, l8, fun H5 F2 M b5 p5 eF2 mem lM nF2p nF2 => ?_⟩
    have tw5 := two_pot tw p4 b5
    clear tw p4 b5
    obtain ⟨ms, hms⟩ : ∃ ms, ms = M.map (·.2) := ⟨_, rfl⟩
    have msM : ms.length = M.length := by rw [hms, List.length_map]
    have nF2o : offP p H F2 = none ∨ True := .inr trivial
    refine ⟨F2, rfl, ⟨_, .inl (.inl eF2)⟩, for_it (walk_list (xs := rfs M)) (fun j σ H' => (∃ u7, σ = [some (.ref p), some (.ref q0), some (.ref A), some (.ref x), some (.ref y), some (.ref R), some cv, u7, none, none, none, none, none, none]) ∧ H' F2 = some (.lst (rfs M)) ∧ PotAt H' p (c + 16) ∧ Two C (offP p H) H' x D T y E F (fld h ls) (fld h (ms.take j)) ∧ Gd5 h (10 ^ 31 + (j : Int)) (fld h (ms.take j))) ⟨⟨_, rfl⟩, eF2, p5, tw5, (Gd5.zero bs ws).mono (by omega)⟩ (fun j σ H' _ yy => .inl (.inl yy.2.1)) (fun j v σ H4' H4 hj yy z => ?_) (fun σ H4 yy => ?_)⟩
    · obtain ⟨⟨u7, rfl⟩, eF, p4, tw, gd⟩ := yy
      obtain ⟨rfl, gv⟩ := z
      obtain ⟨z, ez, rfl⟩ := mapGet gv
      obtain ⟨la, lp, lw, na, _⟩ := al z ((mem z).mp (List.mem_of_getElem? ez))
      have el : ms[j]? = some z.2 := by rw [hms, List.getElem?_map, ez]; rfl
      have e1 : fld h (ms.take (j + 1)) = ((fld h (ms.take j)).hear z.2).1 := by
        rw [List.take_add_one, el]
        unfold fld
        rw [List.foldl_append]
        rfl
      rw [e1]
      generalize fld h (ms.take j) = g at tw gd ⊢
      have gok := gd.ok bs
      have g40 : g.rows.length ≤ 40 := by have := gok.l8; omega
      have gw : ∀ w, z.2.2.2 = some w → g.thing < w.2.length := fun w e => by rw [gd.th]; exact (lw w e).2
      dsimp only [gName, List.set]
      obtain ⟨dy, vy, ey, _⟩ := tw.b.in
      obtain ⟨kf, ef⟩ := tw.b.tt
      refine ⟨.ref y, rfl, y, dy, _, rfl, ey, lkm, .ref z.1, rfl, y, E, F, z.1, g, z.2, rfl, tw.b, nEF, la.tk (tkf tw), lp, gw, g40, fun H5 ga b5 a5 ba5 => ?_⟩
      have t5 := tw.right b5 a5
      have p5 := pot_hear p4 tw.b b5
      have eF5 := b5 _ _ (fun w => by rw [w, ey] at eF; cases eF) (fun w => by rw [w, ef] at eF; cases eF) eF
      have er : (g.hear z.2).2 = [] := by rw [hear_lw gok lp na]
      rw [er] at ba5
      refine ⟨(show 0 ≤ sizeLine by decide), fun W nW => ?_⟩
      have sW := same_new (o := HO.tup []) nW
      refine ⟨.tuple [], .tuple [], dp_bat (ba5.tk (tk_same sW)), .tup (.inl (.inl upd_same)) .nil, rfl, rfl, _, rfl, iteFa5 (by decide) ?_⟩
      exact ⟨⟨_, rfl⟩, sW _ _ eF5, p5.keep sW, t5.same sW, (gd.hear lp lw (by omega)).mono (by omega)⟩
    obtain ⟨⟨u7', rfl⟩, _, p6, tw6, _⟩ := yy
    have tkM : ms.take (rfs M).length = ms := List.take_of_length_le (by rw [msM]; show M.length ≤ (M.map _).length; rw [List.length_map]; exact Nat.le_refl _)
    rw [tkM] at tw6
    have eqf : fld h ms = fld h ls := (fld_congr uq bs.ok pw (fun l hl => by
      rw [hls] at hl
      obtain ⟨z, hz, rfl⟩ := List.mem_map.mp hl
      obtain ⟨_, h1, _, h2, h3⟩ := al z hz
      exact ⟨h3, h1, h2⟩) fun l => by
        rw [hls, hms, List.mem_map, List.mem_map]
        exact ⟨fun ⟨z, h1, h2⟩ => ⟨z, (mem z).mpr h1, h2⟩, fun ⟨z, h1, h2⟩ => ⟨z, (mem z).mp h1, h2⟩⟩).symm
    rw [eqf] at tw6
    have efld := fld_eq (h := h) bs.ok lslw
    clear tw5 eF2 lM nF2p nF2 nF2o p5
    -- the states
    have gok := gd1.ok bs
    have hs1 := gd1.hs bs (by decide)
    have sn : ShN (fld h ls) (h.rows.map (·.1)) := fun n hn => by
      rw [← gd1.keys] at hn
      obtain ⟨rl, c1, e⟩ := look_of hn
      exact ⟨rl, c1, e, gok.sh _ (look_mem5 e)⟩
    generalize hg : fld h ls = g at *
    have k6 := tkf tw6
    refine ⟨.ref x, rfl, .ref R, rfl, x, D, T, R, g, as, h.rows, zs, rfl, tw6.a, hs1, k6 _ _ cr, cra.tk k6, bs.ok.l8, sn, fun H7 ys1 bs1 s7 lk1' bt1 => ?_⟩
    have tw7 := tw6.same s7
    have k7 := tkf tw7
    refine ⟨.ref y, rfl, .ref R, rfl, y, E, F, R, g, as, h.rows, zs, rfl, tw7.b, hs1, k7 _ _ cr, cra.tk k7, bs.ok.l8, sn, fun H8 ys2 bs2 s8 lk2' bt2 => ?_⟩
    cases lk1'.uniq lk2'
    cases bt1.uniq bt2
    have tw8 := tw7.same s8
    have p8 := (p6.keep s7).keep s8
    clear tw6 tw7 k6 k7 s7 s8 p6
    refine ⟨rfl, _, rfl, iteFa5 (by simp) ?_⟩
    have k8 := tkf tw8
    have cw8 := cw.tk k8
    have al8 : ∀ z ∈ L, LetAt H8 z.1 z.2 ∧ LetP z.2 ∧ z.2.1 ≠ "ask" := fun z hz => by
      obtain ⟨h1, h2, _, h4, _⟩ := al z hz
      exact ⟨h1.tk k8, h2, h4⟩
    have eL : ∀ {j : Nat} {z : Addr × Lt}, L[j]? = some z → ls[j]? = some z.2 := fun {j z} ez => by rw [hls, List.getElem?_map, ez]; rfl
    -- the wishes that were told
    refine ⟨_, rfl, A, rfl, ⟨_, .inl (.inl (eA' tw8))⟩, fun Dd nDd => lc_it (walk_list (xs := rfs L)) (fun j H' => Same H8 H' ∧ ∃ us : List (V × Wi), H' Dd = some (.lst (us.map (·.1))) ∧ (∀ u ∈ us, WV H8 u.1 (some u.2)) ∧ us.map (·.2) = (ls.take j).filterMap (·.2.2) ∧ us.length ≤ j) ⟨same_new nDd, [], upd_same, fun _ h => absurd h List.not_mem_nil, rfl, Nat.le_refl _⟩ (fun j H' _ yy => .inl (.inl (yy.1 _ _ (eA' tw8)))) (fun j v H9' H9 hj yy z => ?_) (fun H9 yy => ?_)⟩
    · obtain ⟨s9, us, eD, wu, eu, lu⟩ := yy
      obtain ⟨rfl, gv⟩ := z
      obtain ⟨z, ez, rfl⟩ := mapGet gv
      obtain ⟨⟨v, e, wv⟩, _, _⟩ := al8 z (List.mem_of_getElem? ez)
      have jl : j < L.length := (List.getElem?_eq_some_iff.mp ez).1
      have e' := s9 _ _ e
      have ix : atI (.str z.2.1 :: (z.2.2.1.map V.int ++ [v])) (-1) = some v := atI_last (V.str z.2.1 :: z.2.2.1.map V.int) v
      have fm : (ls.take (j + 1)).filterMap (·.2.2) = (ls.take j).filterMap (·.2.2) ++ z.2.2.2.toList := by
        rw [List.take_add_one, eL ez, List.filterMap_append]
        cases hz : z.2.2.2 with
        | none => simp [hz]
        | some w0 => simp [hz]
      refine ⟨rfl, _, rfl, 1, rfl, z.1, _, -1, v, rfl, rfl, .inl (.inl e'), ix, rfl, _, rfl, ?_⟩
      rw [fm]
      cases hw : z.2.2.2 with
      | none =>
        rw [hw] at wv
        have wv' : v = .non := wv
        subst wv'
        refine iteFa5 (by simp) ⟨s9, us, eD, wu, by rw [eu]; simp, by omega⟩
      | some w0 =>
        rw [hw] at wv
        have wv0 := wv
        obtain ⟨W, T2, rfl, _⟩ := wv0
        refine iteTr5 (by simp) ⟨_, rfl, 1, rfl, z.1, _, -1, _, rfl, rfl, .inl (.inl e'), ix, _, eD, by rw [List.length_map]; exact small1000 (by omega), same_over s9 nDd, us ++ [(.ref W, w0)], by rw [upd_same, List.map_append]; rfl, fun u hu => ?_, by rw [List.map_append, eu]; rfl, by rw [List.length_append]; show us.length + 1 ≤ j + 1; omega⟩
        rcases List.mem_append.mp hu with h | h
        · exact wu u h
        · rw [List.mem_singleton.mp h]
          exact wv
    obtain ⟨s9, us, eD, wu, eu, lu⟩ := yy
    rw [tkL] at eu
    have lu8 : us.length ≤ 8 := by
      have : (rfs L).length = L.length := List.length_map _
      omega
    refine ⟨cv, rfl, (show 1 ≤ sizeLine by decide), fun X1 nX1 => ?_⟩
    have sX := same_new (o := HO.lst [cv]) nX1
    have eX : (upd H9 X1 (HO.lst [cv])) X1 = some (.lst [cv]) := upd_same
    have eD2 := sX _ _ eD
    have s10 := s9.trans sX
    generalize upd H9 X1 (HO.lst [cv]) = H10 at sX eX eD2 s10 ⊢
    refine ⟨cv, rfl, rfl, .inr ⟨_, rfl, ?_⟩⟩
    -- all of them
    obtain ⟨us2, hus2⟩ : ∃ us2 : List (V × Wi), us2 = us ++ (match h.wish with | none => [] | some w0 => [(cv, w0)]) := ⟨_, rfl⟩
    have k01 : ∃ k : Nat, (if (!decide (cv = V.non)) = true then (1 : Int) else 0) = (k : Int) ∧ k ≤ 1 ∧ us.map (·.1) ++ (List.replicate k [cv]).flatten = us2.map (·.1) := by
      cases hw : h.wish with
      | none =>
        rw [hw] at cw hus2
        have cw' : cv = .non := cw
        subst cw'
        exact ⟨0, by simp, by decide, by rw [hus2]; simp⟩
      | some w0 =>
        rw [hw] at cw hus2
        obtain ⟨W, T2, e1, _⟩ := cw
        have e1' : cv = .ref W := e1
        subst e1'
        exact ⟨1, by simp, by decide, by rw [hus2]; simp⟩
    obtain ⟨k, hk, k1, ecat⟩ := k01
    have wu2 : ∀ u ∈ us2, WV H8 u.1 (some u.2) := fun u hu => by
      rw [hus2] at hu
      rcases List.mem_append.mp hu with h' | h'
      · exact wu u h'
      · cases hw : h.wish with
        | none => rw [hw] at h'; exact absurd h' List.not_mem_nil
        | some w0 =>
          rw [hw] at h' cw8
          rw [List.mem_singleton.mp h']
          exact cw8
    have lu2 : us2.length ≤ 9 := by
      have e1 := congrArg List.length ecat
      rw [List.length_append, List.length_map, List.length_map] at e1
      have : (List.replicate k [cv]).flatten.length ≤ 1 := by
        rw [List.length_flatten]
        simp
        omega
      omega
    have mem2 : ∀ w0 : Wi, (∃ u ∈ us2, u.2 = w0) ↔ (h.wish = some w0 ∨ ∃ l ∈ ls, l.2.2 = some w0) := fun w0 => by
      have e1 : (∃ u ∈ us, u.2 = w0) ↔ ∃ l ∈ ls, l.2.2 = some w0 := by
        have : w0 ∈ us.map (·.2) ↔ w0 ∈ ls.filterMap (·.2.2) := by rw [eu]
        rw [List.mem_map, List.mem_filterMap] at this
        exact this
      rw [hus2, ← e1]
      constructor
      · rintro ⟨u, hu, rfl⟩
        rcases List.mem_append.mp hu with h' | h'
        · exact .inr ⟨u, h', rfl⟩
        · cases hw : h.wish with
          | none => rw [hw] at h'; exact absurd h' List.not_mem_nil
          | some w1 =>
            rw [hw] at h'
            rw [List.mem_singleton.mp h']
            exact .inl rfl
      · rintro (h' | ⟨u, hu, e⟩)
        · rw [h']
          exact ⟨(cv, w0), List.mem_append_right _ List.mem_cons_self, rfl⟩
        · exact ⟨u, List.mem_append_left _ hu, e⟩
    rw [hk]
    refine ⟨X1, (k : Int), [cv], rfl, rfl, eX, by omega, by omega, by rw [Int.toNat_natCast]; exact Nat.le_trans (show 1 * k ≤ 1000 by omega) (by decide), fun Y1 nY1 => ?_⟩
    rw [Int.toNat_natCast]
    have sY := same_new (o := HO.lst (List.replicate k [cv]).flatten) nY1
    have eY : (upd H10 Y1 (HO.lst (List.replicate k [cv]).flatten)) Y1 = some (.lst (List.replicate k [cv]).flatten) := upd_same
    have eD3 := sY _ _ eD2
    have s11 := s10.trans sY
    generalize upd H10 Y1 (HO.lst (List.replicate k [cv]).flatten) = H11 at sY eY eD3 s11 ⊢
    refine ⟨Dd, Y1, _, _, rfl, rfl, eD3, eY, ?_, fun Z1 nZ1 => ?_⟩
    · have e1 := congrArg List.length ecat
      have e2 : (us2.map (fun x => x.1)).length = us2.length := List.length_map _
      rw [List.length_append, e2] at e1
      rw [e1]
      exact Nat.le_trans lu2 (by decide)
    rw [ecat]
    have sZ := same_new (o := HO.lst (us2.map (·.1))) nZ1
    have eZ : (upd H11 Z1 (HO.lst (us2.map (·.1)))) Z1 = some (.lst (us2.map (·.1))) := upd_same
    have s12 := s11.trans sZ
    generalize upd H11 Z1 (HO.lst (us2.map (·.1))) = H12 at sZ eZ s12 ⊢
    have tw12 := tw8.same s12
    have p12 := p8.keep s12
    have wu12 : ∀ u ∈ us2, WV H12 u.1 (some u.2) := fun u hu => (wu2 u hu).tk (tk_same s12)
    clear wu wu2 eu lu sX eX eD2 s10 sY eY eD3 s11 sZ s12 cw8 al8 k8 hk ecat hus2 eD s9 nDd nX1 nY1 nZ1
    dsimp only [gName, List.set]
    have gwish : g.wish = wf ls h.wish := by rw [efld]
    refine tAnd_no (b1 := !us2.isEmpty) (fun Rr hR => ⟨_, rfl, (show 0 ≤ sizeLine by decide), fun E1 nE1 => ⟨Z1, E1, us2.map (·.1), rfl, rfl, .inl (.inl (same_new nE1 _ _ eZ)), .inl (.inl upd_same), _, rfl, ?_⟩⟩) (fun hb H13 s13 Rr hR => ?_) (fun H13 s13 => iteFa5 rfl ?_)
    · have : (us2.map (·.1)).isEmpty = us2.isEmpty := by cases us2 <;> rfl
      rw [this]
      exact hR _ (same_new nE1)
    · -- its wish is the greatest
      have tw13 := tw12.same s13
      obtain ⟨dx, vx, ex, wx⟩ := tw13.a.in
      obtain ⟨u0, hu0⟩ : ∃ u, u ∈ us2 := by
        cases us2 with
        | nil => cases hb
        | cons u _ => exact ⟨u, List.mem_cons_self⟩
      have le : ∀ u ∈ us2, u.2.1 ≤ wishN g.wish := fun u hu => by
        rw [gwish]
        rcases (mem2 u.2).mp ⟨u, hu, rfl⟩ with e | ⟨l, hl, e⟩
        · have := (wf_ge ls h.wish).1
          rw [e] at this ⊢
          exact this
        · have := (wf_ge ls h.wish).2 l hl
          rw [e] at this
          exact this
      have pos : 1 ≤ u0.2.1 := by
        rcases (mem2 u0.2).mp ⟨u0, hu0, rfl⟩ with e | ⟨l, hl, e⟩
        · exact (ws _ e).1.1
        · rw [hls] at hl
          obtain ⟨z, hz, rfl⟩ := List.mem_map.mp hl
          obtain ⟨_, _, h3, _⟩ := al z hz
          exact (h3 _ e).1.1
      cases gw : g.wish with
      | none =>
        have := le u0 hu0
        rw [gw] at this
        have : u0.2.1 ≤ 0 := this
        omega
      | some wg =>
        have att : ∃ u ∈ us2, u.2 = wg := (mem2 wg).mpr (by
          have e := gwish
          rw [gw] at e
          rcases wf_at ls h.wish with h' | ⟨l, hl, h'⟩
          · exact .inl (by rw [← h', ← e])
          · exact .inr ⟨l, hl, by rw [← h', ← e]⟩)
        rw [gw] at wx le
        obtain ⟨W, T2, e1, e2, e3⟩ := wx
        subst e1
        refine ⟨.ref x, rfl, x, C, dx, _, _, rfl, ex, X.cl, X.n3, lk3, rfl, _, rfl, iteFa5 (by simp) ?_⟩
        refine ⟨.ref x, rfl, x, C, dx, _, _, rfl, ex, X.cl, X.n3, lk3, W, _, 0, _, rfl, rfl, .inl (.inl e2), atI_nat (j := 0) rfl, .ref Z1, rfl, Z1, rfl, ⟨_, .inl (.inl (s13 _ _ eZ))⟩, fun D4 nD4 => lc_it (walk_list (xs := us2.map (·.1))) (fun j H' => Same H13 H' ∧ H' D4 = some (.lst (((us2.take j).map (fun u => u.2.1)).map V.int))) ⟨same_new nD4, upd_same⟩ (fun j H' _ yy => .inl (.inl (yy.1 _ _ (s13 _ _ eZ)))) (fun j v H14' H14 hj yy z => ?_) (fun H14 yy => ?_)⟩
        · obtain ⟨s14, eD⟩ := yy
          obtain ⟨rfl, gv⟩ := z
          obtain ⟨u, eu, rfl⟩ := mapGet gv
          obtain ⟨W5, T5, e5, e6, _⟩ := wu12 u (List.mem_of_getElem? eu)
          have ej : (us2.take (j + 1)).map (fun u => u.2.1) = (us2.take j).map (fun u => u.2.1) ++ [u.2.1] := by rw [List.take_add_one, eu, List.map_append]; rfl
          refine ⟨rfl, _, rfl, W5, _, 0, _, e5, rfl, .inl (.inl ((s13.trans s14) _ _ e6)), atI_nat (j := 0) rfl, _, eD, ?_, same_over s14 nD4, by rw [upd_same, ej, List.map_append]; rfl⟩
          rw [List.length_map, List.length_map, List.length_take]
          exact small1000 (by omega)
        · obtain ⟨s14, eD⟩ := yy
          have tk2 : us2.take (us2.map (·.1)).length = us2 := List.take_of_length_le (by rw [List.length_map]; exact Nat.le_refl _)
          rw [tk2] at eD
          refine ⟨D4, us2.map (fun u => u.2.1), rfl, .inl (.inl eD), by rw [List.length_map]; exact List.length_pos_of_mem hu0, fun m hm hmx => ⟨rfl, _, rfl, ?_⟩⟩
          have em : wg.1 = m := by
            obtain ⟨u, hu, e⟩ := att
            have h1 : u.2.1 ≤ m := hmx _ (List.mem_map.mpr ⟨u, hu, rfl⟩)
            rw [e] at h1
            obtain ⟨u', hu', e'⟩ := List.mem_map.mp hm
            have h2 : u'.2.1 ≤ wg.1 := le u' hu'
            omega
          rw [em]
          rw [show (!decide (V.int m = V.int m)) = false from by simp]
          exact hR _ s14
    · have tw13 := tw12.same s13
      have p13 := p12.keep s13
      clear wu12 eZ tw12 p12 mem2
      have k13 := tkf tw13
      refine ⟨_, rfl, R, rfl, ⟨_, .inl (.inl (k13 _ _ cr))⟩, for_it (walk_tup (xs := as.map V.ref)) (fun j σ H' => (∃ u7 u9 u10 u11 u12, σ = [some (.ref p), some (.ref q0), some (.ref A), some (.ref x), some (.ref y), some (.ref R), some cv, u7, some (.ref Z1), u9, u10, u11, u12, none]) ∧ Same H13 H') ⟨⟨_, _, _, _, _, rfl⟩, Same.refl _⟩ (fun j σ H' _ yy => .inl (.inl (yy.2 _ _ (k13 _ _ cr)))) (fun j v σ H14' H14 hj yy z => ?_) (fun σ H14 yy => ?_)⟩
      · obtain ⟨⟨u7, u9, u10, u11, u12, rfl⟩, s14⟩ := yy
        obtain ⟨rfl, gv⟩ := z
        obtain ⟨ad, ea, rfl⟩ := mapGet gv
        have lenA := cra.1
        have lenZ := cra.2.1
        have hia := (List.getElem?_eq_some_iff.mp ea).1
        obtain ⟨r, er⟩ : ∃ r, h.rows[j]? = some r := ⟨_, List.getElem?_eq_getElem (by omega)⟩
        obtain ⟨z, ez⟩ : ∃ z, zs[j]? = some z := ⟨_, List.getElem?_eq_getElem (by omega)⟩
        have tw14 := tw13.same s14
        have k14 := tkf tw14
        obtain ⟨_, f1, _⟩ := cra.2.2 j ad r z ea er ez
        refine ⟨ad, _, rfl, .inl (.inl (k14 _ _ f1)), rfl, _, _, rfl, _, _, rfl, _, _, rfl, rfl, ?_⟩
        dsimp only [List.set]
        have al14 : ∀ z ∈ L, LetAt H14 z.1 z.2 ∧ LetP z.2 ∧ z.2.1 ≠ "ask" := fun z hz => by
          obtain ⟨h1, h2, _, h4, _⟩ := al z hz
          exact ⟨h1.tk k14, h2, h4⟩
        have hr0 := List.mem_of_getElem? er
        refine ⟨_, rfl, A, rfl, ⟨_, .inl (.inl (eA' tw14))⟩, fun D5 nD5 => lc_it (walk_list (xs := rfs L)) (fun j H' => Same H14 H' ∧ H' D5 = some (.lst ((hsOf (ls.take j) r.1).map V.int)) ∧ (hsOf (ls.take j) r.1).length ≤ j) ⟨same_new nD5, upd_same, Nat.le_refl _⟩ (fun j H' _ yy => .inl (.inl (yy.1 _ _ (eA' tw14)))) (fun j v H15' H15 hj yy z => ?_) (fun H15 yy => ?_)⟩
        · obtain ⟨s15, eD, lD⟩ := yy
          obtain ⟨rfl, gv⟩ := z
          obtain ⟨z, ez, rfl⟩ := mapGet gv
          obtain ⟨⟨v, e, wv⟩, lp, na⟩ := al14 z (List.mem_of_getElem? ez)
          have jl : j < L.length := (List.getElem?_eq_some_iff.mp ez).1
          have e' := s15 _ _ e
          have eh : hsOf (ls.take (j + 1)) r.1 = hsOf (ls.take j) r.1 ++ (hs1Of z.2 r.1).toList := by
            rw [List.take_add_one, eL ez]
            exact hsOf_snoc _ _ _
          rw [eh]
          have lsmall : (hsOf (ls.take j) r.1).length < sizeLine := small1000 (by omega)
          generalize hsOf (ls.take j) r.1 = hs at eD lD lsmall ⊢
          generalize hzl : z.2 = l at e' lp na ⊢
          obtain ⟨a, ns, o⟩ := l
          have ea : (.str a :: (ns.map V.int ++ [v]) : List V)[0]? = some (.str a) := rfl
          rcases lp.1 with ⟨ha, l2⟩ | ⟨ha, l0, _⟩
          · have hl : a = "leave" := ha.resolve_left na
            subst hl
            match ns, l2, e' with
            | [m, k], _, e' =>
              refine ⟨rfl, .ref z.1, rfl, z.1, _, 0, _, rfl, rfl, .inl (.inl e'), atI_nat (j := 0) rfl, rfl, _, rfl, iteTr5 (by simp) ⟨.ref z.1, rfl, z.1, _, 1, _, rfl, rfl, .inl (.inl e'), atI_nat (j := 1) rfl, _, rfl, rfl, _, rfl, ?_⟩⟩
              by_cases hm : m = r.1
              · have e1 : hs1Of ("leave", [m, k], o) r.1 = some k := if_pos hm
                rw [e1]
                refine iteTr5 (by rw [hm]; simp) ⟨.ref z.1, rfl, z.1, _, 2, _, rfl, rfl, .inl (.inl e'), atI_nat (j := 2) rfl, _, eD, by rw [List.length_map]; exact lsmall, same_over s15 nD5, by rw [upd_same, List.map_append]; rfl, by rw [List.length_append]; show hs.length + 1 ≤ j + 1; omega⟩
              · have e1 : hs1Of ("leave", [m, k], o) r.1 = none := if_neg hm
                rw [e1]
                refine iteFa5 (decide_eq_false fun w => hm (by injection w)) ⟨s15, ?_, ?_⟩
                · rw [eD]
                  simp
                · simp
                  omega
          · have ha' : a = "word" := ha
            have l0' : ns = [] := l0
            subst ha'
            subst l0'
            have e1 : hs1Of ("word", [], o) r.1 = none := rfl
            rw [e1]
            refine ⟨rfl, .ref z.1, rfl, z.1, _, 0, _, rfl, rfl, .inl (.inl e'), atI_nat (j := 0) rfl, rfl, _, rfl, iteFa5 (decide_eq_false fun w => wne_l (by injection w)) (iteFa5 rfl ⟨s15, ?_, ?_⟩)⟩
            · rw [eD]
              simp
            · simp
              omega
        · obtain ⟨s15, eD, lD⟩ := yy
          rw [tkL] at eD lD
          dsimp only [List.set]
          have tw15 := tw14.same s15
          have lkg : look g.rows r.1 = some (r.2.1, cf ls r.1 r.2.2) := look_in gok.nd (r := (r.1, r.2.1, cf ls r.1 r.2.2)) (by
            rw [efld]
            exact List.mem_map.mpr ⟨r, hr0, rfl⟩)
          obtain ⟨dx, vx, ex, _⟩ := tw15.a.in
          refine ⟨.ref x, rfl, x, dx, _, rfl, ex, lkm, .int r.1, rfl, x, D, T, g, r.1, r.2.1, cf ls r.1 r.2.2, rfl, tw15.a, lkg, bs.ok.sh r hr0, fun H16 s16 => ?_⟩
          refine ⟨_, rfl, (show 1 ≤ sizeLine by decide), fun X2 nX2 => ?_⟩
          have s17 := same_new (o := HO.lst [V.int r.2.2]) nX2
          have eX : (upd H16 X2 (HO.lst [V.int r.2.2])) X2 = some (.lst [V.int r.2.2]) := upd_same
          have eD2 := (s16.trans s17) _ _ eD
          have s18 := (s15.trans s16).trans s17
          generalize upd H16 X2 (HO.lst [V.int r.2.2]) = H18 at eX eD2 s18 ⊢
          have lD2 : (hsOf ls r.1).length ≤ 8 := by
            have : (rfs L).length = L.length := List.length_map _
            omega
          refine ⟨_, rfl, X2, D5, _, _, rfl, rfl, eX, eD2, by rw [List.length_map]; exact Nat.le_trans (show 1 + (hsOf ls r.1).length ≤ 1000 by omega) (by decide), fun Y2 nY2 => ?_⟩
          have s19 := same_new (o := HO.lst ([V.int r.2.2] ++ (hsOf ls r.1).map V.int)) nY2
          have eY : (upd H18 Y2 (HO.lst ([V.int r.2.2] ++ (hsOf ls r.1).map V.int))) Y2 = some (.lst ((r.2.2 :: hsOf ls r.1).map V.int)) := upd_same
          refine ⟨Y2, _, rfl, .inl (.inl eY), by simp, fun m hm hmx => ⟨rfl, _, rfl, ?_⟩⟩
          have em : cf ls r.1 r.2.2 = m := by
            have h1 : m ≤ cf ls r.1 r.2.2 := by
              rcases List.mem_cons.mp hm with rfl | hm
              · exact (cf_ge ls r.1 r.2.2).1
              · obtain ⟨l, hl, e⟩ := List.mem_filterMap.mp hm
                refine (cf_ge ls r.1 r.2.2).2 l hl m ?_
                unfold hs1Of at e
                split at e
                · next m' k' em' =>
                  split at e
                  · next q => rw [em', q]; cases e; rfl
                  · cases e
                · cases e
            have h2 : cf ls r.1 r.2.2 ≤ m := by
              rcases cf_at ls r.1 r.2.2 with e | ⟨l, hl, e⟩
              · rw [e]
                exact hmx _ List.mem_cons_self
              · refine hmx _ (List.mem_cons_of_mem _ (List.mem_filterMap.mpr ⟨l, hl, ?_⟩))
                unfold hs1Of
                rw [e]
                exact if_pos rfl
            omega
          rw [em]
          refine iteFa5 (by simp) ?_
          exact ⟨⟨_, _, _, _, _, rfl⟩, s14.trans (s18.trans s19)⟩
      · obtain ⟨⟨u7, u9, u10, u11, u12, rfl⟩, s14⟩ := yy
        have tw14 := tw13.same s14
        exact q _ (but_off tw14.fr) ((p13.keep s14).mono (by omega))
end
end K65

set_option Elab.async false
set_option linter.all false
set_option maxRecDepth 100000
set_option maxHeartbeats 1000000
/-! What a plain search wants: sorted of any number of tuples, dicts whose keys are tuples. -/
namespace SrtO
open PySem PyProof.Rows Srt
section
variable {prog : Program} {w : World} {A : Around} {E : Value → Shared → Prop} {s : Shared}
def rkT (h : Heap) (B : Int) (v : Value) : Int := TS.code B (TS.intsOf h v)
theorem swo_rk (r : Value → Int) : Swo fun v u => decide (r v < r u) := by
  refine ⟨fun x y h => ?_, fun x y z h1 h2 => ?_⟩
  · have a := of_decide_eq_true h
    exact decide_eq_false (by omega)
  · have a := of_decide_eq_false h1
    have b := of_decide_eq_false h2
    exact decide_eq_false (by omega)
theorem tups_cmp {d : Nat} {B : Int} {vs : List Value} {r : Value → Int} (x : TS.TupsOk s.heap d B vs) (hr : ∀ v, v ∈ vs → ∀ ns, TS.TupInts s.heap v ns → r v = TS.code B ns) : Cmp prog w A s (tuples' true) (fun p => p.1 ∈ vs) (lt2 fun v u => decide (r v < r u)) := by
  intro p q hp hq
  obtain ⟨ns, tp, lp, bp⟩ := x _ hp
  obtain ⟨ms, tq, lq, bq⟩ := x _ hq
  have ep := hr _ hp _ tp
  have eq2 := hr _ hq _ tq
  show wpAny (model prog w) A (keyLt' (tuples' true) p.1 q.1) (fun b s' => s' = s ∧ b = decide (r p.1 < r q.1)) (fun _ _ => False) s
  rw [ep, eq2]
  obtain ⟨a, xs, e1, ⟨o, ho, hc, n, hdt⟩, i⟩ := tp
  obtain ⟨a', ys, e2, ⟨o', ho', hc', n', hdt'⟩, i'⟩ := tq
  rw [e1, e2]
  refine PySem.W.kat_lt ho hdt ho' hdt' ?_
  have sz : decide (xs.size < ys.size) = false := by
    have l1 := i.length
    have l2 := i'.length
    rw [Array.length_toList] at l1 l2
    exact decide_eq_false (by omega)
  rw [sz]
  exact TS.lex_ints 0 i i' (by omega) bp bq ⟨rfl, rfl⟩
theorem tups_sortableO {a : Addr} {vs : List Value} {d : Nat} {B : Int} {r : Value → Int} (hd1 : 1 ≤ d) (h2 : 2 ≤ vs.length) (x : TS.TupsOk s.heap d B vs) (hr : ∀ v, v ∈ vs → ∀ ns, TS.TupInts s.heap v ns → r v = TS.code B ns) (ha : ∀ o, s.heap.get? a = some o → o.cls ≠ .type "tuple") :
    SortableO prog w A s a vs fun v u => decide (r v < r u) := by
  intro h' keep
  have kp : ∀ b o, s.heap.get? b = some o → o.cls = .type "tuple" → h'.get? b = some o := fun b o e c => keep b o (fun z => by subst z; exact ha o e c) e
  have x' : TS.TupsOk h' d B vs := x.keeps kp
  obtain ⟨fs, h1, hl, h3⟩ := TS.firsts_of hd1 vs x'
  refine ⟨tuples' true, fun Q E hq => ?_, tups_cmp (s := { s with heap := h' }) x' fun v hv ns t => ?_⟩
  · refine PySem.W.kat_kind (T := .type "int") h1 (by omega) (fun f hm => ?_) (by rfl) ?_
    · obtain ⟨n, t, rfl⟩ := h3 f hm
      exact PySem.W.Looks.of_pure rfl
    · have e : (Value.type "int" != Value.type "tuple") = true := by first | decide +kernel | rfl | decide
      rw [e]
      exact hq
  · obtain ⟨ns0, t0, _⟩ := x v hv
    have e : ns = ns0 := t.ints.symm.trans (t0.keeps kp).ints
    rw [e]
    exact hr v hv ns0 t0
end
end SrtO

namespace NB
open PySem PySem.Spec PyProof.Rows L2
/-- sorted(xs), xs a list of tuples of d whole numbers each: a new list of the same ones -/
def rSortTT (K : PySem.W.Frag) (d : Nat) (B : Int) : List V → Hp → VK → Prop := fun vs H Q => ∃ (a : Addr) (L : List (Addr × List Int)), vs = [V.ref a] ∧ SqL K H a (L.map fun z => V.ref z.1) ∧ (∀ z ∈ L, H z.1 = some (.tup (z.2.map V.int)) ∧ z.2.length = d ∧ TS.Bd B z.2) ∧
  ∀ (ys : List V) (p : Addr), ys.Perm (L.map fun z => V.ref z.1) → H p = none → Q (.ref p) (upd H p (.lst ys))
section
variable {X : Cx}
theorem cr_sortTT {d : Nat} {B : Int} (hd1 : 1 ≤ d) : CallR X (.builtin "sorted") (rSortTT X.K d B) := by
  intro pins s σ H vs us Q I r h
  obtain ⟨a, L, rfl, hs, hx, q⟩ := h
  obtain ⟨its, rv, hl, hz⟩ := I.list hs
  obtain ⟨u, rfl, ru⟩ := vals1 r
  obtain rfl : u = Value.ref a := ru
  obtain ⟨e1, e2⟩ := refs_back rv fun x m => by
    obtain ⟨z, _, e⟩ := List.mem_map.mp m
    exact ⟨z.1, e.symm⟩
  have ok : TS.TupsOk s.heap d B its := fun v hv => by
    obtain ⟨t, rfl⟩ := e2 v hv
    have hm : V.ref t ∈ L.map fun z => V.ref z.1 := by rw [e1]; exact List.mem_map.mpr ⟨_, hv, rfl⟩
    obtain ⟨z, hz, e⟩ := List.mem_map.mp hm
    obtain ⟨ht, hn, hb⟩ := hx z hz
    have e' : z.1 = t := V.ref.inj e
    subst e'
    obtain ⟨its2, r2, p2, _⟩ := I.tuple (.inl (.inl ht))
    exact ⟨z.2, ⟨z.1, _, rfl, p2, by simpa using r2.ints⟩, hn, hb⟩
  refine SrtO.sorted_ord (SrtO.swo_rk fun v => TS.code B (TS.intsOf s.heap v)) hl.isList (by rw [← rv.length]; exact hz) (fun h2 h₁ a' ha' kk => ?_) fun out h1 h2 => ?_
  · have kp : ∀ b o, s.heap.get? b = some o → o.cls = .type "tuple" → h₁.get? b = some o := fun b o e _ => (kk b o e).2
    refine SrtO.tups_sortableO (s := { s with heap := h₁ }) hd1 h2 (ok.keeps kp) (fun v hv ns t => ?_) fun o e => ?_
    · obtain ⟨ns0, t0, _⟩ := ok v hv
      have e : ns = ns0 := t.ints.symm.trans (t0.keeps kp).ints
      rw [e, t0.ints]
    · have e' : some o = some (seqObj "list" its.toArray 0) := e.symm.trans ha'
      cases e'
      intro c
      exact absurd (Value.type.inj c) (by decide)
  · have h3 : ∀ u ∈ out, ∃ a, u = Value.ref a := fun u hu => e2 u (h2.perm.mem_iff.mp hu)
    obtain ⟨ep, he'⟩ := PyProof.Rows.sortedAll_at s.heap its out.toArray
    have hp : (out.map backV).Perm (L.map fun z => V.ref z.1) := by
      rw [e1]
      exact h2.perm.map backV
    refine ⟨.ref _, upd H (s.heap.objs.size + 1) (.lst (out.map backV)), I.laid (t' := s.toks) (fun _ _ => PyProof.Rows.sortedAll_old) (Nat.le_succ _) ⟨?_, out, ep, vals_back h3, he'⟩, rfl, q _ _ hp (I.hok.fresh (Nat.le_succ _))⟩
    rw [hp.length_eq]
    exact hz
/-- a dict made of pairs, each key a tuple -/
def putAll (ms : List (List Key × V)) : List (List Key × V) := ms.foldl (fun acc kv => putK acc kv.1 kv.2) []
theorem KT.putAll {H : Hp} {ms : List (List Key × V)} {ps : List (List Key × Addr × Value)} (r : Paired (fun m p => m.1 = p.1 ∧ H p.2.1 = some (.tup (p.1.map kV)) ∧ L2.RelV m.2 p.2.2) ms ps) : ∀ {acc : List (List Key × V)} {xs : List (List Key × Addr × Value)}, KT H acc xs →
    KT H (ms.foldl (fun acc kv => putK acc kv.1 kv.2) acc) (storedAllH xs ps) := by
  induction r with
  | nil => exact fun h => h
  | @cons m p ms ps h t ih =>
    intro acc xs hk
    have e : KT H (putK acc m.1 m.2) (storedH xs p.1 p.2.1 p.2.2) := by
      rw [h.1]
      exact hk.put p.1 h.2.1 h.2.2
    exact ih e
theorem putAll_len : ∀ (ms acc : List (List Key × V)), (ms.foldl (fun acc kv => putK acc kv.1 kv.2) acc).length ≤ acc.length + ms.length
  | [], acc => by simp
  | m :: ms, acc => by
    have h1 := putAll_len ms (putK acc m.1 m.2)
    have h2 := length_putK acc m.1 m.2
    rw [List.foldl_cons, List.length_cons]
    omega
/-- dict(xs), xs a list of pairs (tuple, value) -/
theorem call_dictT (hcalm : X.calm = true) (hu : X.A.units + 8 < cLine) : CallR X (.type "dict") (fun xs H Q => ∃ (a : Addr) (L : List (Addr × Addr × List Key × V)), xs = [.ref a] ∧ H a = some (.lst (L.map fun z => V.ref z.1)) ∧ (∀ z ∈ L, H z.1 = some (.tup [.ref z.2.1, z.2.2.2]) ∧ H z.2.1 = some (.tup (z.2.2.1.map kV))) ∧
    ∀ p, H p = none → Q (.ref p) (upd H p (.dT (putAll (L.map fun z => (z.2.2.1, z.2.2.2)))))) := by
  intro pins s σ H xs us Q I r q
  obtain ⟨a, L, ex, hq, hp, q⟩ := q
  subst ex
  obtain ⟨u, eu, rx⟩ := vals1 r
  subst eu
  cases rx
  obtain ⟨its, rv, pl, hz⟩ := I.list (.inl (.inl hq))
  have ei : its = L.map fun z => Value.ref z.1 := by
    have e : (L.map fun z => V.ref z.1) = (L.map (·.1)).map V.ref := by rw [List.map_map]; rfl
    rw [e] at rv
    rw [refs_at rv, List.map_map]
    rfl
  subst ei
  rw [List.length_map] at hz
  -- the pairs as they stand in the machine
  have mk : ∀ (M : List (Addr × Addr × List Key × V)), (∀ z ∈ M, z ∈ L) → ∃ ps : List (List Key × Addr × Value), Paired (fun m p => m.1 = p.1 ∧ H p.2.1 = some (.tup (p.1.map kV)) ∧ RelV m.2 p.2.2) (M.map fun z => (z.2.2.1, z.2.2.2)) ps ∧ ps.length = M.length ∧
      ∀ (j : Nat) (p : List Key × Addr × Value), ps[j]? = some p → ∃ z, M[j]? = some z ∧ p.1 = z.2.2.1 ∧ p.2.1 = z.2.1 ∧ IsTup s.heap z.1 #[.ref p.2.1, p.2.2] := by
    intro M
    induction M with
    | nil => exact fun _ => ⟨[], .nil, rfl, fun j p e => by simp at e⟩
    | cons z M ih =>
      intro hM
      obtain ⟨ps, h1, h2, h3⟩ := ih fun y hy => hM y (List.mem_cons_of_mem _ hy)
      obtain ⟨hz1, hz2⟩ := hp z (hM z List.mem_cons_self)
      obtain ⟨its2, r2, p2, _⟩ := I.tuple (.inl (.inl hz1))
      obtain ⟨u1, u2, rfl, ra, rb⟩ := vals2 r2
      obtain rfl : u1 = Value.ref z.2.1 := ra
      refine ⟨(z.2.2.1, z.2.1, u2) :: ps, .cons ⟨rfl, hz2, rb⟩ h1, by rw [List.length_cons, List.length_cons, h2], fun j p e => ?_⟩
      cases j with
      | zero =>
        have e' : (z.2.2.1, z.2.1, u2) = p := Option.some.inj e
        subst e'
        exact ⟨z, rfl, rfl, rfl, p2⟩
      | succ j => exact h3 j p (by simpa using e)
  obtain ⟨ps, rel, hl, hps⟩ := mk L fun z hz => hz
  obtain ⟨o, n, ho, hc, hd, hdat⟩ := pl
  have items : PairItems s.heap (L.map fun z => Value.ref z.1).toArray (fun j => (L.getD j (0, 0, [], .non)).1) (ps.map fun p => (Value.ref p.2.1, p.2.2)) := by
    refine ⟨by simp [hl], fun j k v e => ?_⟩
    rw [List.getElem?_map] at e
    cases ej : ps[j]? with
    | none => rw [ej] at e; cases e
    | some p =>
      rw [ej] at e
      have e' : (Value.ref p.2.1, p.2.2) = (k, v) := Option.some.inj e
      cases e'
      obtain ⟨z, hz1, _, _, hz4⟩ := hps j p ej
      have eg : L.getD j (0, 0, [], .non) = z := by rw [List.getD_eq_getElem?_getD, hz1]; rfl
      refine ⟨by simp [hz1, eg], .inl ?_⟩
      show s.heap.IsTuple (L.getD j (0, 0, [], .non)).1 _
      rw [eg]
      exact hz4
  have hst : KeysStay (tupleKind (mixKind X.prog X.w)) s.heap s.heap.objs.size [] ps := fun h' hk x hx => by
    obtain ⟨j, hj, e⟩ := List.getElem_of_mem hx
    obtain ⟨z, hz1, e1, e2, _⟩ := hps j x (by rw [List.getElem?_eq_getElem hj, e])
    have hz2 := (hp z (List.mem_of_getElem? hz1)).2
    rw [e1, e2]
    obtain ⟨_, its3, r3, o3, q1, q2, n3, q3⟩ := (show ObjOk X.prog X.w H s.heap z.2.1 (.tup (z.2.2.1.map kV)) from I.hok _ _ hz2)
    exact ⟨o3, its3.toArray, n3, hk _ _ (Nat.ne_of_lt (Heap.lt_size q1)) (by simp) q1, q2, q3, by simpa using items_are r3⟩
  refine PySem.call_dict_pairsH (knd := tupleKind (mixKind X.prog X.w)) (ps := ps) (PairArg.list a _ _ (ps.map fun p => (Value.ref p.2.1, p.2.2))) (I.ok.hd hcalm) (tupleKind_room_in1 (A := X.A.in1) (by show X.A.units + 1 + 1 < cLine; omega)) ⟨⟨o, n, ho, hc, hd, hdat⟩, items⟩ ⟨by rw [List.length_map], fun i key v e => ?_⟩ hst (by rw [List.length_map, hl]; exact hz) fun h' tk hd' k => ?_
  · have e' : (ps.map fun p => (Value.ref p.2.1, p.2.2))[i]? = some (key, v) := e
    rw [List.getElem?_map] at e'
    cases ej : ps[i]? with
    | none => rw [ej] at e'; cases e'
    | some p =>
      rw [ej] at e'
      have e2 : (Value.ref p.2.1, p.2.2) = (key, v) := Option.some.inj e'
      cases e2
      exact ⟨p.1, p.2.1, rfl, rfl⟩
  · have hm : (s.heap.objs.size == sysModules) = false := beq_eq_false_iff_ne.mpr (Nat.ne_of_gt I.big)
    have hlen : (putAll (L.map fun z => (z.2.2.1, z.2.2.2))).length ≤ sizeLine := by
      have := putAll_len (L.map fun z => (z.2.2.1, z.2.2.2)) []
      rw [List.length_nil, List.length_map] at this
      unfold putAll
      omega
    have nw := I.hok.fresh (Nat.le_refl s.heap.objs.size)
    have kt : KT (upd H s.heap.objs.size (.dT (putAll (L.map fun z => (z.2.2.1, z.2.2.2))))) (putAll (L.map fun z => (z.2.2.1, z.2.2.2))) (storedAllH [] ps) := (KT.putAll (acc := []) (xs := []) rel .nil).keeps fun b ys e => by
      rw [upd_ne (ne_of_none e nw)]
      exact e
    obtain ⟨q', es, ep, g1, g2, g3, g4, _, g5⟩ := hd'
    exact ⟨.ref s.heap.objs.size, upd H s.heap.objs.size (.dT (putAll (L.map fun z => (z.2.2.1, z.2.2.2)))), I.laid (t' := tk) (fun b o e => k b o (by simp) e) (Nat.le_refl _) (show ObjOk X.prog X.w _ _ _ (.dT (putAll (L.map fun z => (z.2.2.1, z.2.2.2)))) from ⟨hlen, hm, _, kt, q', es, ep, g1, g2, g3, g4, g5⟩), rfl, q _ nw⟩
/-- {t: v}, t a tuple -/
def tDispT (tk tv : TE) : TE := fun σ H Q => ∀ p, H p = none → tk σ (upd H p (.dT [])) fun x H1 => tv σ H1 fun y H2 => ∃ (b : Addr) (k : List Key), x = .ref b ∧ H2 b = some (.tup (k.map kV)) ∧ H2 p = some (.dT []) ∧ Q (.ref p) (upd H2 p (.dT [(k, y)]))
theorem pe_dispT {pos : Pos} {ke ve : Expr} {tk tv : TE} (hk : PE X ke tk) (hv : PE X ve tv) (hu : X.A.units + 8 < cLine) : PE X (.Dict [some ke] [ve] pos) (tDispT tk tv) := by
  refine ⟨fun pins s σ H Q I q => ?_⟩
  have hn := I.hok.fresh (Nat.le_refl s.heap.objs.size)
  have hsys : (s.heap.objs.size == sysModules) = false := beq_eq_false_iff_ne.mpr (Nat.ne_of_gt I.big)
  have I1 := I.laid (a := s.heap.objs.size) (o := .dT []) (h' := s.heap.push { cls := .type "dict", data := .dict #[] }) (t' := s.toks) (fun _ _ q => Heap.get?_push_of_some _ q) (Nat.le_refl _)
    (show ObjOk X.prog X.w _ _ _ (.dT []) from ⟨Nat.zero_le _, hsys, [], .nil, by
      obtain ⟨o, es, ep, g1, g2, g3, g4, _, g5⟩ := (Heap.DictOfH.new (knd := tupleKind (mixKind X.prog X.w)) s.heap)
      exact ⟨o, es, ep, g1, g2, g3, g4, g5⟩⟩)
  refine wpAny_Dict_any (by rfl) (by rfl) (by intro z; cases z) (show 1 ≤ 15 by decide) ?_
  refine pairTrees_cons_walk (thn (hk.run pins _ σ _ _ I1 (q _ hn)) fun u s1 ⟨x, H1, J1, rx, q1⟩ => thn (hv.run pins s1 σ H1 _ J1 q1) fun w2 s2 ⟨y, H2, J2, ry, q2⟩ => pairTrees_nil_walk ?_)
  obtain ⟨b, k, rfl, eb, ep, q3⟩ := q2
  cases rx
  obtain ⟨z, hd, xs, rel, dd⟩ := dt_of J2.hok ep
  cases rel
  refine wpAny_bind (wpAny_bind (wpAny_dictSet_heap (knd := tupleKind (mixKind X.prog X.w)) (hsz := Nat.zero_le _) (show X.A.units < cLine by omega) (key_of J2.hok eb) dd fun h' dd' hs => wpAny_pure ?_))
  refine wpAny_pure ?_
  obtain ⟨q', es, ep', g1, g2, g3, g4, _, g5⟩ := dd'
  refine ⟨.ref s.heap.objs.size, _, d_write (t' := _) J2 (by rw [ep]; exact True.intro) hs ⟨q', g1⟩ (ob := .dT [(k, y)]) ⟨(show 1 ≤ sizeLine by decide), hd, _, .cons ⟨rfl, ?_, ry⟩ .nil, q', es, ep', g1, g2, g3, g4, g5⟩, rfl, q3⟩
  rw [upd_ne (ne_of eb ep (fun z => nomatch z))]
  exact eb
end
end NB

set_option Elab.async false
set_option linter.all false
set_option maxRecDepth 100000
set_option maxHeartbeats 1000000
/-! Dicts whose keys are nested tuples: dict(pairs), d[k]. -/
namespace NB
open PySem PySem.Spec PyProof.Rows L2
mutual
/-- the value v is the key k -/
inductive NkAt (H : Hp) : NestedKey → V → Prop
  | non : NkAt H .none .non
  | int (i : Int) : NkAt H (.num i) (.int i)
  | str (x : Str) : NkAt H (.text x) (.str x)
  | tup {a : Addr} {xs : List V} {ks : List NestedKey} : H a = some (.tup xs) → NkAll H ks xs → NkAt H (.tup ks) (.ref a)
inductive NkAll (H : Hp) : List NestedKey → List V → Prop
  | nil : NkAll H [] []
  | cons {k : NestedKey} {v : V} {ks : List NestedKey} {vs : List V} : NkAt H k v → NkAll H ks vs → NkAll H (k :: ks) (v :: vs)
end
mutual
theorem NkAt.tk {H H' : Hp} (t : ∀ b xs, H b = some (.tup xs) → H' b = some (.tup xs)) : ∀ (k : NestedKey) (v : V), NkAt H k v → NkAt H' k v
  | .none, _, h => by cases h; exact .non
  | .num i, _, h => by cases h; exact .int i
  | .text x, _, h => by cases h; exact .str x
  | .tup ks, _, h => by
    cases h with
    | tup e ha => exact .tup (t _ _ e) (NkAll.tk t ks _ ha)
theorem NkAll.tk {H H' : Hp} (t : ∀ b xs, H b = some (.tup xs) → H' b = some (.tup xs)) : ∀ (ks : List NestedKey) (vs : List V), NkAll H ks vs → NkAll H' ks vs
  | [], _, h => by cases h; exact .nil
  | k :: ks, _, h => by
    cases h with
    | cons h hs => exact .cons (NkAt.tk t k _ h) (NkAll.tk t ks _ hs)
end
section
variable {X : Cx} {pins : List (Addr × Obj)} {σ : L2.St} {H : Hp} {s : Shared}
mutual
theorem NkAt.nest (I : Inv X pins σ H s) : ∀ (k : NestedKey) (v : V) (u : Value), NkAt H k v → RelV v u → NestedIs s.heap k u
  | .none, _, u, h, r => by
    cases h
    obtain rfl := (show u = Value.none from r)
    exact .none
  | .num i, _, u, h, r => by
    cases h
    obtain ⟨t, rfl⟩ := (show ∃ t, u = Value.int i t from r)
    exact .int i t
  | .text x, _, u, h, r => by
    cases h
    obtain ⟨t, rfl⟩ := (show ∃ t, u = Value.str x t from r)
    exact .text x t
  | .tup ks, _, u, h, r => by
    cases h with
    | @tup a xs _ e ha =>
      obtain rfl := (show u = Value.ref a from r)
      obtain ⟨_, its, rv, o, q1, q2, n, q3⟩ := (show ObjOk X.prog X.w H s.heap a (.tup xs) from I.hok _ _ e)
      exact .tup q1 q2 q3 (by simpa using NkAll.nest I ks xs its ha rv)
theorem NkAll.nest (I : Inv X pins σ H s) : ∀ (ks : List NestedKey) (vs : List V) (us : List Value), NkAll H ks vs → Vals vs us → NestedAll s.heap ks us
  | [], _, us, h, r => by
    cases h
    cases r
    exact .nil
  | k :: ks, _, us, h, r => by
    cases h with
    | cons h hs =>
      cases r with
      | cons r rs => exact .cons (NkAt.nest I k _ _ h r) (NkAll.nest I ks _ _ hs rs)
end
end
def rowN (z : NestedKey × Addr × Addr) : NestedKey × Addr × Value := (z.1, z.2.1, .ref z.2.2)
/-- a dict whose keys are nested tuples; its values are objects -/
def DctN (P : Program) (w : World) (a : Addr) (L : List (NestedKey × Addr × Addr)) : HO :=
  .ext fun h => ∃ o es ep, h.get? a = some o ∧ o.ExactDict ∧ o.data = .dict es ep ∧ es.toList = (L.map rowN).map (entryOfKey (nestedKind P w))
section
variable {X : Cx}
/-- dict(xs), xs a list of pairs (nested tuple, object) -/
theorem call_dictN (hcalm : X.calm = true) (hu : X.A.units + 12 < cLine) : CallR X (.type "dict") (fun xs H Q => ∃ (a : Addr) (L : List (Addr × NestedKey × Addr × Addr)), xs = [.ref a] ∧ H a = some (.lst (L.map fun z => V.ref z.1)) ∧
    (∀ z ∈ L, H z.1 = some (.tup [.ref z.2.2.1, .ref z.2.2.2]) ∧ NkAt H z.2.1 (.ref z.2.2.1) ∧ z.2.1.depth ≤ 8) ∧ (L.map fun z => z.2.1).Nodup ∧
    ∀ p, H p = none → Q (.ref p) (upd H p (DctN X.prog X.w p (L.map (·.2))))) := by
  intro pins s σ H xs us Q I r q
  obtain ⟨a, L, ex, hq, hp, hnd, q⟩ := q
  subst ex
  obtain ⟨u, eu, rx⟩ := vals1 r
  subst eu
  cases rx
  obtain ⟨its, rv, pl, hz⟩ := I.list (.inl (.inl hq))
  have ei : its = L.map fun z => Value.ref z.1 := by
    have e : (L.map fun z => V.ref z.1) = (L.map (·.1)).map V.ref := by rw [List.map_map]; rfl
    rw [e] at rv
    rw [refs_at rv, List.map_map]
    rfl
  subst ei
  rw [List.length_map] at hz
  obtain ⟨o, n, ho, hc, hd, hdat⟩ := pl
  have rowAt : ∀ (j : Nat) (p : NestedKey × Addr × Value), ((L.map (·.2)).map rowN)[j]? = some p → ∃ z, L[j]? = some z ∧ p = (z.2.1, z.2.2.1, .ref z.2.2.2) := fun j p e => by
    rw [List.getElem?_map, List.getElem?_map] at e
    cases ej : L[j]? with
    | none => rw [ej] at e; cases e
    | some z =>
      rw [ej] at e
      exact ⟨z, rfl, (Option.some.inj e).symm⟩
  have items : PairItems s.heap (L.map fun z => Value.ref z.1).toArray (fun j => (L.getD j (0, .none, 0, 0)).1) (((L.map (·.2)).map rowN).map fun p => (Value.ref p.2.1, p.2.2)) := by
    refine ⟨by simp, fun j k v e => ?_⟩
    rw [List.getElem?_map] at e
    cases ej : ((L.map (·.2)).map rowN)[j]? with
    | none => rw [ej] at e; cases e
    | some p =>
      rw [ej] at e
      obtain ⟨z, hz1, rfl⟩ := rowAt j p ej
      have e' : (Value.ref z.2.2.1, Value.ref z.2.2.2) = (k, v) := Option.some.inj e
      cases e'
      have eg : L.getD j (0, .none, 0, 0) = z := by rw [List.getD_eq_getElem?_getD, hz1]; rfl
      refine ⟨by simp [hz1, eg], .inl ?_⟩
      show s.heap.IsTuple (L.getD j (0, .none, 0, 0)).1 _
      rw [eg]
      obtain ⟨hz2, _⟩ := hp z (List.mem_of_getElem? hz1)
      obtain ⟨its2, r2, p2, _⟩ := I.tuple (.inl (.inl hz2))
      obtain ⟨u1, u2, rfl, ra, rb⟩ := vals2 r2
      obtain rfl : u1 = Value.ref z.2.2.1 := ra
      obtain rfl : u2 = Value.ref z.2.2.2 := rb
      exact p2
  have hst : KeysStay (nestedKind X.prog X.w) s.heap s.heap.objs.size [] ((L.map (·.2)).map rowN) := fun h' hk x hx => by
    obtain ⟨j, hj, e⟩ := List.getElem_of_mem hx
    obtain ⟨z, hz1, rfl⟩ := rowAt j x (by rw [List.getElem?_eq_getElem hj, e])
    obtain ⟨_, hz2, hz3⟩ := hp z (List.mem_of_getElem? hz1)
    exact ⟨NestedIs.at (fun b ob vs m hb _ => hk _ _ (Nat.ne_of_lt (Heap.lt_size hb)) (by simp) hb) _ _ (NkAt.nest I _ _ _ hz2 rfl), hz3⟩
  have nd2 : (((L.map (·.2)).map rowN).map (·.1)).Nodup := by
    rw [List.map_map, List.map_map]
    exact hnd
  refine PySem.call_dict_pairsH (knd := nestedKind X.prog X.w) (ps := (L.map (·.2)).map rowN) (PairArg.list a _ _ (((L.map (·.2)).map rowN).map fun p => (Value.ref p.2.1, p.2.2))) (I.ok.hd hcalm) (show X.A.units + 1 + 1 + 8 < cLine by omega) ⟨⟨o, n, ho, hc, hd, hdat⟩, items⟩ ⟨by simp, fun i key v e => ?_⟩ hst (by simpa using hz) fun h' tk hd' k => ?_
  · have e' : (((L.map (·.2)).map rowN).map fun p => (Value.ref p.2.1, p.2.2))[i]? = some (key, v) := e
    rw [List.getElem?_map] at e'
    cases ej : ((L.map (·.2)).map rowN)[i]? with
    | none => rw [ej] at e'; cases e'
    | some p =>
      rw [ej] at e'
      have e2 : (Value.ref p.2.1, p.2.2) = (key, v) := Option.some.inj e'
      cases e2
      exact ⟨p.1, p.2.1, rfl, rfl⟩
  · have nw := I.hok.fresh (Nat.le_refl s.heap.objs.size)
    rw [storedAllH_nil_of_nodup _ nd2] at hd'
    obtain ⟨q', es, ep, g1, g2, g3, g4, _, g5⟩ := hd'
    refine ⟨.ref s.heap.objs.size, upd H s.heap.objs.size (DctN X.prog X.w s.heap.objs.size (L.map (·.2))), I.laid (t' := tk) (fun b o e => k b o (by simp) e) (Nat.le_refl _) ?_, rfl, q _ nw⟩
    exact ⟨⟨q', es, ep, g1, g2, g3, g4⟩, ⟨q', g1⟩, fun h1 h2 ⟨a1, a2, a3, a4, a5⟩ st => ⟨a1, a2, a3, st _ a4, a5⟩⟩
/-- d[k] of such a dict, there -/
def tNGet (P : Program) (w : World) (td ty : TE) : TE := fun σ H Q => td σ H fun x H1 => ty σ H1 fun y H2 => ∃ (a q p v : Addr) (L : List (NestedKey × Addr × Addr)) (k : NestedKey), x = .ref a ∧ H2 a = some (DctN P w a L) ∧ y = .ref q ∧ NkAt H2 k (.ref q) ∧ k.depth ≤ 8 ∧
  (∀ z ∈ L, NkAt H2 z.1 (.ref z.2.1) ∧ z.1.depth ≤ 8) ∧ (L.map (·.1)).Nodup ∧ (k, p, v) ∈ L ∧ Q (.ref v) H2
theorem pe_nget {o i : Expr} {td ty : TE} {pos : Pos} (hu : X.A.units + 12 < cLine) (ho : PE X o td) (hi : PE X i ty) (hs : NoSl i) : PE X (.Subscript o i pos) (tNGet X.prog X.w td ty) := by
  refine ⟨fun pins s σ H Q I h => ?_⟩
  refine subD_of PySem.F.slot_dict_getitem.lookup hs (thn (ho.run pins s σ H _ I h) fun u s1 ⟨x, H1, I1, rx, q1⟩ => thn (hi.run pins s1 σ H1 _ I1 q1) fun iv s2 ⟨y, H2, I2, ry, a, q, p, v, L, k, ex, e, ey, nk, dk, all, nd, mem, q2⟩ => ?_)
  subst ex ey
  obtain rfl : u = Value.ref a := rx
  obtain rfl : iv = Value.ref q := ry
  obtain ⟨⟨o', es, ep, g1, g2, g3, g4⟩, _, _⟩ := (show ObjOk X.prog X.w H2 s2.heap a (DctN X.prog X.w a L) from I2.hok _ _ e)
  have dd : s2.heap.DictOfH (nestedKind X.prog X.w) a (L.map rowN) := ⟨o', es, ep, g1, g2, g3, g4, fun x hx => by
    obtain ⟨z, hz, rfl⟩ := List.mem_map.mp hx
    exact ⟨NkAt.nest I2 _ _ _ (all z hz).1 rfl, (all z hz).2⟩, by rw [List.map_map]; exact nd⟩
  have hk : atKey (L.map rowN) k = some (p, .ref v) := by
    obtain ⟨j, hj, ej⟩ := List.getElem_of_mem mem
    exact atKey_of_get (i := j) (by rw [List.map_map]; exact nd) (by rw [List.getElem?_map, List.getElem?_eq_getElem hj, ej]; rfl)
  exact ⟨⟨o', g1, g2.1⟩, wpAny_getItem_heap (knd := nestedKind X.prog X.w) (show X.A.units + 1 + 8 < cLine by omega) ⟨NkAt.nest I2 _ _ _ nk rfl, dk⟩ dd hk ⟨.ref v, H2, I2.tok _, rfl, q2⟩⟩
end
end NB

set_option Elab.async false
set_option linter.all false
set_option maxRecDepth 100000
namespace K65
open PySem PySem.Spec PyProof.Rows L2 NB

/-! ### an ask of each rule in two orders -/
def Wd (a : Str) : Prop := a = "ask" ∨ a = "leave" ∨ a = "word"
theorem wd_ok {a : Str} (h : Wd a) : PyData.strOk a = true := by
  rcases h with rfl | rfl | rfl <;> decide +kernel
def BW : List Bt → Prop
  | [] => True
  | b :: bs => Wd b.2.1 ∧ BW bs
theorem lay_ltD (l : Lt) (hw : Wd l.1) : PyData.canLay0 (ltD l) = true ∧ PyData.depth (ltD l) ≤ 3 := by
  have h1 : ∀ xs : List Int, PyData.canLayAll0 (xs.map PyData.int) = true ∧ PyData.depthAll (xs.map PyData.int) = 0 := fun xs => by
    induction xs with
    | nil => exact ⟨rfl, rfl⟩
    | cons x xs ih =>
      rw [List.map_cons]
      simp only [PyData.canLayAll0, PyData.canLay0, PyData.depthAll, PyData.depth, ih.1, ih.2, Bool.and_self]
      exact ⟨trivial, rfl⟩
  have h2 : PyData.canLay0 (wiD l.2.2) = true ∧ PyData.depth (wiD l.2.2) ≤ 2 := by
    cases l.2.2 with
    | none => exact ⟨rfl, Nat.zero_le _⟩
    | some w =>
      unfold wiD
      simp only [PyData.canLayAll0, PyData.canLay0, PyData.depthAll, PyData.depth, (h1 w.2).1, (h1 w.2).2, Bool.and_self]
      exact ⟨trivial, by omega⟩
  have h3 : ∀ (ds : List PyData) (d : PyData), PyData.canLayAll0 ds = true → PyData.depthAll ds = 0 → PyData.canLay0 d = true → PyData.canLayAll0 (ds ++ [d]) = true ∧ PyData.depthAll (ds ++ [d]) ≤ PyData.depth d := fun ds d a b c => by
    induction ds with
    | nil =>
      show PyData.canLayAll0 [d] = true ∧ PyData.depthAll [d] ≤ _
      simp only [PyData.canLayAll0, PyData.depthAll, c, Bool.and_self]
      exact ⟨trivial, by omega⟩
    | cons x xs ih =>
      rw [List.cons_append]
      simp only [PyData.canLayAll0, PyData.depthAll, Bool.and_eq_true] at a b ⊢
      obtain ⟨i1, i2⟩ := ih a.2 (by omega)
      exact ⟨⟨a.1, i1⟩, by omega⟩
  have h4 := h3 (.str l.1 :: l.2.1.map PyData.int) (wiD l.2.2) (by simp only [PyData.canLayAll0, PyData.canLay0, (h1 l.2.1).1, wd_ok hw, Bool.and_self]) (by simp only [PyData.depthAll, PyData.depth, (h1 l.2.1).2]; rfl) h2.1
  unfold ltD
  simp only [PyData.canLay0, PyData.depth]
  exact ⟨h4.1, by omega⟩
theorem lay_bt (b : Bt) (hw : Wd b.2.1) : PyData.canLay0 (btD b) = true ∧ PyData.depth (btD b) ≤ 4 := by
  obtain ⟨h1, h2⟩ := lay_ltD b.2 hw
  unfold btD
  simp only [PyData.canLayAll0, PyData.canLay0, PyData.depthAll, PyData.depth, h1, Bool.and_self]
  exact ⟨trivial, by omega⟩
theorem lay_bts (bs : List Bt) (hw : BW bs) : PyData.canLay0 (.tuple (bs.map btD)) = true ∧ PyData.depth (.tuple (bs.map btD)) ≤ 5 := by
  have : PyData.canLayAll0 (bs.map btD) = true ∧ PyData.depthAll (bs.map btD) ≤ 4 := by
    induction bs with
    | nil => exact ⟨rfl, Nat.zero_le _⟩
    | cons b bs ih =>
      rw [List.map_cons]
      have ih := ih hw.2
      obtain ⟨h1, h2⟩ := lay_bt b hw.1
      simp only [PyData.canLayAll0, PyData.depthAll, h1, ih.1, Bool.and_self]
      exact ⟨trivial, by omega⟩
  simp only [PyData.canLay0, PyData.depth]
  exact ⟨this.1, by omega⟩
theorem sh_of {d : PyData} {n : Nat} (h : PyData.canLay0 d = true ∧ PyData.depth d ≤ n) (hn : n ≤ 64) : SeqAt.shaped d = true := by
  unfold SeqAt.shaped
  rw [Bool.and_eq_true, decide_eq_true_eq]
  exact ⟨h.1, by omega⟩
theorem shb (bs : List Bt) (hw : BW bs) : SeqAt.shaped (.tuple (bs.map btD)) = true := sh_of (lay_bts bs hw) (by decide)
theorem sh1 (b : Bt) (hw : Wd b.2.1) : SeqAt.shaped (btD b) = true := sh_of (lay_bt b hw) (by decide)
theorem nqb (bs : List Bt) (hw : BW bs) : V.bl (!PyData.eqv (.tuple (bs.map btD)) (.tuple (bs.map btD))) = .bl false := by rw [SeqAt.eqv_refl _ (lay_bts bs hw).1]; rfl
theorem nq1 (b : Bt) (hw : Wd b.2.1) : V.bl (!PyData.eqv (btD b) (btD b)) = .bl false := by rw [SeqAt.eqv_refl _ (lay_bt b hw).1]; rfl

def offs (l : List Addr) (H : Hp) : Hp := fun b => if b ∈ l then none else H b
theorem offs_in {l : List Addr} {H : Hp} {b : Addr} (h : b ∈ l) : offs l H b = none := by unfold offs; rw [if_pos h]
theorem offs_of {l : List Addr} {H : Hp} {b : Addr} {o : HO} (e : offs l H b = some o) : b ∉ l ∧ H b = some o := by
  unfold offs at e
  by_cases h : b ∈ l
  · rw [if_pos h] at e
    cases e
  · rw [if_neg h] at e
    exact ⟨h, e⟩
theorem same_offs {l : List Addr} {H : Hp} : Same (offs l H) H := fun b o e => (offs_of e).2
/-- as it stands now -/
theorem two_base {C p : Addr} {H0 H : Hp} {x D T y E F : Addr} {h g : Hd} (t : Two C H0 H x D T y E F h g) : Two C (offs [p, x, D, T, y, E, F] H) H x D T y E F h g :=
  ⟨t.a, t.u, t.b, t.v, t.nDT, t.nEF, t.nxy, t.nTE, t.nTF, t.nDF, offs_in (by simp), offs_in (by simp), offs_in (by simp), offs_in (by simp), offs_in (by simp), same_offs⟩
theorem offs_ne {C p : Addr} {H0 H : Hp} {c : Nat} {x D T y E F b : Addr} {h g : Hd} {o : HO} (t : Two C H0 H x D T y E F h g) (pp : PotAt H p c) (nb : b ≠ p) (e : H b = some o) (n1 : ∀ k d f, o ≠ .ins k d f) (n2 : ∀ kvs, o ≠ .dK kvs) : offs [p, x, D, T, y, E, F] H b = some o := by
  obtain ⟨dx, vx, ex, _⟩ := t.a.in
  obtain ⟨kt, et⟩ := t.a.tt
  obtain ⟨kd, ed⟩ := t.u
  obtain ⟨dy, vy, ey, _⟩ := t.b.in
  obtain ⟨kf, ef⟩ := t.b.tt
  obtain ⟨ke, ee⟩ := t.v
  unfold offs
  rw [if_neg]
  · exact e
  · intro z
    simp only [List.mem_cons, List.not_mem_nil, or_false] at z
    rcases z with z | z | z | z | z | z | z
    · exact nb z
    · rw [z, ex] at e; cases e; exact n1 _ _ _ rfl
    · rw [z, ed] at e; cases e; exact n2 _ rfl
    · rw [z, et] at e; cases e; exact n2 _ rfl
    · rw [z, ey] at e; cases e; exact n1 _ _ _ rfl
    · rw [z, ee] at e; cases e; exact n2 _ rfl
    · rw [z, ef] at e; cases e; exact n2 _ rfl
theorem tk_offs {C p : Addr} {H0 H : Hp} {c : Nat} {x D T y E F : Addr} {h g : Hd} (t : Two C H0 H x D T y E F h g) (pp : PotAt H p c) : TupK H (offs [p, x, D, T, y, E, F] H) := fun b xs e => offs_ne t pp (fun z => by
  obtain ⟨_, _, _, e2, _⟩ := pp
  rw [z, e2] at e
  cases e) e (fun _ _ _ z => by cases z) (fun _ z => by cases z)
theorem two_potG {C p : Addr} {B H1 H2 : Hp} {c : Nat} {x D T y E F : Addr} {h g : Hd} (hB : B p = none) (t : Two C B H1 x D T y E F h g) (pp : PotAt H1 p c) (b : But p H1 H2) : Two C B H2 x D T y E F h g := by
  have k := b.kp pp
  obtain ⟨kd, ud⟩ := t.u
  obtain ⟨ke, ue⟩ := t.v
  exact ⟨t.a.kp k, ⟨kd, k _ _ (fun _ z => by cases z) ud⟩, t.b.kp k, ⟨ke, k _ _ (fun _ z => by cases z) ue⟩, t.nDT, t.nEF, t.nxy, t.nTE, t.nTF, t.nDF, t.n1, t.n2, t.n3, t.n4, t.n5, fun b' o e => b _ _ (fun z => by rw [z, hB] at e; cases e) (t.fr _ _ e)⟩
/-- the letters of the rules -/
def askL (o : Wi) (n k : Int) : Lt := ("ask", [n, k], some o)
def AsksOf (o : Wi) (kof : Int → Int) (L : List (Addr × Lt)) (rows : List (Int × Rl × Int)) : Prop := L.map (·.2) = rows.map fun r => askL o r.1 (kof r.1)
theorem kof_ex {o : Wi} : ∀ (L : List (Addr × Lt)) (rows : List (Int × Rl × Int)), (rows.map (·.1)).Nodup → L.length = rows.length → (∀ (i : Nat) (z : Addr × Lt) (r : Int × Rl × Int), L[i]? = some z → rows[i]? = some r → ∃ k, z.2 = askL o r.1 k ∧ 0 ≤ k ∧ k ≤ r.2.2) →
    ∃ kof : Int → Int, AsksOf o kof L rows ∧ ∀ r ∈ rows, 0 ≤ kof r.1 ∧ kof r.1 ≤ r.2.2
  | [], [], _, _, _ => ⟨fun _ => 0, rfl, fun _ h => absurd h List.not_mem_nil⟩
  | z :: L, r :: rows, nd, e, f => by
    rw [List.map_cons, List.nodup_cons] at nd
    obtain ⟨kof, h1, h2⟩ := kof_ex (o := o) L rows nd.2 (Nat.succ.inj e) fun i z r a b => f (i + 1) z r a b
    obtain ⟨k, e1, k0, k1⟩ := f 0 z r rfl rfl
    have ne : ∀ r' ∈ rows, r'.1 ≠ r.1 := fun r' hr w => nd.1 (List.mem_map.mpr ⟨r', hr, w⟩)
    refine ⟨fun n => if n = r.1 then k else kof n, ?_, fun r' hr => ?_⟩
    · unfold AsksOf at h1 ⊢
      rw [List.map_cons, List.map_cons, h1, e1]
      dsimp only
      rw [if_pos rfl]
      congr 1
      exact List.map_congr_left fun r' hr => by rw [if_neg (ne r' hr)]
    · dsimp only
      rcases List.mem_cons.mp hr with rfl | hr
      · rw [if_pos rfl]
        exact ⟨k0, k1⟩
      · rw [if_neg (ne r' hr)]
        exact h2 r' hr
  | [], _ :: _, _, e, _ => by cases e
  | _ :: _, [], _, e, _ => by cases e
def ltK (o : Wi) (n k : Int) : NestedKey := .tup [.text "ask", .num n, .num k, .tup [.num o.1, .tup (o.2.map .num)]]
theorem dep_nums : ∀ ys : List Int, NestedKey.depthAll (ys.map NestedKey.num) = 0
  | [] => rfl
  | y :: ys => by
    show max 0 (NestedKey.depthAll (ys.map NestedKey.num)) = 0
    rw [dep_nums ys]
    rfl
theorem dep_ltK (o : Wi) (n k : Int) : (ltK o n k).depth ≤ 8 := by
  unfold ltK
  simp only [NestedKey.depth, NestedKey.depthAll, dep_nums]
  decide
theorem nk_nums {H : Hp} : ∀ ys : List Int, NkAll H (ys.map NestedKey.num) (ys.map V.int)
  | [] => .nil
  | y :: ys => .cons (.int y) (nk_nums ys)
theorem nk_ask {H : Hp} {a : Addr} {o : Wi} {n k : Int} (h : LetAt H a (askL o n k)) : NkAt H (ltK o n k) (.ref a) := by
  obtain ⟨v, e, W, T2, rfl, e2, e3⟩ := h
  exact .tup e (.cons (.str _) (.cons (.int _) (.cons (.int _) (.cons (.tup e2 (.cons (.int _) (.cons (.tup e3 (nk_nums _)) .nil))) .nil))))
theorem ltK_inj {o : Wi} {n k n' k' : Int} (h : ltK o n k = ltK o n' k') : n = n' := by
  unfold ltK at h
  injection h with h
  injection h with _ h
  injection h with h _
  injection h
theorem two_push {C : Addr} {B H : Hp} {x D T y E F D7 : Addr} {h g : Hd} {xs ys : List V} (t : Two C B H x D T y E F h g) (nD : B D7 = none) (e : H D7 = some (.lst xs)) : Two C B (upd H D7 (.lst ys)) x D T y E F h g := by
  have kp : Keep H (upd H D7 (.lst ys)) := Keep.upd e
  obtain ⟨kd, ed⟩ := t.u
  obtain ⟨ke, ee⟩ := t.v
  exact ⟨t.a.kp kp, ⟨kd, kp _ _ (fun _ z => by cases z) ed⟩, t.b.kp kp, ⟨ke, kp _ _ (fun _ z => by cases z) ee⟩, t.nDT, t.nEF, t.nxy, t.nTE, t.nTF, t.nDF, t.n1, t.n2, t.n3, t.n4, t.n5, fun b u e' => (upd_ne (fun z => by rw [z, nD] at e'; cases e')).trans (t.fr _ _ e')⟩
/-- a pair of the dict: a letter, and what was answered -/
def PzOk (h : Hd) (o : Wi) (kof : Int → Int) (H : Hp) (pz : Addr × NestedKey × Addr × Addr) (z : Addr × Lt) (r : Int × Rl × Int) : Prop := H pz.1 = some (.tup [.ref pz.2.2.1, .ref pz.2.2.2]) ∧ pz.2.2.1 = z.1 ∧ pz.2.1 = ltK o r.1 (kof r.1) ∧ BAt H pz.2.2.2 (askR h (some o) r.1 (kof r.1) r.2)
theorem PzOk.tk {h : Hd} {o : Wi} {kof : Int → Int} {H H' : Hp} {pz : Addr × NestedKey × Addr × Addr} {z : Addr × Lt} {r : Int × Rl × Int} (a : PzOk h o kof H pz z r) (k : TupK H H') : PzOk h o kof H' pz z r := ⟨k _ _ a.1, a.2.1, a.2.2.1, a.2.2.2.tk k⟩
theorem ask_lp {o : Wi} {n k : Int} (hn : 0 ≤ n ∧ n < 10 ^ 30) (hk : 0 ≤ k ∧ k < 10 ^ 30) (w : WiP o) : LetP (askL o n k) := ⟨.inl ⟨.inl rfl, rfl⟩, fun y hy => by
  rcases List.mem_cons.mp hy with rfl | hy
  · exact hn
  · rw [List.mem_singleton.mp hy]
    exact hk, fun w' e => by cases e; exact w⟩
section
variable {P : Program} {w : World} {K : PySem.W.Frag} {mg : Str → Option Value} {base : Heap}
def spAsk (C : Addr) : Sp := fun vs H Q _ => ∃ (p q R : Addr) (as : List Addr) (zs : List (Int × Addr)) (h : Hd) (wv : V) (o : Wi) (c : Nat), vs = [.ref p, .ref q, wv] ∧ PotAt H p c ∧ c < 500000 ∧ CaseAt H q R as zs h ∧ Bs5 h ∧ WsOk h h.wish ∧ WV H wv (some o) ∧ WsOk h (some o) ∧ wishN h.wish ≤ o.1 ∧ (wishN h.wish = o.1 → h.wish = some o) ∧
  ∀ H', But p H H' → PotAt H' p (c + 40) → Q (.bl true) H'
abbrev a__law_asks_right : Stmt := topS 31
abbrev n__law_asks_right : List Str := ["_law_pot_here", "_law_case", "_law_wish", "_law_hand", "_law_other", "_law_rows", "_law_asks", "_law_letter", "_law_told", "_law_number", "_law_rule", "_law_count"]
theorem sc__law_asks_right : FnScope n__law_asks_right ["_law_pot_here", "_law_case", "_law_wish"] (defScope a__law_asks_right) := ⟨rfl, rfl, rfl, by decide +kernel, rfl, by decide +kernel, by decide +kernel⟩
set_option maxHeartbeats 8000000 in
theorem ok__law_asks_right {f fMa fSt fSf fTk : Addr} {fd fdMa fdSt fdSf fdTk : FuncData}  {C : Addr} (F : Fun K "_law_asks_right" "_law_asks_right" a__law_asks_right f fd) (Ma : Kn P w K mg base 8 "_law_made" ["_law_case"] (spMade C) fMa fdMa) (St : FnG P w K mg base 8 fSt fdSt ["_law_hand", "_law_rows"] (spState C)) (gSt : mg "_law_state" = some (.ref fSt)) (kSt : PySem.W.keepIn K (.ref fSt) = true) (bSt : Binds K fdSt ["_law_hand", "_law_rows"] []) (Sf : Kn P w K mg base 3 "_law_shuffled" ["_law_pot_here", "_law_letters_here"] spShf fSf fdSf) (Tk : Kn P w K mg base 1 "_law_take" ["_law_pot_here", "_law_many"] spTake fTk fdTk) (Hh : C8.Met P w K mg base 7 C "hear" (spHear C) []) (X : HandTxt K C) (m_dict : mg "dict" = none) (m_max : mg "max" = none) : FnG P w K mg base 9 f fd ["_law_pot_here", "_law_case", "_law_wish"] (spAsk C) := by
  refine fnG F sc__law_asks_right (fun vs H Q E h => ?_) (fun cdv A outer s H vs Q E hG hr h => ?_)
  · obtain ⟨p, q0, R, as, zs, h, wv, o, c, rfl, _⟩ := h
    rfl
  · obtain ⟨p, q0, R, as, zs, h, wv, o, c, rfl, pp, hc, ca, bs, ws, wO, wsO, wle, weq, q⟩ := h
    refine ⟨_, (pss_cons (ps_asg (pe_tup (pa_cons (pe_kn Ma hr (by omega) (pa_cons (pv 1) pa_nil)) (pa_cons (pe_kn Ma hr (by omega) (pa_cons (pv 1) pa_nil)) (pa_cons (pe_ix ix_tup (pv 1) pe_int (fun _ _ => rfl)) pa_nil)))) (pg_tup rfl (pgs_cons (pg_name (i := 3) sc__law_asks_right.nd rfl (.inr rfl)) (pgs_cons (pg_name (i := 4) sc__law_asks_right.nd rfl (.inl rfl)) (pgs_cons (pg_name (i := 5) sc__law_asks_right.nd rfl (.inl rfl)) pgs_nil)))))
      (pss_cons (ps_setLc (i := 6) (own := [("_law_number", 9), ("_law_rule", 10), ("_law_count", 11)]) (g := (gTup K 3 (gCons (gName 9) (gCons (gName 10) (gCons (gName 11) gNil))))) (tt := tYes) (te := (tTup (tCons (tC (.str "ask")) (tCons (tVar 9) (tCons (tCB (fun xs H Q => ∃ i j, xs = [.int i, .int j] ∧ Q (.int (if j > i then j else i)) H) (tCons (tC (.int 0)) (tCons (tOp (rI0 fun i j => .int (i - j)) (tVar 11) (tCall spTake [] E0 (tCons (tVar 0) (tCons (tC (.int 2)) tNil)))) tNil))) (tCons (tVar 2) tNil)))))) rfl sc__law_asks_right.nd rfl rfl (sw_true rfl rfl rfl (by decide +kernel)) (pi_tup (pv 5)) (blkOk_by (N := n__law_asks_right) (sc := defScope a__law_asks_right) (by decide +kernel))
          (fun _ _ _ _ _ => (pg_tup rfl (pgs_cons (pg_name (i := 9) sc__law_asks_right.nd rfl (.inl rfl) (hf := .inr rfl)) (pgs_cons (pg_name (i := 10) sc__law_asks_right.nd rfl (.inl rfl) (hf := .inr rfl)) (pgs_cons (pg_name (i := 11) sc__law_asks_right.nd rfl (.inl rfl) (hf := .inr rfl)) pgs_nil))))) (fun _ _ _ _ _ => pts_nil) (fun _ _ _ _ _ => (pe_tup (pa_cons pe_str (pa_cons (pv 9) (pa_cons (pe_callB (call_max2 rfl) (by rfl) m_max (by decide +kernel) (pa_cons pe_int (pa_cons (pe_op (r := rI0 fun i j => .int (i - j)) op_sub (pv 11) (pe_kn Tk hr (by omega) (pa_cons (pv 0) (pa_cons pe_int pa_nil)))) pa_nil))) (pa_cons (pv 2) pa_nil)))))))
      (pss_cons (ps_set (i := 8) sc__law_asks_right.nd rfl (.inl rfl) (pe_callTy (call_dictN rfl (Nat.lt_of_le_of_lt (Nat.add_le_add_left (by decide) _) hr.units)) (by rfl) m_dict (by decide +kernel) (pa_cons (
        pe_lc (own := [("_law_letter", 7)]) (g := (gName 7)) (tt := tYes) (te := (tTup (tCons (tVar 7) (tCons (tMeth C "hear" (spHear C) [] E0 (tVar 3) (tCons (tVar 7) tNil)) tNil)))) rfl sc__law_asks_right.nd (pi_list (pv 6)) (blkOk_by (N := n__law_asks_right) (sc := defScope a__law_asks_right) (by decide +kernel))
          (fun _ _ _ _ _ => (pg_name (i := 7) sc__law_asks_right.nd rfl (.inl rfl) (hf := .inr rfl))) (fun _ _ _ _ _ => pts_nil) (fun _ _ _ _ _ => (pe_tup (pa_cons (pv 7) (pa_cons (C8.pe_mt Hh hr (by omega) (pv 3) (pa_cons (pv 7) pa_nil)) pa_nil))))) pa_nil)))
      (pss_cons (ps_for PassesOwn.never rfl (pi_list (pe_kn Sf hr (by omega) (pa_cons (pv 0) (pa_cons (pv 6) pa_nil)))) (pg_name (i := 7) sc__law_asks_right.nd rfl (.inl rfl))
        (pss_one (ps_if (pt_cmpR (op_neD hr.units) (C8.pe_mt Hh hr (by omega) (pv 4) (pa_cons (pv 7) pa_nil)) (pe_nget (Nat.lt_of_le_of_lt (Nat.add_le_add_left (by decide) _) hr.units) (pv 8) (pv 7) (fun _ _ => rfl)) (nomark _)) (pss_one (ps_ret pe_bl)) pss_nil)))
      (pss_one (ps_ret (pe_cmpR op_eq (pe_callG hG St (hr.mono (by omega)) (by rfl) gSt kSt bSt (pa_cons (pv 3) (pa_cons (pv 5) pa_nil))) (pe_callG hG St (hr.mono (by omega)) (by rfl) gSt kSt bSt (pa_cons (pv 4) (pa_cons (pv 5) pa_nil))) (nomark _)))))))), ?_⟩
    obtain ⟨⟨cv, ce, cw⟩, cr, cra⟩ := id ca
    have ko := tk_off pp
    refine ⟨.ref q0, rfl, q0, R, as, zs, h, rfl, ca, bs.ok, ws, fun H1 x D T s1 a1 nDT u1 n1 n5 n2 => ⟨.ref q0, rfl, q0, R, as, zs, h, rfl, ca.tk (tk_same s1), bs.ok, ws, fun H2 y E F s2 a2 nEF u2 m1 m5 m2 => ?_⟩⟩
    have two : Two C (offP p H) H2 x D T y E F h h := two_made (same_off (But.of s1)) a1 nDT u1 (none_off n1) (none_off n5) (none_off n2) s2 a2 nEF u2 m1 m5 m2
    have nEH : H E = none := s1.free m5
    have nFH : H F = none := s1.free m2
    have nyH : H y = none := s1.free m1
    have s12 := s1.trans s2
    have p2 := pp.keep s12
    clear a1 u1 s2 a2 u2 m1 m5 m2 s1
    refine ⟨.ref q0, rfl, q0, _, 2, .ref R, rfl, rfl, .inl (.inl (s12 _ _ ce)), atI_nat (j := 2) rfl, (show 3 ≤ sizeLine by decide), fun W nW => ?_⟩
    have sW := same_new (o := HO.tup [V.ref x, .ref y, .ref R]) nW
    have eW : (upd H2 W (HO.tup [V.ref x, .ref y, .ref R])) W = some (.tup [V.ref x, .ref y, .ref R]) := upd_same
    have two := two.same sW
    have p3 := p2.keep sW
    generalize upd H2 W (HO.tup [V.ref x, .ref y, .ref R]) = H3 at sW eW two p3 ⊢
    refine ⟨W, _, rfl, .inl (.inl eW), rfl, _, _, rfl, _, _, rfl, _, _, rfl, rfl, ?_⟩
    clear sW eW nW p2 s12
    dsimp only [List.set]
    have tkf : ∀ {H' : Hp} {g1 g2 : Hd}, Two C (offP p H) H' x D T y E F g1 g2 → TupK H H' := fun t => ko.trans5 (tk_same t.fr)
    have lenR := cra.1
    have lenZ := cra.2.1
    have l8 := bs.ok.l8
    -- the asks
    refine ⟨_, rfl, R, rfl, ⟨_, .inl (.inl ((tkf two) _ _ cr))⟩, fun D6 nD6 => lc_it (walk_tup (xs := as.map V.ref)) (fun j H' => Two C (offP p H) H' x D T y E F h h ∧ PotAt H' p (c + j) ∧ D6 ≠ p ∧ ∃ L : List (Addr × Lt), H' D6 = some (.lst (rfs L)) ∧ L.length = j ∧ (∀ z ∈ L, LetAt H' z.1 z.2) ∧ ∀ (i : Nat) (z : Addr × Lt) (r : Int × Rl × Int), L[i]? = some z → h.rows[i]? = some r → ∃ k, z.2 = askL o r.1 k ∧ 0 ≤ k ∧ k ≤ r.2.2) ⟨two.same (same_new nD6), p3.keep (same_new nD6), p3.ne nD6, [], upd_same, rfl, fun _ h => absurd h List.not_mem_nil, fun i z r h => by rw [List.getElem?_nil] at h; cases h⟩ (fun j H' _ yy => .inl (.inl ((tkf yy.1) _ _ cr))) (fun j v H4' H4 hj yy z => ?_) (fun H4 yy => ?_)⟩
    · obtain ⟨tw, p4, nDp, L, eD, lL, la, lk⟩ := yy
      obtain ⟨rfl, gv⟩ := z
      obtain ⟨ad, ea, rfl⟩ := mapGet gv
      have hia := (List.getElem?_eq_some_iff.mp ea).1
      obtain ⟨r, er⟩ : ∃ r, h.rows[j]? = some r := ⟨_, List.getElem?_eq_getElem (by omega)⟩
      obtain ⟨z, ez⟩ : ∃ z, zs[j]? = some z := ⟨_, List.getElem?_eq_getElem (by omega)⟩
      have k4 := tkf tw
      obtain ⟨_, f1, _⟩ := cra.2.2 j ad r z ea er ez
      obtain ⟨_, _, _, _, c0, c5⟩ := bs.rw r (List.mem_of_getElem? er)
      refine ⟨ad, _, rfl, .inl (.inl (k4 _ _ f1)), rfl, _, _, rfl, _, _, rfl, _, _, rfl, rfl, rfl, _, rfl, _, rfl, .ref p, rfl, p, 2, _, rfl, p4, by decide, by decide, by omega, fun d H5 b5 p5 d0 d1 => ⟨_, d, rfl, rfl, _, _, rfl, ?_⟩⟩
      obtain ⟨kk, hkk, k0, kc⟩ : ∃ kk : Int, (if r.2.2 - d > 0 then r.2.2 - d else 0) = kk ∧ 0 ≤ kk ∧ kk ≤ r.2.2 := by
        refine ⟨_, rfl, ?_⟩
        split <;> omega
      dsimp only
      rw [hkk]
      have tw5 := two_pot tw p4 b5
      have k5 := tkf tw5
      refine ⟨wv, rfl, (show 4 ≤ sizeLine by decide), fun T3 nT3 => ?_⟩
      have s3 := same_new (o := HO.tup [V.str "ask", .int r.1, .int kk, wv]) nT3
      have eT : LetAt (upd H5 T3 (HO.tup [V.str "ask", .int r.1, .int kk, wv])) T3 (askL o r.1 kk) := ⟨wv, upd_same, (wO.tk k5).keep (.same s3)⟩
      have eD5 := s3 _ _ (b5 _ _ nDp eD)
      have tw6 := tw5.same s3
      have p6 := p5.keep s3
      have la6 : ∀ z ∈ L, LetAt (upd H5 T3 (HO.tup [V.str "ask", .int r.1, .int kk, wv])) z.1 z.2 := fun z hz => ((la z hz).tk (tk_but p4 b5)).tk (tk_same s3)
      generalize upd H5 T3 (HO.tup [V.str "ask", .int r.1, .int kk, wv]) = H6 at s3 eT eD5 tw6 p6 la6 ⊢
      refine ⟨_, eD5, by show (L.map _).length < _; rw [List.length_map]; exact small1000 (by omega), ?_, pot_upd (p6.mono (by omega)) nDp, nDp, L ++ [(T3, askL o r.1 kk)], ?_, by rw [List.length_append, lL]; rfl, fun z' hz' => ?_, fun i z' r' h1 h2 => ?_⟩
      · have nD : offP p H D6 = none := by
          cases e : offP p H D6 with
          | none => rfl
          | some u => rw [two.fr _ _ e] at nD6; cases nD6
        obtain ⟨dx, vx, ex, _⟩ := tw6.a.in
        obtain ⟨kt, et⟩ := tw6.a.tt
        obtain ⟨kd, ed⟩ := tw6.u
        obtain ⟨dy, vy, ey, _⟩ := tw6.b.in
        obtain ⟨kf, ef⟩ := tw6.b.tt
        obtain ⟨ke, ee⟩ := tw6.v
        have kp : Keep H6 (upd H6 D6 (.lst (rfs L ++ [V.ref T3]))) := Keep.upd eD5
        exact ⟨tw6.a.kp kp, ⟨kd, kp _ _ (fun _ z => by cases z) ed⟩, tw6.b.kp kp, ⟨ke, kp _ _ (fun _ z => by cases z) ee⟩, tw6.nDT, tw6.nEF, tw6.nxy, tw6.nTE, tw6.nTF, tw6.nDF, tw6.n1, tw6.n2, tw6.n3, tw6.n4, tw6.n5, fun b' u e => (upd_ne (fun z => by rw [z, nD] at e; cases e)).trans (tw6.fr _ _ e)⟩
      · rw [upd_same]
        unfold rfs
        rw [List.map_append]
        rfl
      · have kL : TupK H6 (upd H6 D6 (.lst (rfs L ++ [V.ref T3]))) := tk_lst eD5
        rcases List.mem_append.mp hz' with h' | h'
        · exact (la6 z' h').tk kL
        · rw [List.mem_singleton.mp h']
          exact eT.tk kL
      · rcases Nat.lt_or_ge i L.length with ci | ci
        · rw [List.getElem?_append_left ci] at h1
          exact lk i z' r' h1 h2
        · rw [List.getElem?_append_right ci] at h1
          have hl := (List.getElem?_eq_some_iff.mp h1).1
          rw [List.length_singleton] at hl
          have i0 : i - L.length = 0 := by omega
          rw [i0] at h1
          cases h1
          obtain rfl : i = j := by omega
          rw [er] at h2
          cases h2
          exact ⟨kk, rfl, k0, kc⟩
    · obtain ⟨tw, p4, nDp, L, eD, lL, la, lk⟩ := yy
      have lL' : L.length = h.rows.length := by rw [lL, List.length_map, lenR]
      obtain ⟨kof, asks, kbd⟩ := kof_ex L h.rows bs.ok.nd lL' lk
      clear lk two p3
      obtain ⟨B, hBd⟩ : ∃ B, B = offs [p, x, D, T, y, E, F] H4 := ⟨_, rfl⟩
      have twB : Two C B H4 x D T y E F h h := by rw [hBd]; exact two_base tw
      have hBp : B p = none := by rw [hBd]; exact offs_in (by simp)
      have tkB : ∀ {H' : Hp} {g1 g2 : Hd}, Two C B H' x D T y E F g1 g2 → TupK H4 H' := fun t => by
        have := tk_offs tw p4
        rw [← hBd] at this
        exact this.trans5 (tk_same t.fr)
      have eDB : B D6 = some (.lst (rfs L)) := by rw [hBd]; exact offs_ne tw p4 nDp eD (fun _ _ _ z => by cases z) (fun _ z => by cases z)
      have fin : ∀ {H' : Hp} {g1 g2 : Hd}, Two C B H' x D T y E F g1 g2 → But p H H' := fun t b u n e => by
        have e4 := tw.fr _ _ (by rw [offP_ne n]; exact e)
        refine t.fr _ _ ?_
        rw [hBd]
        unfold offs
        rw [if_neg]
        · exact e4
        · intro z
          simp only [List.mem_cons, List.not_mem_nil, or_false] at z
          rcases z with z | z | z | z | z | z | z
          · exact n z
          · rw [z, n1] at e; cases e
          · rw [z, n5] at e; cases e
          · rw [z, n2] at e; cases e
          · rw [z, nyH] at e; cases e
          · rw [z, nEH] at e; cases e
          · rw [z, nFH] at e; cases e
      have crB : H4 R = some (.tup (as.map V.ref)) := (tkf tw) _ _ cr
      have cra4 := cra.tk (tkf tw)
      have la4 := la
      have p4 : PotAt H4 p (c + 8) := p4.mono (by rw [List.length_map]; omega)
      have row : ∀ {i : Nat} {z : Addr × Lt}, L[i]? = some z → ∃ r, h.rows[i]? = some r ∧ z.2 = askL o r.1 (kof r.1) := fun {i z} ez => by
        have e1 : (L.map (·.2))[i]? = some z.2 := by rw [List.getElem?_map, ez]; rfl
        rw [asks, List.getElem?_map] at e1
        obtain ⟨r, e2, e3⟩ := Option.map_eq_some_iff.mp e1
        exact ⟨r, e2, e3.symm⟩
      have rok : ∀ r ∈ h.rows, LetP (askL o r.1 (kof r.1)) ∧ look h.rows r.1 = some r.2 ∧ kof r.1 ≤ r.2.2 := fun r hr => by
        obtain ⟨h1, h2, _, _, _, h6⟩ := bs.rw r hr
        obtain ⟨k0, k1⟩ := kbd r hr
        have e30 : (8 : Int) < 10 ^ 30 := by decide
        exact ⟨ask_lp ⟨h1, by omega⟩ ⟨k0, by omega⟩ (wsO o rfl).1, look_in bs.ok.nd hr, k1⟩
      have b31 : (10 : Int) ^ 30 ≤ 10 ^ 31 := by decide
      clear tw eD crB
      dsimp only [gName, List.set]
      refine ⟨_, rfl, D6, rfl, ⟨_, .inl (.inl (twB.fr _ _ eDB))⟩, fun D7 nD7 => lc_it (walk_list (xs := rfs L)) (fun j H' => PotAt H' p (c + 8) ∧ ∃ (g : Hd) (S : List Int) (Pz : List (Addr × NestedKey × Addr × Addr)), Two C B H' x D T y E F g h ∧ (∀ n, n ∈ S ↔ n ∈ (h.rows.map (·.1)).take j) ∧ AskS h (some o) kof S g ∧ Gd5 h (10 ^ 31 + (j : Int)) g ∧ H' D7 = some (.lst (Pz.map fun z => V.ref z.1)) ∧ Pz.length = j ∧ ∀ (i : Nat) pz z r, Pz[i]? = some pz → L[i]? = some z → h.rows[i]? = some r → PzOk h o kof H' pz z r) ⟨p4.keep (same_new nD7), h, [], [], twB.same (same_new nD7), fun n => by simp, ask_zero _ _ _, (Gd5.zero bs ws).mono (by omega), upd_same, rfl, fun i pz z r h1 => by rw [List.getElem?_nil] at h1; cases h1⟩ (fun j H' _ yy => by obtain ⟨_, g, S, Pz, t, _⟩ := yy; exact .inl (.inl (t.fr _ _ eDB))) (fun j v H5' H5 hj yy z => ?_) (fun H5 yy => ?_)⟩
      · obtain ⟨p5, g, S, Pz, tw, hS, ak, gd, eD7, lPz, pok⟩ := yy
        obtain ⟨rfl, gv⟩ := z
        obtain ⟨z, ez, rfl⟩ := mapGet gv
        obtain ⟨r, er, e2⟩ := row ez
        have hr0 := List.mem_of_getElem? er
        obtain ⟨lp, lk, kle⟩ := rok r hr0
        have st := ask_step bs.ok ak lk kle wle weq
        have gok := gd.ok bs
        have g40 : g.rows.length ≤ 40 := by have := gok.l8; omega
        have gw : ∀ w, (askL o r.1 (kof r.1)).2.2 = some w → g.thing < w.2.length := fun w e => by rw [gd.th]; exact (wsO w e).2
        have laz : LetAt H5 z.1 (askL o r.1 (kof r.1)) := by
          have := (la4 z (List.mem_of_getElem? ez)).tk (tkB tw)
          rw [e2] at this
          exact this
        obtain ⟨dx, vx, ex, _⟩ := tw.a.in
        obtain ⟨kt, et⟩ := tw.a.tt
        have nD7B : B D7 = none := by
          cases e : B D7 with
          | none => rfl
          | some u => rw [twB.fr _ _ e] at nD7; cases nD7
        refine ⟨rfl, _, rfl, .ref x, rfl, x, dx, _, rfl, ex, lkm, .ref z.1, rfl, x, D, T, z.1, g, askL o r.1 (kof r.1), rfl, tw.a, nDT, laz, lp, gw, g40, fun H6 ga b6 a6 ba6 => ⟨(show 2 ≤ sizeLine by decide), fun T3 nT3 => ?_⟩⟩
        have t6 := tw.left b6 a6
        have p6 := pot_hear p5 tw.a b6
        have k56 := b6.tk tw.a
        have eD6 := b6 _ _ (fun w => by rw [w, ex] at eD7; cases eD7) (fun w => by rw [w, et] at eD7; cases eD7) eD7
        have e1 : (g.hear (askL o r.1 (kof r.1))).2 = askR h (some o) r.1 (kof r.1) r.2 := st.1
        rw [e1] at ba6
        have s3 := same_new (o := HO.tup [V.ref z.1, .ref ga]) nT3
        have eT : (upd H6 T3 (HO.tup [V.ref z.1, .ref ga])) T3 = some (.tup [.ref z.1, .ref ga]) := upd_same
        have t7 := t6.same s3
        have p7 := p6.keep s3
        have eD77 := s3 _ _ eD6
        have k57 := k56.trans5 (tk_same s3)
        have ba7 := ba6.tk (tk_same s3)
        generalize upd H6 T3 (HO.tup [V.ref z.1, .ref ga]) = H7 at s3 eT t7 p7 eD77 k57 ba7 ⊢
        have kL := tk_lst (ys := (Pz.map fun z => V.ref z.1) ++ [.ref T3]) eD77
        have nD7p : D7 ≠ p := fun w => by
          obtain ⟨_, _, _, e9, _⟩ := p4
          rw [w, e9] at nD7
          cases nD7
        have pzN : PzOk h o kof (upd H7 D7 (.lst ((Pz.map fun z => V.ref z.1) ++ [.ref T3]))) (T3, ltK o r.1 (kof r.1), z.1, ga) z r := PzOk.tk ⟨eT, rfl, rfl, ba7⟩ kL
        refine ⟨_, eD77, by rw [List.length_map]; exact small1000 (by have : (rfs L).length = L.length := List.length_map _
                                                                      omega), pot_upd p7 nD7p, _, r.1 :: S, Pz ++ [(T3, ltK o r.1 (kof r.1), z.1, ga)], two_push t7 nD7B eD77, fun n => ?_, st.2, (gd.hear lp wsO (by omega)).mono (by omega), by rw [upd_same, List.map_append]; rfl, by rw [List.length_append, lPz]; rfl, fun i pz z' r' h1 h2 h3 => ?_⟩
        · rw [List.mem_cons, hS n, List.take_add_one, List.getElem?_map, er, List.mem_append]
          show _ ↔ _ ∨ n ∈ [r.1]
          rw [List.mem_singleton]
          exact or_comm
        · rcases Nat.lt_or_ge i Pz.length with ci | ci
          · rw [List.getElem?_append_left ci] at h1
            exact ((pok i pz z' r' h1 h2 h3).tk k57).tk kL
          · rw [List.getElem?_append_right ci] at h1
            have hl := (List.getElem?_eq_some_iff.mp h1).1
            rw [List.length_singleton] at hl
            have i0 : i - Pz.length = 0 := by omega
            rw [i0] at h1
            cases h1
            obtain rfl : i = j := by omega
            rw [ez] at h2
            rw [er] at h3
            cases h2
            cases h3
            exact pzN
      · obtain ⟨p5, g, S, Pz, tw, hS, ak, gd, eD7, lPz, pok⟩ := yy
        have lrf : (rfs L).length = L.length := List.length_map _
        have lPz' : Pz.length = L.length := by rw [lPz, lrf]
        have pall : ∀ (i : Nat) pz, Pz[i]? = some pz → ∃ z r, L[i]? = some z ∧ h.rows[i]? = some r ∧ PzOk h o kof H5 pz z r := fun i pz e => by
          have hi := (List.getElem?_eq_some_iff.mp e).1
          have e1 := List.getElem?_eq_getElem (l := L) (i := i) (by omega)
          have e2 := List.getElem?_eq_getElem (l := h.rows) (i := i) (by omega)
          exact ⟨_, _, e1, e2, pok i pz _ _ e e1 e2⟩
        have keyE : Pz.map (fun z => z.2.1) = h.rows.map fun r => ltK o r.1 (kof r.1) := by
          refine List.ext_getElem? fun i => ?_
          rw [List.getElem?_map, List.getElem?_map]
          cases e : Pz[i]? with
          | none =>
            have : h.rows[i]? = none := by
              rw [List.getElem?_eq_none_iff] at e ⊢
              omega
            rw [this]
            rfl
          | some pz =>
            obtain ⟨z, r, _, e2, pk⟩ := pall i pz e
            rw [e2]
            exact congrArg some pk.2.2.1
        have ndK : (Pz.map fun z => z.2.1).Nodup := by
          rw [keyE]
          have := bs.ok.nd
          rw [List.nodup_iff_pairwise_ne, List.pairwise_map] at this ⊢
          exact this.imp fun hne w => hne (ltK_inj w)
        have nkz : ∀ {i : Nat} {z : Addr × Lt} {r : Int × Rl × Int} {H' : Hp} {g1 g2 : Hd}, Two C B H' x D T y E F g1 g2 → L[i]? = some z → h.rows[i]? = some r → NkAt H' (ltK o r.1 (kof r.1)) (.ref z.1) := fun {i z r H' g1 g2} t e1 e2 => by
          obtain ⟨r', e3, e4⟩ := row e1
          rw [e2] at e3
          cases e3
          have := (la4 z (List.mem_of_getElem? e1)).tk (tkB t)
          rw [e4] at this
          exact nk_ask this
        refine ⟨D7, Pz, rfl, eD7, fun pz hpz => ?_, ndK, fun DN nDN => ?_⟩
        · obtain ⟨i, hi⟩ := List.mem_iff_getElem?.mp hpz
          obtain ⟨z, r, e1, e2, pk⟩ := pall i pz hi
          refine ⟨pk.1, ?_, ?_⟩
          · rw [pk.2.2.1, pk.2.1]
            exact nkz tw e1 e2
          · rw [pk.2.2.1]
            exact dep_ltK _ _ _
        generalize hob : DctN _ _ DN (Pz.map (·.2)) = ob
        have nDNp := p5.ne nDN
        have nDNy : DN ≠ y := fun w => by
          obtain ⟨dy, vy, ey, _⟩ := tw.b.in
          rw [w, ey] at nDN
          cases nDN
        have nDNF : DN ≠ F := fun w => by
          obtain ⟨kf, ef⟩ := tw.b.tt
          rw [w, ef] at nDN
          cases nDN
        have s6 := same_new (o := ob) nDN
        have eDN : (upd H5 DN ob) DN = some ob := upd_same
        have tw6 := tw.same s6
        have p6 := p5.keep s6
        have pall6 : ∀ (i : Nat) pz, Pz[i]? = some pz → ∃ z r, L[i]? = some z ∧ h.rows[i]? = some r ∧ PzOk h o kof (upd H5 DN ob) pz z r := fun i pz e => by
          obtain ⟨z, r, e1, e2, pk⟩ := pall i pz e
          exact ⟨z, r, e1, e2, pk.tk (tk_same s6)⟩
        generalize upd H5 DN ob = H6 at s6 eDN tw6 p6 pall6 ⊢
        clear pok pall tw p5 s6 eD7
        have Sall : ∀ n, n ∈ S ↔ n ∈ h.rows.map (·.1) := fun n => by
          rw [hS n, List.take_of_length_le (by rw [List.length_map, lrf]; omega)]
        dsimp only [gName, List.set]
        refine ⟨.ref p, rfl, .ref D6, rfl, p, D6, L, c + 8, rfl, p6, by omega, tw6.fr _ _ eDB, nDp, by omega, fun H7 F2 M b7 p7 eF2 mem lM nF2p nF2 => ?_⟩
        have tw7 := two_potG hBp tw6 p6 b7
        have eDN7 := b7 _ _ nDNp eDN
        have k67 := tk_but p6 b7
        have nF2B : B F2 = none := by
          cases e : B F2 with
          | none => rfl
          | some u => rw [tw6.fr _ _ e] at nF2; cases nF2
        have lrM : (rfs M).length = M.length := List.length_map _
        -- the other hears them
        refine ⟨F2, rfl, ⟨_, .inl (.inl eF2)⟩, for_it (walk_list (xs := rfs M)) (fun j σ H' => (∃ u7 u9 u10 u11, σ = [some (.ref p), some (.ref q0), some wv, some (.ref x), some (.ref y), some (.ref R), some (.ref D6), u7, some (.ref DN), u9, u10, u11]) ∧ H' F2 = some (.lst (rfs M)) ∧ PotAt H' p (c + 8 + 16) ∧ H' DN = some ob ∧ TupK H7 H' ∧ ∃ (g' : Hd) (S' : List Int), Two C B H' x D T y E F g g' ∧ (∀ n, n ∈ S' ↔ n ∈ (M.take j).map (fun z => z.2.2.1.headD 0)) ∧ AskS h (some o) kof S' g' ∧ Gd5 h (10 ^ 31 + (j : Int)) g') ⟨⟨_, _, _, _, rfl⟩, eF2, p7, eDN7, fun _ _ e => e, h, [], tw7, fun n => by simp, ask_zero _ _ _, (Gd5.zero bs ws).mono (by omega)⟩ (fun j σ H' _ yy => .inl (.inl yy.2.1)) (fun j v σ H8' H8 hj yy z => ?_) (fun σ H8 yy => ?_)⟩
        · obtain ⟨⟨u7, u9, u10, u11, rfl⟩, eF, p8, eN, k78, g', S', tw, hS', ak', gd'⟩ := yy
          obtain ⟨rfl, gv⟩ := z
          obtain ⟨z, ez, rfl⟩ := mapGet gv
          have hzM := List.mem_of_getElem? ez
          obtain ⟨i, hi⟩ := List.mem_iff_getElem?.mp ((mem z).mp hzM)
          obtain ⟨r, er, e2⟩ := row hi
          have hr0 := List.mem_of_getElem? er
          obtain ⟨lp, lk, kle⟩ := rok r hr0
          have st := ask_step bs.ok ak' lk kle wle weq
          have gok := gd'.ok bs
          have g40 : g'.rows.length ≤ 40 := by have := gok.l8; omega
          have gw : ∀ w, (askL o r.1 (kof r.1)).2.2 = some w → g'.thing < w.2.length := fun w e => by rw [gd'.th]; exact (wsO w e).2
          have laz : LetAt H8 z.1 (askL o r.1 (kof r.1)) := by
            have := (la4 z (List.mem_of_getElem? hi)).tk (tkB tw)
            rw [e2] at this
            exact this
          obtain ⟨dy, vy, ey, _⟩ := tw.b.in
          obtain ⟨kf, ef⟩ := tw.b.tt
          dsimp only [gName, List.set]
          refine ⟨.ref y, rfl, y, dy, _, rfl, ey, lkm, .ref z.1, rfl, y, E, F, z.1, g', askL o r.1 (kof r.1), rfl, tw.b, nEF, laz, lp, gw, g40, fun H9 ga b9 a9 ba9 => ?_⟩
          have t9 := tw.right b9 a9
          have p9 := pot_hear p8 tw.b b9
          have k89 := b9.tk tw.b
          have eF9 := b9 _ _ (fun w => by rw [w, ey] at eF; cases eF) (fun w => by rw [w, ef] at eF; cases eF) eF
          have eN9 := b9 _ _ nDNy nDNF eN
          have e1 : (g'.hear (askL o r.1 (kof r.1))).2 = askR h (some o) r.1 (kof r.1) r.2 := st.1
          have small := hear_small bs gd' lp wsO (by
            have : (10 : Int) ^ 31 + 16 < 10 ^ 40 := by decide
            omega)
          rw [e1] at ba9 small
          have hl := (List.getElem?_eq_some_iff.mp hi).1
          obtain ⟨pz, epz⟩ : ∃ pz, Pz[i]? = some pz := ⟨_, List.getElem?_eq_getElem (by omega)⟩
          obtain ⟨z', r', e3, e4, pk⟩ := pall6 i pz epz
          rw [hi] at e3
          rw [er] at e4
          cases e3
          cases e4
          have k69 := (k67.trans5 k78).trans5 k89
          have pk9 := pk.tk k69
          have bw : BW (askR h (some o) r.1 (kof r.1) r.2) := by
            unfold askR
            split
            · trivial
            · exact ⟨.inr (.inl rfl), trivial⟩
          refine ⟨.ref DN, rfl, .ref z.1, rfl, DN, z.1, pz.2.2.1, pz.2.2.2, Pz.map (·.2), ltK o r.1 (kof r.1), rfl, ?_, rfl, nkz t9 hi er, dep_ltK _ _ _, ?_, ?_, ?_, ?_⟩
          · rw [eN9, ← hob]
          · intro zz hzz
            obtain ⟨pz', hpz', rfl⟩ := List.mem_map.mp hzz
            obtain ⟨i', hi'⟩ := List.mem_iff_getElem?.mp hpz'
            obtain ⟨z', r', e3, e4, pk'⟩ := pall6 i' pz' hi'
            refine ⟨?_, ?_⟩
            · rw [pk'.2.2.1, pk'.2.1]
              exact nkz t9 e3 e4
            · rw [pk'.2.2.1]
              exact dep_ltK _ _ _
          · rw [List.map_map]
            exact ndK
          · rw [← pk.2.2.1]
            exact List.mem_map.mpr ⟨pz, List.mem_of_getElem? epz, rfl⟩
          · refine ⟨_, _, dp_bat ba9, dp_bat pk9.2.2.2, shb _ bw, shb _ bw, _, rfl, ?_⟩
            refine iteFa5 (by rw [SeqAt.eqv_refl _ (lay_bts _ bw).1]; rfl) ?_
            refine ⟨⟨_, _, _, _, rfl⟩, eF9, p9, eN9, k78.trans5 k89, _, r.1 :: S', t9, fun n => ?_, st.2, (gd'.hear lp wsO (by omega)).mono (by omega)⟩
            rw [List.mem_cons, hS' n, List.take_add_one, ez, List.map_append, List.mem_append]
            have : ((some z).toList.map fun z : Addr × Lt => z.2.2.1.headD 0) = [r.1] := by
              show [z.2.2.1.headD 0] = [r.1]
              rw [e2]
              rfl
            rw [this, List.mem_singleton]
            exact or_comm
        · obtain ⟨⟨u7, u9, u10, u11, rfl⟩, eF, p8, eN, k78, g', S', tw, hS', ak', gd'⟩ := yy
          have keyL : (L.map fun z => z.2.2.1.headD 0) = h.rows.map (·.1) := by
            have e1 : (L.map fun z => z.2.2.1.headD 0) = (L.map (·.2)).map fun l : Lt => l.2.1.headD 0 := by rw [List.map_map]; rfl
            rw [e1, asks, List.map_map]
            rfl
          have eSS : ∀ n, n ∈ S ↔ n ∈ S' := fun n => by
            rw [Sall n, hS' n, ← keyL, List.take_of_length_le (by rw [lrM]; exact Nat.le_refl _), List.mem_map, List.mem_map]
            exact ⟨fun ⟨z, h1, h2⟩ => ⟨z, (mem z).mpr h1, h2⟩, fun ⟨z, h1, h2⟩ => ⟨z, (mem z).mp h1, h2⟩⟩
          cases ak.uniq ak' eSS
          have gok := gd.ok bs
          have hs1 := gd.hs bs (by
            have : (10 : Int) ^ 31 + 16 < 10 ^ 40 := by decide
            omega)
          have sn : ShN g (h.rows.map (·.1)) := fun n hn => by
            rw [← gd.keys] at hn
            obtain ⟨rl, c1, e⟩ := look_of hn
            exact ⟨rl, c1, e, gok.sh _ (look_mem5 e)⟩
          have k8 : TupK H H8 := ko.trans5 (tk_same (same_off (fin tw)))
          refine ⟨_, rfl, _, rfl, x, D, T, R, g, as, h.rows, zs, rfl, tw.a, hs1, k8 _ _ cr, cra.tk k8, bs.ok.l8, sn, fun H9 ys1 bs1 s9 lk1' bt1 => ?_⟩
          have tw9 := tw.same s9
          have k9 : TupK H H9 := ko.trans5 (tk_same (same_off (fin tw9)))
          refine ⟨_, rfl, _, rfl, y, E, F, R, g, as, h.rows, zs, rfl, tw9.b, hs1, k9 _ _ cr, cra.tk k9, bs.ok.l8, sn, fun HA ys2 bs2 sA lk2' bt2 => ?_⟩
          cases lk1'.uniq lk2'
          cases bt1.uniq bt2
          refine ⟨rfl, ?_⟩
          rw [decide_eq_true rfl]
          exact q HA (fin (tw9.same sA)) (((p8.keep s9).keep sA).mono (by omega))
end
end K65

set_option Elab.async false
set_option linter.all false
set_option maxRecDepth 100000
namespace K65
open PySem PySem.Spec PyProof.Rows L2 NB

/-! ### the law -/
theorem wipe_one {σ : L2.St} {k : Nat} {v : Option V} {n : Str} : wipe ((wipe σ ([(n, k)].map (·.2))).set k v) ([(n, k)].map (·.2)) = wipe σ ([(n, k)].map (·.2)) := by
  show ((σ.set k none).set k v).set k none = σ.set k none
  rw [List.set_set, List.set_set]
theorem inj_map {α β : Type} {f : α → β} : ∀ {l : List α}, (l.map f).Nodup → ∀ {a b : α}, a ∈ l → b ∈ l → f a = f b → a = b
  | [], _, _, _, h, _, _ => absurd h List.not_mem_nil
  | c :: l, nd, a, b, ha, hb, e => by
    rw [List.map_cons, List.nodup_cons] at nd
    rcases List.mem_cons.mp ha with h1 | h1
    · rcases List.mem_cons.mp hb with h2 | h2
      · rw [h1, h2]
      · rw [h1] at e
        exact absurd (e ▸ List.mem_map.mpr ⟨b, h2, rfl⟩) nd.1
    · rcases List.mem_cons.mp hb with h2 | h2
      · rw [h2] at e
        exact absurd (e ▸ List.mem_map.mpr ⟨a, h1, rfl⟩) nd.1
      · exact inj_map nd.2 h1 h2 e
def spLaw (K : PySem.W.Frag) : Sp := fun vs H Q _ => ∃ (a : Addr) (ns : List Int), vs = [.ref a] ∧ SqL K H a (ns.map V.int) ∧ ns.length ≤ 63 ∧ ∀ H', Q (.bl true) H'
section
variable {P : Program} {w : World} {K : PySem.W.Frag} {mg : Str → Option Value} {base : Heap}
abbrev a_law : Stmt := topS 32
abbrev n_law : List Str := ["_law_script", "_law_k", "_law_pot_here", "_law_some", "_law_thing", "_law_tops", "_law_wishes", "_law_number", "_law_rows", "_law_case", "_law_top"]
theorem sc_law : FnScope n_law ["_law_script"] (defScope a_law) := ⟨rfl, rfl, rfl, by decide +kernel, rfl, by decide +kernel, by decide +kernel⟩
set_option maxHeartbeats 8000000 in
theorem ok_law {f fTk fOf fPo fRu fLe fTw fOr1 fAk : Addr} {fd fdTk fdOf fdPo fdRu fdLe fdTw fdOr1 fdAk : FuncData}  {C : Addr} (F : Fun K "law" "law" a_law f fd) (Tk : Kn P w K mg base 1 "_law_take" ["_law_pot_here", "_law_many"] spTake fTk fdTk) (Of : Kn P w K mg base 2 "_law_of" ["_law_pot_here", "_law_some"] (spOf K) fOf fdOf) (Po : Kn P w K mg base 1 "_law_pot" ["_law_script", "_law_k"] (spPot K) fPo fdPo) (Ru : Kn P w K mg base 3 "_law_rules" ["_law_pot_here", "_law_tops", "_law_thing"] spRu5 fRu fdRu) (Le : Kn P w K mg base 3 "_law_letters" ["_law_pot_here", "_law_wishes", "_law_words"] spLs fLe fdLe) (Tw : FnG P w K mg base 9 fTw fdTw ["_law_case", "_law_letters_here"] (spTwc C)) (gTw : mg "_law_twice_right" = some (.ref fTw)) (kTw : PySem.W.keepIn K (.ref fTw) = true) (bTw : Binds K fdTw ["_law_case", "_law_letters_here"] []) (Or1 : FnG P w K mg base 9 fOr1 fdOr1 ["_law_pot_here", "_law_case", "_law_letters_here"] (spOrd C)) (gOr1 : mg "_law_orders_right" = some (.ref fOr1)) (kOr1 : PySem.W.keepIn K (.ref fOr1) = true) (bOr1 : Binds K fdOr1 ["_law_pot_here", "_law_case", "_law_letters_here"] []) (Ak : FnG P w K mg base 9 fAk fdAk ["_law_pot_here", "_law_case", "_law_wish"] (spAsk C)) (gAk : mg "_law_asks_right" = some (.ref fAk)) (kAk : PySem.W.keepIn K (.ref fAk) = true) (bAk : Binds K fdAk ["_law_pot_here", "_law_case", "_law_wish"] [])  (m_len : mg "len" = none) (m_max : mg "max" = none) (m_min : mg "min" = none) (m_range : mg "range" = none) (m_tuple : mg "tuple" = none) : FnG P w K mg base 10 f fd ["_law_script"] (spLaw K) := by
  refine fnG F sc_law (fun vs H Q E h => ?_) (fun cdv A outer s H vs Q E hG hr h => ?_)
  · obtain ⟨a, ns, rfl, _⟩ := h
    rfl
  · obtain ⟨a, ns, rfl, hS, hn, q⟩ := h
    refine ⟨_, (pss_cons (ps_for PassesOwn.never rfl (pi_range1 (by rfl) m_range (pa_cons (pe_callB (call_max2 rfl) (by rfl) m_max (by decide +kernel) (pa_cons pe_int (pa_cons (pe_callB (call_min2 rfl) (by rfl) m_min (by decide +kernel) (pa_cons pe_int (pa_cons (pe_callB call_len_seq (by rfl) m_len (by decide +kernel) (pa_cons (pv 0) pa_nil)) pa_nil))) pa_nil))) pa_nil)) (pg_name (i := 1) sc_law.nd rfl (.inl rfl))
        (pss_cons (ps_set (i := 2) sc_law.nd rfl (.inr rfl) (pe_kn Po hr (by omega) (pa_cons (pv 0) (pa_cons (pv 1) pa_nil))))
      (pss_cons (ps_set (i := 3) sc_law.nd rfl (.inr rfl) (pe_lst (pa_cons pe_int (pa_cons pe_int (pa_cons pe_int (pa_cons (pe_op op_sub (pe_op op_pow pe_int pe_int) pe_int) (pa_cons (pe_op op_pow pe_int pe_int) pa_nil)))))))
      (pss_cons (ps_setLc (i := 5) (own := [("_law_thing", 4)]) (g := (gName 4)) (tt := tYes) (te := (tCall (spOf K) [] E0 (tCons (tVar 2) (tCons (tVar 3) tNil)))) rfl sc_law.nd rfl rfl (sw_true rfl rfl rfl (by decide +kernel)) (pi_range1 (by rfl) m_range (pa_cons (pe_op op_add pe_int (pe_kn Tk hr (by omega) (pa_cons (pv 2) (pa_cons pe_int pa_nil)))) pa_nil)) (blkOk_by (N := n_law) (sc := defScope a_law) (by decide +kernel))
          (fun _ _ _ _ _ => (pg_name (i := 4) sc_law.nd rfl (.inl rfl) (hf := .inr rfl))) (fun _ _ _ _ _ => pts_nil) (fun _ _ _ _ _ => (pe_kn Of hr (by omega) (pa_cons (pv 2) (pa_cons (pv 3) pa_nil)))))
      (pss_cons (ps_par (i := 4) (j := 6) (by rfl) sc_law.nd rfl rfl (by decide) rfl rfl (pa_cons (pe_kn Tk hr (by omega) (pa_cons (pv 2) (pa_cons (pe_callB call_len_seq (by rfl) m_len (by decide +kernel) (pa_cons (pv 5) pa_nil)) pa_nil))) (pa_cons (pe_lst (pa_cons pe_non pa_nil)) pa_nil)) (by rfl))
      (pss_cons (ps_for PassesOwn.never rfl (pi_tup (pe_tup (pa_cons pe_int (pa_cons pe_int (pa_cons pe_int (pa_cons (pe_op op_pow pe_int pe_int) pa_nil)))))) (pg_name (i := 7) sc_law.nd rfl (.inl rfl))
        (pss_one (ps_expr (pe_bm PySem.F.plainAttrs_list PySem.F.slot_list_append PySem.F.type_list_append mt_append (pv 6) (pa_cons (pe_tup (pa_cons (pv 7) (pa_cons (pe_callTy call_tuple_of (by rfl) m_tuple (by decide +kernel) (pa_cons (
        pe_lc (own := [("_law_top", 10)]) (g := (gName 10)) (tt := tYes) (te := (tCall spTake [] E0 (tCons (tVar 2) (tCons (tOp (rI0 fun i j => .int (i + j)) (tVar 10) (tC (.int 1))) tNil)))) rfl sc_law.nd (pi_list (pv 5)) (blkOk_by (N := n_law) (sc := defScope a_law) (by decide +kernel))
          (fun _ _ _ _ _ => (pg_name (i := 10) sc_law.nd rfl (.inl rfl) (hf := .inr rfl))) (fun _ _ _ _ _ => pts_nil) (fun _ _ _ _ _ => (pe_kn Tk hr (by omega) (pa_cons (pv 2) (pa_cons (pe_op (r := rI0 fun i j => .int (i + j)) op_add (pv 10) pe_int) pa_nil))))) pa_nil)) pa_nil))) pa_nil)))))
      (pss_cons (ps_set (i := 8) sc_law.nd rfl (.inl rfl) (pe_kn Ru hr (by omega) (pa_cons (pv 2) (pa_cons (pv 5) (pa_cons (pv 4) pa_nil)))))
      (pss_cons (ps_set (i := 9) sc_law.nd rfl (.inl rfl) (pe_tup (pa_cons (pv 4) (pa_cons (pe_kn Tk hr (by omega) (pa_cons (pv 2) (pa_cons (pe_op op_add (pe_ix ix_list (pv 5) (pv 4) (fun _ _ => rfl)) pe_int) pa_nil))) (pa_cons (pv 8) (pa_cons (pe_kn Of hr (by omega) (pa_cons (pv 2) (pa_cons (pv 6) pa_nil))) pa_nil))))))
      (pss_cons (ps_if (pt_not (pt_val (pe_callG hG Tw (hr.mono (by omega)) (by rfl) gTw kTw bTw (pa_cons (pv 9) (pa_cons (pe_kn Le hr (by omega) (pa_cons (pv 2) (pa_cons (pv 6) (pa_cons (pe_lst (pa_cons pe_str (pa_cons pe_str (pa_cons pe_str (pa_cons pe_str pa_nil))))) pa_nil)))) pa_nil))))) (pss_one (ps_ret pe_bl)) pss_nil)
      (pss_cons (ps_if (pt_not (pt_val (pe_callG hG Or1 (hr.mono (by omega)) (by rfl) gOr1 kOr1 bOr1 (pa_cons (pv 2) (pa_cons (pv 9) (pa_cons (pe_kn Le hr (by omega) (pa_cons (pv 2) (pa_cons (pv 6) (pa_cons (pe_lst (pa_cons pe_str (pa_cons pe_str pa_nil))) pa_nil)))) pa_nil)))))) (pss_one (ps_ret pe_bl)) pss_nil)
      (pss_one (ps_if (pt_not (pt_val (pe_callG hG Ak (hr.mono (by omega)) (by rfl) gAk kAk bAk (pa_cons (pv 2) (pa_cons (pv 9) (pa_cons (pe_ix ix_list (pv 6) pe_int (fun _ _ => rfl)) pa_nil)))))) (pss_one (ps_ret pe_bl)) pss_nil))))))))))))
      (pss_one (ps_ret pe_bl))), ?_⟩
    refine ⟨.ref a, rfl, a, _, rfl, .inl hS, 3, _, rfl, 1, _, rfl, _, rfl, ?_, ?_, for_it walk_range (fun i σ H' => (∃ u1 u2 u3 u4 u5 u6 u7 u8 u9 u10, σ = [some (.ref a), u1, u2, u3, u4, u5, u6, u7, u8, u9, u10]) ∧ Same H H') ⟨⟨_, _, _, _, _, _, _, _, _, _, rfl⟩, Same.refl H⟩ (fun _ _ _ _ _ => trivial) (fun i v σ H0' H0 hi y z => ?_) (fun σ H0 y => q H0)⟩
    · split <;> split <;> omega
    · split <;> split <;> omega
    obtain ⟨⟨u1, u2, u3, u4, u5, u6, u7, u8, u9, u10, rfl⟩, s0⟩ := y
    obtain ⟨rfl, rfl⟩ := z
    have i5 : i < 5 := by
      revert hi
      split <;> split <;> intro hi <;> omega
    refine ⟨.ref a, rfl, _, rfl, a, ns, i, by show [V.ref a, V.int (0 + (i : Int))] = _; rw [Int.zero_add], s0.seq hS, by omega, fun H1 p s1 np pp1 => ?_⟩
    have npH : H p = none := s0.free np
    have B1 : But p H H1 := fun b o _ e => s1 _ _ (s0 _ _ e)
    dsimp only [List.set]
    -- what tops may be
    refine ⟨10, 30, rfl, rfl, ⟨by decide, by decide, by decide⟩, _, 1, rfl, rfl, 10, 15, rfl, rfl, ⟨by decide, by decide, by decide⟩, (show 5 ≤ sizeLine by decide), fun S nS => ?_⟩
    have sS := same_new (o := HO.lst [V.int 1, .int 2, .int 9, .int (10 ^ (30 : Int).toNat - 1), .int (10 ^ (15 : Int).toNat)]) nS
    have eS : (upd H1 S (HO.lst [V.int 1, .int 2, .int 9, .int (10 ^ (30 : Int).toNat - 1), .int (10 ^ (15 : Int).toNat)])) S = some (.lst [V.int 1, .int 2, .int 9, .int (10 ^ (30 : Int).toNat - 1), .int (10 ^ (15 : Int).toNat)]) := upd_same
    have nSp := pp1.ne nS
    have pp2 := pp1.keep sS
    have B2 := B1.trans (But.of sS)
    generalize upd H1 S (HO.lst [V.int 1, .int 2, .int 9, .int (10 ^ (30 : Int).toNat - 1), .int (10 ^ (15 : Int).toNat)]) = H2 at sS eS pp2 B2 ⊢
    dsimp only [gName, List.set]
    -- tops
    refine ⟨.ref p, rfl, p, 3, 0, rfl, pp2, by decide, by decide, by omega, fun d H3 b3 p3 d0 d1 => ⟨2, d, rfl, rfl, _, rfl, by omega, by omega, fun L nL => lc_it walk_range (fun j H' => But p H H' ∧ PotAt H' p (1 + j) ∧ L ≠ p ∧ H' S = some (.lst [V.int 1, .int 2, .int 9, .int (10 ^ (30 : Int).toNat - 1), .int (10 ^ (15 : Int).toNat)]) ∧ ∃ ts : List Int, H' L = some (.lst (ts.map V.int)) ∧ ts.length = j ∧ ∀ y ∈ ts, 1 ≤ y ∧ y < 10 ^ 30) ⟨but_new (B2.trans b3) ((B2.trans b3).free (p3.ne nL) nL), pot_upd p3 (p3.ne nL), p3.ne nL, (upd_ne (fun w => by rw [← w, b3 _ _ nSp eS] at nL; cases nL)).trans (b3 _ _ nSp eS), [], upd_same, rfl, fun y hy => absurd hy List.not_mem_nil⟩ (fun _ _ _ _ => trivial) (fun j v H4' H4 hj y z => ?_) (fun H4 y => ?_)⟩⟩
    · obtain ⟨B4, p4, nLp, eS4, ts, eL, lt, tb⟩ := y
      obtain ⟨rfl, rfl⟩ := z
      have hj4 : j < 4 := by omega
      refine ⟨wipe_one, .ref p, rfl, .ref S, rfl, p, S, [V.int 1, .int 2, .int 9, .int (10 ^ (30 : Int).toNat - 1), .int (10 ^ (15 : Int).toNat)], _, rfl, p4, nSp, .inl (.inl (.inl eS4)), (show 1 ≤ 5 by decide), (show 5 ≤ 1000000 by decide), by omega, fun u H5 hu b5 p5 => ?_⟩
      obtain ⟨y, rfl, y1, y6⟩ : ∃ y : Int, u = .int y ∧ 1 ≤ y ∧ y < 10 ^ 30 := by
        simp only [List.mem_cons, List.not_mem_nil, or_false] at hu
        rcases hu with rfl | rfl | rfl | rfl | rfl
        · exact ⟨_, rfl, by decide, by decide⟩
        · exact ⟨_, rfl, by decide, by decide⟩
        · exact ⟨_, rfl, by decide, by decide⟩
        · exact ⟨_, rfl, by decide +kernel, by decide +kernel⟩
        · exact ⟨_, rfl, by decide +kernel, by decide +kernel⟩
      have nLH : H L = none := (B2.trans b3).free (p3.ne nL) nL
      have eL5 := b5 _ _ nLp eL
      have nSL : S ≠ L := fun w => by rw [← w, b3 _ _ nSp eS] at nL; cases nL
      refine ⟨_, eL5, by rw [List.length_map]; exact small1000 (by omega), but_new (B4.trans b5) nLH, pot_upd (p5.mono (by omega)) nLp, nLp, (upd_ne nSL).trans (b5 _ _ nSp eS4), ts ++ [y], by rw [upd_same, List.map_append]; rfl, by rw [List.length_append, lt]; rfl, fun x hx => ?_⟩
      rcases List.mem_append.mp hx with h | h
      · exact tb x h
      · rw [List.mem_singleton.mp h]
        exact ⟨y1, y6⟩
    obtain ⟨B4, p4, nLp, _, tops, eL4, lt, tb⟩ := y
    have l2 : 2 ≤ tops.length := by omega
    have l4 : tops.length ≤ 4 := by omega
    have p4 : PotAt H4 p 10 := p4.mono (by omega)
    clear lt b3 p3 eS sS pp2
    dsimp only [gName, List.set]
    -- the thing
    refine ⟨.ref p, rfl, .ref L, rfl, L, tops.map V.int, rfl, .inl (.inl (.inl eL4)), p, _, _, rfl, p4, by rw [List.length_map]; omega, by rw [List.length_map]; omega, by omega, fun th H5 b5 p5 h0 h1 => ?_⟩
    rw [List.length_map] at h1
    obtain ⟨th, rfl⟩ : ∃ k : Nat, th = k := ⟨th.toNat, by omega⟩
    have eL5 := b5 _ _ nLp eL4
    have B5 := B4.trans b5
    refine ⟨(show 1 ≤ sizeLine by decide), fun W nW => ⟨_, _, rfl, ?_⟩⟩
    have nWp := p5.ne nW
    have nWH : H W = none := B5.free nWp nW
    have sW := same_new (o := HO.lst [V.non]) nW
    have eW6 : (upd H5 W (HO.lst [V.non])) W = some (.lst [V.non]) := upd_same
    have p6 := p5.keep sW
    have eL6 := sW _ _ eL5
    have B6 := B5.trans (.of sW)
    have nWL : W ≠ L := (ne_of_none eL5 nW).symm
    generalize upd H5 W (HO.lst [V.non]) = H6 at sW eW6 p6 eL6 B6 ⊢
    clear b5 p5 p4 eL5 eL4 B4 B5 sW nW
    dsimp only [gName, List.set]
    -- the wishes
    refine ⟨10, 20, rfl, rfl, ⟨by decide, by decide, by decide⟩, (show 4 ≤ sizeLine by decide), fun Y nY => ?_⟩
    have sY := same_new (o := HO.tup [V.int 1, .int 2, .int 3, .int (10 ^ (20 : Int).toNat)]) nY
    have eY : (upd H6 Y (HO.tup [V.int 1, .int 2, .int 3, .int (10 ^ (20 : Int).toNat)])) Y = some (.tup [V.int 1, .int 2, .int 3, .int (10 ^ (20 : Int).toNat)]) := upd_same
    have eW7 := sY _ _ eW6
    have p7 := p6.keep sY
    have eL7 := sY _ _ eL6
    have B7 := B6.trans (.of sY)
    generalize upd H6 Y (HO.tup [V.int 1, .int 2, .int 3, .int (10 ^ (20 : Int).toNat)]) = H7 at eY eW7 p7 eL7 B7 ⊢
    clear eW6 p6 eL6 B6 sY nY
    have tl : 1 ≤ tops.length := by omega
    refine ⟨Y, rfl, ⟨_, .inl (.inl eY)⟩, for_it (walk_tup (xs := [V.int 1, .int 2, .int 3, .int (10 ^ (20 : Int).toNat)])) (fun j σ H' => (∃ u7 u8 u9 u10, σ = [some (.ref a), some (.int (0 + (i : Int))), some (.ref p), some (.ref S), some (.int (th : Int)), some (.ref L), some (.ref W), u7, u8, u9, u10]) ∧ But p H H' ∧ PotAt H' p (11 + 5 * j) ∧ H' Y = some (.tup [V.int 1, .int 2, .int 3, .int (10 ^ (20 : Int).toNat)]) ∧ H' L = some (.lst (tops.map V.int)) ∧
      ∃ ws : List (V × Option Wi), H' W = some (.lst (ws.map (·.1))) ∧ WshA H' ws ∧ ws.map (fun z => wishN z.2) = ([0, 1, 2, 3, 10 ^ 20] : List Int).take (j + 1) ∧ ∀ z ∈ ws, ∀ w, z.2 = some w → w.2.length = tops.length) ⟨⟨_, _, _, _, rfl⟩, B7, p7.mono (by omega), eY, eL7, [(.non, none)], eW7, fun z hz => by rw [List.mem_singleton.mp hz]; exact ⟨rfl, fun w e => by cases e⟩, rfl, fun z hz w e => by rw [List.mem_singleton.mp hz] at e; cases e⟩ (fun j σ H' _ y => .inl (.inl y.2.2.2.1)) (fun j uu σ HA HA' hj y z => ?_) (fun σ HA y => ?_)⟩
    · obtain ⟨⟨u7', u8', u9', u10', rfl⟩, BA, pA, eYA, eLA, ws, eWA, wsA, nums, lens⟩ := y
      obtain ⟨rfl, gv⟩ := z
      have hj4 : j < 4 := hj
      obtain ⟨nb, rfl, nb1, nb30, nbE⟩ : ∃ n : Int, uu = .int n ∧ 1 ≤ n ∧ n < 10 ^ 30 ∧ ([0, 1, 2, 3, 10 ^ 20] : List Int)[j + 1]? = some n := by
        match j, hj4, gv with
        | 0, _, gv => exact ⟨1, (Option.some.inj gv).symm, by decide, by decide, rfl⟩
        | 1, _, gv => exact ⟨2, (Option.some.inj gv).symm, by decide, by decide, rfl⟩
        | 2, _, gv => exact ⟨3, (Option.some.inj gv).symm, by decide, by decide, rfl⟩
        | 3, _, gv => exact ⟨10 ^ (20 : Int).toNat, (Option.some.inj gv).symm, by decide +kernel, by decide +kernel, rfl⟩
      have lws : ws.length = j + 1 := by
        have := congrArg List.length nums
        rw [List.length_map, List.length_take] at this
        have e5 : ([0, 1, 2, 3, 10 ^ 20] : List Int).length = 5 := rfl
        omega
      dsimp only [gName, List.set]
      refine ⟨.ref W, rfl, .inl ⟨rfl, _, .inl (.inl eWA)⟩, _, rfl, .ref L, rfl, L, rfl, ⟨_, .inl (.inl eLA)⟩, fun D nD => lc_it (walk_list (xs := tops.map V.int)) (fun k H' => But p HA' H' ∧ PotAt H' p (11 + 5 * j + k) ∧ D ≠ p ∧ ∃ ys : List Int, H' D = some (.lst (ys.map V.int)) ∧ ys.length = k ∧ ∀ y ∈ ys, 0 ≤ y ∧ y < 10 ^ 30) ⟨.of (same_new nD), pot_upd pA (pA.ne nD), pA.ne nD, [], upd_same, rfl, fun y hy => absurd hy List.not_mem_nil⟩ (fun k H' _ z => .inl (.inl (z.1 _ _ nLp eLA))) (fun k u HB HB' hk y z => ?_) (fun HB y => ?_)⟩
      · obtain ⟨bB, pB, nDp, ys, eD, ly, yb⟩ := y
        obtain ⟨rfl, gv2⟩ := z
        obtain ⟨tp, etp, rfl⟩ := mapGet gv2
        have htp := tb _ (List.mem_of_getElem? etp)
        have hk4 : k < 4 := by
          rw [List.length_map] at hk
          omega
        have t200 : tp + 1 < 2 ^ 200 := Int.lt_of_lt_of_le (show tp + 1 < 10 ^ 30 + 1 by omega) (by decide)
        refine ⟨wipe_one, .ref p, rfl, _, rfl, _, 1, rfl, rfl, p, _, _, rfl, pB, by omega, by omega, by omega, fun y HC bC pC y0 y1 => ?_⟩
        refine ⟨_, bC _ _ nDp eD, by rw [List.length_map]; exact small1000 (by omega), but_new (bB.trans bC) nD, pot_upd (pC.mono (by omega)) nDp, nDp, ys ++ [y], by rw [upd_same, List.map_append]; rfl, by rw [List.length_append, ly]; rfl, fun x hx => ?_⟩
        rcases List.mem_append.mp hx with h | h
        · exact yb x h
        · rw [List.mem_singleton.mp h]
          exact ⟨y0, by omega⟩
      obtain ⟨bB, pB, nDp, ys, eD, ly, yb⟩ := y
      rw [List.length_map] at ly pB
      refine ⟨D, ys.map V.int, rfl, .inl ⟨.inl (.inl eD), fun g ng => ⟨(show 2 ≤ sizeLine by decide), fun T nT => ?_⟩⟩⟩
      have sg := same_new (o := HO.tup (ys.map V.int)) ng
      have sT := same_new (o := HO.tup [V.int nb, .ref g]) nT
      have c1 := sT _ _ (upd_same : (upd HB g (HO.tup (ys.map V.int))) g = _)
      have c2 : (upd (upd HB g (HO.tup (ys.map V.int))) T (HO.tup [V.int nb, .ref g])) T = some (.tup [V.int nb, .ref g]) := upd_same
      have sgT := sg.trans sT
      have bD := bB.trans (.of sgT)
      have pD := pB.keep sgT
      generalize upd (upd HB g (HO.tup (ys.map V.int))) T (HO.tup [V.int nb, .ref g]) = HD at c1 c2 bD pD ⊢
      have eWD := bD _ _ nWp eWA
      have tkD := tk_but pA bD
      have kW := tk_lst (ys := ws.map (·.1) ++ [.ref T]) eWD
      have nYW : Y ≠ W := fun z => by rw [z, eWA] at eYA; cases eYA
      have nYp : Y ≠ p := fun z => by
        obtain ⟨_, _, _, e9, _⟩ := pA
        rw [z, e9] at eYA
        cases eYA
      have wp : WiP (nb, ys) := ⟨nb1, nb30, fun w => by have w' : ys = [] := w; rw [w'] at ly; simp at ly; omega, by show ys.length ≤ 12; omega, yb⟩
      refine ⟨W, _, _, rfl, rfl, eWD, by rw [List.length_map]; exact small1000 (by omega), ⟨_, _, _, _, rfl⟩, but_new (BA.trans bD) nWH, pot_upd (pD.mono (by omega)) nWp, (upd_ne nYW).trans (bD _ _ nYp eYA), (upd_ne nWL.symm).trans (bD _ _ nLp eLA), ws ++ [(.ref T, some (nb, ys))], by rw [upd_same, List.map_append]; rfl, fun z hz => ?_, ?_, fun z hz w e => ?_⟩
      · rcases List.mem_append.mp hz with h | h
        · exact ⟨((wsA z h).1.tk tkD).tk kW, (wsA z h).2⟩
        · rw [List.mem_singleton.mp h]
          exact ⟨⟨T, g, rfl, kW _ _ c2, kW _ _ c1⟩, fun w e => by cases e; exact wp⟩
      · rw [List.map_append, nums, List.take_add_one (i := j + 1), nbE]
        rfl
      · rcases List.mem_append.mp hz with h | h
        · exact lens z h w e
        · rw [List.mem_singleton.mp h] at e
          cases e
          exact ly
    obtain ⟨⟨u7', u8', u9', u10', rfl⟩, BA, pA, eYA, eLA, ws, eWA, wsA, nums, lens⟩ := y
    have nums : ws.map (fun z => wishN z.2) = ([0, 1, 2, 3, 10 ^ 20] : List Int) := nums
    have lws : ws.length = 5 := by
      have := congrArg List.length nums
      rw [List.length_map] at this
      exact this
    have pA : PotAt HA p 100 := pA.mono (by show 11 + 5 * 4 ≤ 100; decide)
    clear eYA eW7 p7 eL7 B7 eY
    dsimp only [gName, List.set]
    -- the rules
    refine ⟨.ref p, rfl, .ref L, rfl, _, rfl, p, L, tops, th, 100, rfl, pA, by omega, eLA, nLp, by omega, l2, l4, tb, fun HB R as rows zs bB pB eR ra r8 kr rok => ?_⟩
    have eLB := bB _ _ nLp eLA
    have eWB := bB _ _ nWp eWA
    have wsB := wsA.tk (tk_but pA bB)
    have BB := BA.trans bB
    clear pA eLA eWA wsA BA bB
    dsimp only [gName, List.set]
    -- the case
    have ex := List.getElem?_eq_getElem (show th < tops.length by omega)
    have hx := tb _ (List.getElem_mem (show th < tops.length by omega))
    have t200 : tops[th] + 1 < 2 ^ 200 := Int.lt_of_lt_of_le (show tops[th] + 1 < 10 ^ 30 + 1 by omega) (by decide)
    refine ⟨_, rfl, .ref p, rfl, .ref L, rfl, _, rfl, L, _, (th : Int), .int tops[th], rfl, rfl, .inl (.inl eLB), atI_nat (by rw [List.getElem?_map, ex]; rfl), _, 1, rfl, rfl, p, _, _, rfl, pB, by omega, by omega, by omega, fun pl HC bC pC l0 l6 => ?_⟩
    have eWC := bC _ _ nWp eWB
    have wsC := wsB.tk (tk_but pB bC)
    have raC := ra.tk (tk_but pB bC)
    have eRC := (tk_but pB bC) _ _ eR
    refine ⟨_, rfl, .ref p, rfl, .ref W, rfl, p, W, ws.map (·.1), _, rfl, pC, nWp, .inl (.inl (.inl eWC)), by rw [List.length_map]; omega, by rw [List.length_map]; omega, by omega, fun u HD hu bD pD => ⟨(show 4 ≤ sizeLine by decide), fun CQ nCQ => ?_⟩⟩
    obtain ⟨z, hz, rfl⟩ := List.mem_map.mp hu
    have tkD := tk_but pC bD
    have eWD := bD _ _ nWp eWC
    have wsD := wsC.tk tkD
    have raD := raC.tk tkD
    have eRD := tkD _ _ eRC
    have BD := (BB.trans bC).trans bD
    have sQ := same_new (o := HO.tup [V.int (th : Int), .int pl, .ref R, z.1]) nCQ
    have eQ : (upd HD CQ (HO.tup [V.int (th : Int), .int pl, .ref R, z.1])) CQ = some (.tup [V.int (th : Int), .int pl, .ref R, z.1]) := upd_same
    have eW1 := sQ _ _ eWD
    have ws1 := wsD.tk (tk_same sQ)
    have ca : CaseAt (upd HD CQ (HO.tup [V.int (th : Int), .int pl, .ref R, z.1])) CQ R as zs ⟨th, pl, z.2, rows⟩ := ⟨⟨z.1, eQ, (wsD z hz).1.tk (tk_same sQ)⟩, sQ _ _ eRD, raD.tk (tk_same sQ)⟩
    have p1 := pD.keep sQ
    have BE := BD.trans (But.of sQ)
    generalize upd HD CQ (HO.tup [V.int (th : Int), .int pl, .ref R, z.1]) = HE at sQ eW1 ws1 ca p1 BE ⊢
    have keys : ∀ r ∈ rows, 0 ≤ r.1 ∧ r.1 ≤ 8 := fun r hr => by
      have : r.1 ∈ rows.map (·.1) := List.mem_map.mpr ⟨r, hr, rfl⟩
      rw [kr] at this
      obtain ⟨k, hk, e⟩ := List.mem_map.mp this
      have := List.mem_range.mp hk
      omega
    have ndk : (rows.map (·.1)).Nodup := by
      rw [kr, List.nodup_iff_pairwise_ne, List.pairwise_map]
      exact (List.nodup_range (n := rows.length)).imp fun h w => h (by omega)
    have bs : Bs5 ⟨th, pl, z.2, rows⟩ := ⟨⟨ndk, fun r hr => (rok r hr).1, r8⟩, by show th ≤ 12; omega, by
      show pl.natAbs < 10 ^ 60
      have : pl < 10 ^ 30 + 1 := by omega
      have e1 : (10 : Int) ^ 30 + 1 < 10 ^ 60 := by decide
      have f : ((10 ^ 60 : Nat) : Int) = 10 ^ 60 := by decide
      omega, fun r hr => by
      obtain ⟨k0, k8⟩ := keys r hr
      obtain ⟨_, o1, c0, c5⟩ := rok r hr
      exact ⟨k0, k8, by have := o1.2.1; omega, by have := o1.2.2; omega, c0, c5⟩⟩
    have wso : ∀ o, o ∈ ws.map (·.2) → WsOk ⟨th, pl, z.2, rows⟩ o := fun o ho w e => by
      obtain ⟨z', hz', rfl⟩ := List.mem_map.mp ho
      refine ⟨(ws1 z' hz').2 w e, ?_⟩
      show th < w.2.length
      rw [lens z' hz' w e]
      omega
    have mz : z.2 ∈ ws.map (·.2) := List.mem_map.mpr ⟨z, hz, rfl⟩
    have uq : Uq (fun o => o ∈ ws.map (·.2)) := fun o o' ho ho' e => by
      obtain ⟨z1, h1, rfl⟩ := List.mem_map.mp ho
      obtain ⟨z2, h2, rfl⟩ := List.mem_map.mp ho'
      have nd5 : (ws.map (fun z => wishN z.2)).Nodup := by rw [nums]; decide
      exact congrArg (·.2) (inj_map nd5 h1 h2 e)
    clear eQ eRD raD wsD eWD tkD bD pD nCQ sQ BD eWC wsC raC eRC bC pC eLB eWB wsB ra pB eR BB
    dsimp only [gName, List.set]
    -- each letter twice
    refine ⟨_, rfl, .ref p, rfl, .ref W, rfl, (show 4 ≤ sizeLine by decide), fun X nX => ?_⟩
    have sX := same_new (o := HO.lst [V.str "ask", .str "ask", .str "leave", .str "word"]) nX
    have eX : (upd HE X (HO.lst [V.str "ask", .str "ask", .str "leave", .str "word"])) X = some (.lst ((wordsOf true).map V.str)) := upd_same
    have nXp := p1.ne nX
    have p2 := p1.keep sX
    have eW2 := sX _ _ eW1
    have ws2 := ws1.tk (tk_same sX)
    have ca2 := ca.tk (tk_same sX)
    have B2 := BE.trans (But.of sX)
    generalize upd HE X (HO.lst [V.str "ask", .str "ask", .str "leave", .str "word"]) = HF at sX eX p2 eW2 ws2 ca2 B2 ⊢
    clear sX nX eW1 ws1 ca p1 BE
    refine ⟨p, W, X, ws, true, _, rfl, p2, by omega, eW2, ws2, by omega, by omega, eX, nWp, nXp, fun HG F1 as1 ls1 bG pG eF1 la1 ll1 ok1 nF1p nF1 => ?_⟩
    obtain ⟨L1, rfl, rfl, al1⟩ := zipL la1
    have tkG := tk_but p2 bG
    have ca3 := ca2.tk tkG
    have eW3 := bG _ _ nWp eW2
    have ws3 := ws2.tk tkG
    have B3 := B2.trans bG
    rw [List.length_map] at ll1
    have eF1' : HG F1 = some (.lst (rfs L1)) := by rw [eF1, List.map_map]; rfl
    refine ⟨CQ, R, F1, as, zs, ⟨th, pl, z.2, rows⟩, L1, rfl, ca3, bs, wso _ mz, eF1', fun y hy => ?_, by omega, fun HI sI => ⟨true, rfl, iteFa5 rfl ?_⟩⟩
    · obtain ⟨o1, o2, _⟩ := ok1 y.2 (List.mem_map.mpr ⟨y, hy, rfl⟩)
      exact ⟨al1 y hy, o1, wso _ o2⟩
    have p4 := pG.keep sI
    have ca4 := ca3.tk (tk_same sI)
    have eW4 := sI _ _ eW3
    have ws4 := ws3.tk (tk_same sI)
    have B4 := B3.trans (But.of sI)
    clear ca3 eW3 ws3 B3 tkG eF1 eF1' la1 ok1 al1 bG p2 ca2 eW2 ws2 B2 eX nXp sI pG nF1 nF1p ll1 X
    -- leaves and words in two orders
    refine ⟨.ref p, rfl, _, rfl, .ref p, rfl, .ref W, rfl, (show 2 ≤ sizeLine by decide), fun X nX => ?_⟩
    have sX := same_new (o := HO.lst [V.str "leave", .str "word"]) nX
    have eX : (upd HI X (HO.lst [V.str "leave", .str "word"])) X = some (.lst ((wordsOf false).map V.str)) := upd_same
    have nXp := p4.ne nX
    have p5 := p4.keep sX
    have eW5 := sX _ _ eW4
    have ws5 := ws4.tk (tk_same sX)
    have ca5 := ca4.tk (tk_same sX)
    have B5 := B4.trans (But.of sX)
    generalize upd HI X (HO.lst [V.str "leave", .str "word"]) = HJ at sX eX p5 eW5 ws5 ca5 B5 ⊢
    clear sX nX p4 eW4 ws4 ca4 B4
    refine ⟨p, W, X, ws, false, _, rfl, p5, by omega, eW5, ws5, by omega, by omega, eX, nWp, nXp, fun HK F2 as2 ls2 bK pK eF2 la2 ll2 ok2 nF2p nF2 => ?_⟩
    obtain ⟨L2', rfl, rfl, al2⟩ := zipL la2
    have tkK := tk_but p5 bK
    have ca6 := ca5.tk tkK
    have eW6 := bK _ _ nWp eW5
    have ws6 := ws5.tk tkK
    have B6 := B5.trans bK
    rw [List.length_map] at ll2
    have eF2' : HK F2 = some (.lst (rfs L2')) := by rw [eF2, List.map_map]; rfl
    refine ⟨p, CQ, R, F2, as, zs, ⟨th, pl, z.2, rows⟩, L2', (fun o => o ∈ ws.map (·.2)), _, rfl, pK, by omega, ca6, bs, wso _ mz, eF2', nF2p, fun y hy => ?_, by omega, uq, mz, fun HM bM pM => ⟨true, rfl, iteFa5 rfl ?_⟩⟩
    · obtain ⟨o1, o2, o3⟩ := ok2 y.2 (List.mem_map.mpr ⟨y, hy, rfl⟩)
      exact ⟨al2 y hy, o1, wso _ o2, o3 rfl, o2⟩
    have tkM := tk_but pK bM
    have ca7 := ca6.tk tkM
    have eW7 := bM _ _ nWp eW6
    have ws7 := ws6.tk tkM
    have B7 := B6.trans bM
    clear ca6 eW6 ws6 B6 tkK eF2 eF2' la2 ok2 al2 bK p5 ca5 eW5 ws5 B5 eX nXp nF2 nF2p ll2 X
    -- an ask of each
    obtain ⟨z4, e4⟩ : ∃ z4, ws[4]? = some z4 := ⟨_, List.getElem?_eq_getElem (by omega)⟩
    have n4 : wishN z4.2 = 10 ^ 20 := by
      have : (ws.map (fun z => wishN z.2))[4]? = some (wishN z4.2) := by rw [List.getElem?_map, e4]; rfl
      rw [nums] at this
      exact (Option.some.inj this).symm
    have h4 := List.mem_of_getElem? e4
    have m4 : z4.2 ∈ ws.map (·.2) := List.mem_map.mpr ⟨z4, h4, rfl⟩
    obtain ⟨wv4, _⟩ := ws7 z4 h4
    cases ho : z4.2 with
    | none =>
      rw [ho] at n4
      cases n4
    | some o =>
      rw [ho] at wv4 m4 n4
      have o20 : o.1 = 10 ^ 20 := n4
      have wle : wishN z.2 ≤ o.1 := by
        have : wishN z.2 ∈ ws.map (fun z => wishN z.2) := List.mem_map.mpr ⟨z, hz, rfl⟩
        rw [nums] at this
        rw [o20]
        simp only [List.mem_cons, List.not_mem_nil, or_false] at this
        rcases this with e | e | e | e | e <;> (rw [e]; decide)
      refine ⟨.ref p, rfl, _, rfl, .ref W, rfl, W, ws.map (·.1), 4, z4.1, rfl, rfl, .inl (.inl eW7), atI_nat (j := 4) (by rw [List.getElem?_map, e4]; rfl), p, CQ, R, as, zs, ⟨th, pl, z.2, rows⟩, z4.1, o, _, rfl, pM, by omega, ca7, bs, wso _ mz, wv4, wso _ m4, wle, fun e => uq _ _ mz m4 e, fun HN bN pN => ⟨true, rfl, iteFa5 rfl ?_⟩⟩
      exact ⟨⟨_, _, _, _, _, _, _, _, _, _, rfl⟩, fun b u e => (B7.trans bN) b u (ne_of_none e npH) e⟩
end
end K65

set_option Elab.async false
set_option linter.all false
set_option maxRecDepth 100000
namespace K65
open PySem PySem.Spec PyProof.Rows L2 NB
set_option maxHeartbeats 8000000 in
theorem all_mk {l : PySem.W.OpenLaw} {w : World} {K : PySem.W.Frag} {h : Heap} {mg : Str → Option Value} {fa : Addr} (X : K.In h) (G : h.Ns mainGlobals mg) (hfa : mg "law" = some (.ref fa))
    {f1 : Addr} {od1 an1 : Option Addr} {sl1 : Array (Option Value)} {oc1 kV1 dc1 pm1 cd1 ct1 : Value}
    {f2 : Addr} {od2 an2 : Option Addr} {sl2 : Array (Option Value)} {oc2 kV2 dc2 pm2 cd2 ct2 : Value}
    {f3 : Addr} {od3 an3 : Option Addr} {sl3 : Array (Option Value)} {oc3 kV3 dc3 pm3 cd3 ct3 : Value}
    {f4 : Addr} {od4 an4 : Option Addr} {sl4 : Array (Option Value)} {oc4 kV4 dc4 pm4 cd4 ct4 : Value}
    {f5 : Addr} {od5 an5 : Option Addr} {sl5 : Array (Option Value)} {oc5 kV5 dc5 pm5 cd5 ct5 : Value}
    {f6 : Addr} {od6 an6 : Option Addr} {sl6 : Array (Option Value)} {oc6 kV6 dc6 pm6 cd6 ct6 : Value}
    {f7 : Addr} {od7 an7 : Option Addr} {sl7 : Array (Option Value)} {oc7 kV7 dc7 pm7 cd7 ct7 : Value}
    {f8 : Addr} {od8 an8 : Option Addr} {sl8 : Array (Option Value)} {oc8 kV8 dc8 pm8 cd8 ct8 : Value}
    {f9 : Addr} {od9 an9 : Option Addr} {sl9 : Array (Option Value)} {oc9 kV9 dc9 pm9 cd9 ct9 : Value}
    {f10 : Addr} {od10 an10 : Option Addr} {sl10 : Array (Option Value)} {oc10 kV10 dc10 pm10 cd10 ct10 : Value}
    {f11 : Addr} {od11 an11 : Option Addr} {sl11 : Array (Option Value)} {oc11 kV11 dc11 pm11 cd11 ct11 : Value}
    {f12 : Addr} {od12 an12 : Option Addr} {sl12 : Array (Option Value)} {oc12 kV12 dc12 pm12 cd12 ct12 : Value}
    {f13 : Addr} {od13 an13 : Option Addr} {sl13 : Array (Option Value)} {oc13 kV13 dc13 pm13 cd13 ct13 : Value}
    {f14 : Addr} {od14 an14 : Option Addr} {sl14 : Array (Option Value)} {oc14 kV14 dc14 pm14 cd14 ct14 : Value}
    {f15 : Addr} {od15 an15 : Option Addr} {sl15 : Array (Option Value)} {oc15 kV15 dc15 pm15 cd15 ct15 : Value}
    {f16 : Addr} {od16 an16 : Option Addr} {sl16 : Array (Option Value)} {oc16 kV16 dc16 pm16 cd16 ct16 : Value}
    {f17 : Addr} {od17 an17 : Option Addr} {sl17 : Array (Option Value)} {oc17 kV17 dc17 pm17 cd17 ct17 : Value}
    {f18 : Addr} {od18 an18 : Option Addr} {sl18 : Array (Option Value)} {oc18 kV18 dc18 pm18 cd18 ct18 : Value}
    {f19 : Addr} {od19 an19 : Option Addr} {sl19 : Array (Option Value)} {oc19 kV19 dc19 pm19 cd19 ct19 : Value}
    {f20 : Addr} {od20 an20 : Option Addr} {sl20 : Array (Option Value)} {oc20 kV20 dc20 pm20 cd20 ct20 : Value}
    {f21 : Addr} {od21 an21 : Option Addr} {sl21 : Array (Option Value)} {oc21 kV21 dc21 pm21 cd21 ct21 : Value}
    {f22 : Addr} {od22 an22 : Option Addr} {sl22 : Array (Option Value)} {oc22 kV22 dc22 pm22 cd22 ct22 : Value}
    (a1 : PySem.W.nsIn K mainGlobals "is_whole" = some (some (.ref f1)))
    (l1 : K.lookup f1 = some ⟨oc1, od1, .func (PySem.W.fnOf "is_whole" "is_whole" (defArgs a_is_whole) (defBody a_is_whole) (defScope a_is_whole) .none kV1 dc1 pm1 an1 cd1 ct1), sl1⟩)
    (c1 : PySem.W.codeIn K cd1 "is_whole" = true) (k1 : PySem.W.keepIn K (.ref f1) = true)
    (a2 : PySem.W.nsIn K mainGlobals "is_count" = some (some (.ref f2)))
    (l2 : K.lookup f2 = some ⟨oc2, od2, .func (PySem.W.fnOf "is_count" "is_count" (defArgs a_is_count) (defBody a_is_count) (defScope a_is_count) .none kV2 dc2 pm2 an2 cd2 ct2), sl2⟩)
    (c2 : PySem.W.codeIn K cd2 "is_count" = true) (k2 : PySem.W.keepIn K (.ref f2) = true)
    (a3 : PySem.W.nsIn K mainGlobals "is_wish" = some (some (.ref f3)))
    (l3 : K.lookup f3 = some ⟨oc3, od3, .func (PySem.W.fnOf "is_wish" "is_wish" (defArgs a_is_wish) (defBody a_is_wish) (defScope a_is_wish) .none kV3 dc3 pm3 an3 cd3 ct3), sl3⟩)
    (c3 : PySem.W.codeIn K cd3 "is_wish" = true) (k3 : PySem.W.keepIn K (.ref f3) = true)
    (a4 : PySem.W.nsIn K mainGlobals "is_letter" = some (some (.ref f4)))
    (l4 : K.lookup f4 = some ⟨oc4, od4, .func (PySem.W.fnOf "is_letter" "is_letter" (defArgs a_is_letter) (defBody a_is_letter) (defScope a_is_letter) .none kV4 dc4 pm4 an4 cd4 ct4), sl4⟩)
    (c4 : PySem.W.codeIn K cd4 "is_letter" = true) (k4 : PySem.W.keepIn K (.ref f4) = true)
    (a5 : PySem.W.nsIn K mainGlobals "wish_number" = some (some (.ref f5)))
    (l5 : K.lookup f5 = some ⟨oc5, od5, .func (PySem.W.fnOf "wish_number" "wish_number" (defArgs a_wish_number) (defBody a_wish_number) (defScope a_wish_number) .none kV5 dc5 pm5 an5 cd5 ct5), sl5⟩)
    (c5 : PySem.W.codeIn K cd5 "wish_number" = true) (k5 : PySem.W.keepIn K (.ref f5) = true)
    (a6 : PySem.W.nsIn K mainGlobals "is_shared" = some (some (.ref f6)))
    (l6 : K.lookup f6 = some ⟨oc6, od6, .func (PySem.W.fnOf "is_shared" "is_shared" (defArgs a_is_shared) (defBody a_is_shared) (defScope a_is_shared) .none kV6 dc6 pm6 an6 cd6 ct6), sl6⟩)
    (c6 : PySem.W.codeIn K cd6 "is_shared" = true) (k6 : PySem.W.keepIn K (.ref f6) = true)
    (a7 : PySem.W.nsIn K mainGlobals "own_side" = some (some (.ref f7)))
    (l7 : K.lookup f7 = some ⟨oc7, od7, .func (PySem.W.fnOf "own_side" "own_side" (defArgs a_own_side) (defBody a_own_side) (defScope a_own_side) .none kV7 dc7 pm7 an7 cd7 ct7), sl7⟩)
    (c7 : PySem.W.codeIn K cd7 "own_side" = true) (k7 : PySem.W.keepIn K (.ref f7) = true)
    (a8 : PySem.W.nsIn K mainGlobals "other_thing" = some (some (.ref f8)))
    (l8 : K.lookup f8 = some ⟨oc8, od8, .func (PySem.W.fnOf "other_thing" "other_thing" (defArgs a_other_thing) (defBody a_other_thing) (defScope a_other_thing) .none kV8 dc8 pm8 an8 cd8 ct8), sl8⟩)
    (c8 : PySem.W.codeIn K cd8 "other_thing" = true) (k8 : PySem.W.keepIn K (.ref f8) = true)
    (a9 : PySem.W.nsIn K mainGlobals "out_span" = some (some (.ref f9)))
    (l9 : K.lookup f9 = some ⟨oc9, od9, .func (PySem.W.fnOf "out_span" "out_span" (defArgs a_out_span) (defBody a_out_span) (defScope a_out_span) .none kV9 dc9 pm9 an9 cd9 ct9), sl9⟩)
    (c9 : PySem.W.codeIn K cd9 "out_span" = true) (k9 : PySem.W.keepIn K (.ref f9) = true)
    (a10 : PySem.W.nsIn K mainGlobals "is_out_at" = some (some (.ref f10)))
    (l10 : K.lookup f10 = some ⟨oc10, od10, .func (PySem.W.fnOf "is_out_at" "is_out_at" (defArgs a_is_out_at) (defBody a_is_out_at) (defScope a_is_out_at) .none kV10 dc10 pm10 an10 cd10 ct10), sl10⟩)
    (c10 : PySem.W.codeIn K cd10 "is_out_at" = true) (k10 : PySem.W.keepIn K (.ref f10) = true)
    (a11 : PySem.W.nsIn K mainGlobals "_law_pot" = some (some (.ref f11)))
    (l11 : K.lookup f11 = some ⟨oc11, od11, .func (PySem.W.fnOf "_law_pot" "_law_pot" (defArgs sPot) (defBody sPot) (defScope sPot) .none kV11 dc11 pm11 an11 cd11 ct11), sl11⟩)
    (c11 : PySem.W.codeIn K cd11 "_law_pot" = true) (k11 : PySem.W.keepIn K (.ref f11) = true)
    (a12 : PySem.W.nsIn K mainGlobals "_law_take" = some (some (.ref f12)))
    (l12 : K.lookup f12 = some ⟨oc12, od12, .func (PySem.W.fnOf "_law_take" "_law_take" (defArgs sTake) (defBody sTake) (defScope sTake) .none kV12 dc12 pm12 an12 cd12 ct12), sl12⟩)
    (c12 : PySem.W.codeIn K cd12 "_law_take" = true) (k12 : PySem.W.keepIn K (.ref f12) = true)
    (a13 : PySem.W.nsIn K mainGlobals "_law_of" = some (some (.ref f13)))
    (l13 : K.lookup f13 = some ⟨oc13, od13, .func (PySem.W.fnOf "_law_of" "_law_of" (defArgs sOf) (defBody sOf) (defScope sOf) .none kV13 dc13 pm13 an13 cd13 ct13), sl13⟩)
    (c13 : PySem.W.codeIn K cd13 "_law_of" = true) (k13 : PySem.W.keepIn K (.ref f13) = true)
    (a14 : PySem.W.nsIn K mainGlobals "_law_rules" = some (some (.ref f14)))
    (l14 : K.lookup f14 = some ⟨oc14, od14, .func (PySem.W.fnOf "_law_rules" "_law_rules" (defArgs a__law_rules) (defBody a__law_rules) (defScope a__law_rules) .none kV14 dc14 pm14 an14 cd14 ct14), sl14⟩)
    (c14 : PySem.W.codeIn K cd14 "_law_rules" = true) (k14 : PySem.W.keepIn K (.ref f14) = true)
    (a15 : PySem.W.nsIn K mainGlobals "_law_made" = some (some (.ref f15)))
    (l15 : K.lookup f15 = some ⟨oc15, od15, .func (PySem.W.fnOf "_law_made" "_law_made" (defArgs a__law_made) (defBody a__law_made) (defScope a__law_made) .none kV15 dc15 pm15 an15 cd15 ct15), sl15⟩)
    (c15 : PySem.W.codeIn K cd15 "_law_made" = true) (k15 : PySem.W.keepIn K (.ref f15) = true)
    (a16 : PySem.W.nsIn K mainGlobals "_law_state" = some (some (.ref f16)))
    (l16 : K.lookup f16 = some ⟨oc16, od16, .func (PySem.W.fnOf "_law_state" "_law_state" (defArgs a__law_state) (defBody a__law_state) (defScope a__law_state) .none kV16 dc16 pm16 an16 cd16 ct16), sl16⟩)
    (c16 : PySem.W.codeIn K cd16 "_law_state" = true) (k16 : PySem.W.keepIn K (.ref f16) = true)
    (a17 : PySem.W.nsIn K mainGlobals "_law_letters" = some (some (.ref f17)))
    (l17 : K.lookup f17 = some ⟨oc17, od17, .func (PySem.W.fnOf "_law_letters" "_law_letters" (defArgs a__law_letters) (defBody a__law_letters) (defScope a__law_letters) .none kV17 dc17 pm17 an17 cd17 ct17), sl17⟩)
    (c17 : PySem.W.codeIn K cd17 "_law_letters" = true) (k17 : PySem.W.keepIn K (.ref f17) = true)
    (a18 : PySem.W.nsIn K mainGlobals "_law_shuffled" = some (some (.ref f18)))
    (l18 : K.lookup f18 = some ⟨oc18, od18, .func (PySem.W.fnOf "_law_shuffled" "_law_shuffled" (defArgs a__law_shuffled) (defBody a__law_shuffled) (defScope a__law_shuffled) .none kV18 dc18 pm18 an18 cd18 ct18), sl18⟩)
    (c18 : PySem.W.codeIn K cd18 "_law_shuffled" = true) (k18 : PySem.W.keepIn K (.ref f18) = true)
    (a19 : PySem.W.nsIn K mainGlobals "_law_twice_right" = some (some (.ref f19)))
    (l19 : K.lookup f19 = some ⟨oc19, od19, .func (PySem.W.fnOf "_law_twice_right" "_law_twice_right" (defArgs a__law_twice_right) (defBody a__law_twice_right) (defScope a__law_twice_right) .none kV19 dc19 pm19 an19 cd19 ct19), sl19⟩)
    (c19 : PySem.W.codeIn K cd19 "_law_twice_right" = true) (k19 : PySem.W.keepIn K (.ref f19) = true)
    (a20 : PySem.W.nsIn K mainGlobals "_law_orders_right" = some (some (.ref f20)))
    (l20 : K.lookup f20 = some ⟨oc20, od20, .func (PySem.W.fnOf "_law_orders_right" "_law_orders_right" (defArgs a__law_orders_right) (defBody a__law_orders_right) (defScope a__law_orders_right) .none kV20 dc20 pm20 an20 cd20 ct20), sl20⟩)
    (c20 : PySem.W.codeIn K cd20 "_law_orders_right" = true) (k20 : PySem.W.keepIn K (.ref f20) = true)
    (a21 : PySem.W.nsIn K mainGlobals "_law_asks_right" = some (some (.ref f21)))
    (l21 : K.lookup f21 = some ⟨oc21, od21, .func (PySem.W.fnOf "_law_asks_right" "_law_asks_right" (defArgs a__law_asks_right) (defBody a__law_asks_right) (defScope a__law_asks_right) .none kV21 dc21 pm21 an21 cd21 ct21), sl21⟩)
    (c21 : PySem.W.codeIn K cd21 "_law_asks_right" = true) (k21 : PySem.W.keepIn K (.ref f21) = true)
    (a22 : PySem.W.nsIn K mainGlobals "law" = some (some (.ref f22)))
    (l22 : K.lookup f22 = some ⟨oc22, od22, .func (PySem.W.fnOf "law" "law" (defArgs a_law) (defBody a_law) (defScope a_law) .none kV22 dc22 pm22 an22 cd22 ct22), sl22⟩)
    (c22 : PySem.W.codeIn K cd22 "law" = true) (k22 : PySem.W.keepIn K (.ref f22) = true)
    {tk1 : Tok} (v1 : PySem.W.nsIn K mainGlobals "MOST_THINGS" = some (some (.int 12 tk1)))
    {C_Hand : Addr} (aC_Hand : PySem.W.nsIn K mainGlobals "Hand" = some (some (.ref C_Hand))) (pg_Hand : PySem.W.plainGet K C_Hand Str.empty = true) (hd_Hand : PySem.W.hasDictIn K C_Hand = true) (po_Hand : PySem.W.plainOver K C_Hand = true) (sa_Hand : PySem.W.findIn K (.ref C_Hand) "__setattr__" = some (some (.builtin "object.__setattr__"))) (mk_Hand : PySem.W.makesIn K C_Hand = true) (kc_Hand : PySem.W.keepIn K (.ref C_Hand) = true)
    (n_Hand_thing : PySem.W.findIn K (.ref C_Hand) "thing" = some none)
    (n_Hand_place : PySem.W.findIn K (.ref C_Hand) "place" = some none)
    (n_Hand_wish : PySem.W.findIn K (.ref C_Hand) "wish" = some none)
    (n_Hand_held : PySem.W.findIn K (.ref C_Hand) "held" = some none)
    (n_Hand_tally : PySem.W.findIn K (.ref C_Hand) "tally" = some none)
    {f_Hand___init__ : Addr} {od_Hand___init__ an_Hand___init__ : Option Addr} {sl_Hand___init__ : Array (Option Value)} {oc_Hand___init__ kV_Hand___init__ dc_Hand___init__ pm_Hand___init__ cd_Hand___init__ ct_Hand___init__ : Value}
    (a_Hand___init___ : PySem.W.findIn K (.ref C_Hand) "__init__" = some (some (.ref f_Hand___init__))) (i_Hand___init__ : PySem.W.isFn K (.ref f_Hand___init__) = true)
    (l_Hand___init__ : K.lookup f_Hand___init__ = some ⟨oc_Hand___init__, od_Hand___init__, .func (PySem.W.fnOf "__init__" "Hand.__init__" (defArgs a_Hand___init__) (defBody a_Hand___init__) (defScope a_Hand___init__) .none kV_Hand___init__ dc_Hand___init__ pm_Hand___init__ an_Hand___init__ cd_Hand___init__ ct_Hand___init__), sl_Hand___init__⟩) (c_Hand___init__ : PySem.W.codeIn K cd_Hand___init__ "Hand.__init__" = true) (k_Hand___init__ : PySem.W.keepIn K (.ref f_Hand___init__) = true)
    {f_Hand_shares : Addr} {od_Hand_shares an_Hand_shares : Option Addr} {sl_Hand_shares : Array (Option Value)} {oc_Hand_shares kV_Hand_shares dc_Hand_shares pm_Hand_shares cd_Hand_shares ct_Hand_shares : Value}
    (a_Hand_shares_ : PySem.W.findIn K (.ref C_Hand) "shares" = some (some (.ref f_Hand_shares))) (i_Hand_shares : PySem.W.isFn K (.ref f_Hand_shares) = true)
    (l_Hand_shares : K.lookup f_Hand_shares = some ⟨oc_Hand_shares, od_Hand_shares, .func (PySem.W.fnOf "shares" "Hand.shares" (defArgs a_Hand_shares) (defBody a_Hand_shares) (defScope a_Hand_shares) .none kV_Hand_shares dc_Hand_shares pm_Hand_shares an_Hand_shares cd_Hand_shares ct_Hand_shares), sl_Hand_shares⟩) (c_Hand_shares : PySem.W.codeIn K cd_Hand_shares "Hand.shares" = true) (k_Hand_shares : PySem.W.keepIn K (.ref f_Hand_shares) = true)
    {f_Hand_shared : Addr} {od_Hand_shared an_Hand_shared : Option Addr} {sl_Hand_shared : Array (Option Value)} {oc_Hand_shared kV_Hand_shared dc_Hand_shared pm_Hand_shared cd_Hand_shared ct_Hand_shared : Value}
    (a_Hand_shared_ : PySem.W.findIn K (.ref C_Hand) "shared" = some (some (.ref f_Hand_shared))) (i_Hand_shared : PySem.W.isFn K (.ref f_Hand_shared) = true)
    (l_Hand_shared : K.lookup f_Hand_shared = some ⟨oc_Hand_shared, od_Hand_shared, .func (PySem.W.fnOf "shared" "Hand.shared" (defArgs a_Hand_shared) (defBody a_Hand_shared) (defScope a_Hand_shared) .none kV_Hand_shared dc_Hand_shared pm_Hand_shared an_Hand_shared cd_Hand_shared ct_Hand_shared), sl_Hand_shared⟩) (c_Hand_shared : PySem.W.codeIn K cd_Hand_shared "Hand.shared" = true) (k_Hand_shared : PySem.W.keepIn K (.ref f_Hand_shared) = true)
    {f_Hand_count_of : Addr} {od_Hand_count_of an_Hand_count_of : Option Addr} {sl_Hand_count_of : Array (Option Value)} {oc_Hand_count_of kV_Hand_count_of dc_Hand_count_of pm_Hand_count_of cd_Hand_count_of ct_Hand_count_of : Value}
    (a_Hand_count_of_ : PySem.W.findIn K (.ref C_Hand) "count_of" = some (some (.ref f_Hand_count_of))) (i_Hand_count_of : PySem.W.isFn K (.ref f_Hand_count_of) = true)
    (l_Hand_count_of : K.lookup f_Hand_count_of = some ⟨oc_Hand_count_of, od_Hand_count_of, .func (PySem.W.fnOf "count_of" "Hand.count_of" (defArgs a_Hand_count_of) (defBody a_Hand_count_of) (defScope a_Hand_count_of) .none kV_Hand_count_of dc_Hand_count_of pm_Hand_count_of an_Hand_count_of cd_Hand_count_of ct_Hand_count_of), sl_Hand_count_of⟩) (c_Hand_count_of : PySem.W.codeIn K cd_Hand_count_of "Hand.count_of" = true) (k_Hand_count_of : PySem.W.keepIn K (.ref f_Hand_count_of) = true)
    {f_Hand_has_leave : Addr} {od_Hand_has_leave an_Hand_has_leave : Option Addr} {sl_Hand_has_leave : Array (Option Value)} {oc_Hand_has_leave kV_Hand_has_leave dc_Hand_has_leave pm_Hand_has_leave cd_Hand_has_leave ct_Hand_has_leave : Value}
    (a_Hand_has_leave_ : PySem.W.findIn K (.ref C_Hand) "has_leave" = some (some (.ref f_Hand_has_leave))) (i_Hand_has_leave : PySem.W.isFn K (.ref f_Hand_has_leave) = true)
    (l_Hand_has_leave : K.lookup f_Hand_has_leave = some ⟨oc_Hand_has_leave, od_Hand_has_leave, .func (PySem.W.fnOf "has_leave" "Hand.has_leave" (defArgs a_Hand_has_leave) (defBody a_Hand_has_leave) (defScope a_Hand_has_leave) .none kV_Hand_has_leave dc_Hand_has_leave pm_Hand_has_leave an_Hand_has_leave cd_Hand_has_leave ct_Hand_has_leave), sl_Hand_has_leave⟩) (c_Hand_has_leave : PySem.W.codeIn K cd_Hand_has_leave "Hand.has_leave" = true) (k_Hand_has_leave : PySem.W.keepIn K (.ref f_Hand_has_leave) = true)
    {f_Hand_wished_place : Addr} {od_Hand_wished_place an_Hand_wished_place : Option Addr} {sl_Hand_wished_place : Array (Option Value)} {oc_Hand_wished_place kV_Hand_wished_place dc_Hand_wished_place pm_Hand_wished_place cd_Hand_wished_place ct_Hand_wished_place : Value}
    (a_Hand_wished_place_ : PySem.W.findIn K (.ref C_Hand) "wished_place" = some (some (.ref f_Hand_wished_place))) (i_Hand_wished_place : PySem.W.isFn K (.ref f_Hand_wished_place) = true)
    (l_Hand_wished_place : K.lookup f_Hand_wished_place = some ⟨oc_Hand_wished_place, od_Hand_wished_place, .func (PySem.W.fnOf "wished_place" "Hand.wished_place" (defArgs a_Hand_wished_place) (defBody a_Hand_wished_place) (defScope a_Hand_wished_place) .none kV_Hand_wished_place dc_Hand_wished_place pm_Hand_wished_place an_Hand_wished_place cd_Hand_wished_place ct_Hand_wished_place), sl_Hand_wished_place⟩) (c_Hand_wished_place : PySem.W.codeIn K cd_Hand_wished_place "Hand.wished_place" = true) (k_Hand_wished_place : PySem.W.keepIn K (.ref f_Hand_wished_place) = true)
    {f_Hand_lacks : Addr} {od_Hand_lacks an_Hand_lacks : Option Addr} {sl_Hand_lacks : Array (Option Value)} {oc_Hand_lacks kV_Hand_lacks dc_Hand_lacks pm_Hand_lacks cd_Hand_lacks ct_Hand_lacks : Value}
    (a_Hand_lacks_ : PySem.W.findIn K (.ref C_Hand) "lacks" = some (some (.ref f_Hand_lacks))) (i_Hand_lacks : PySem.W.isFn K (.ref f_Hand_lacks) = true)
    (l_Hand_lacks : K.lookup f_Hand_lacks = some ⟨oc_Hand_lacks, od_Hand_lacks, .func (PySem.W.fnOf "lacks" "Hand.lacks" (defArgs a_Hand_lacks) (defBody a_Hand_lacks) (defScope a_Hand_lacks) .none kV_Hand_lacks dc_Hand_lacks pm_Hand_lacks an_Hand_lacks cd_Hand_lacks ct_Hand_lacks), sl_Hand_lacks⟩) (c_Hand_lacks : PySem.W.codeIn K cd_Hand_lacks "Hand.lacks" = true) (k_Hand_lacks : PySem.W.keepIn K (.ref f_Hand_lacks) = true)
    {f_Hand_beat : Addr} {od_Hand_beat an_Hand_beat : Option Addr} {sl_Hand_beat : Array (Option Value)} {oc_Hand_beat kV_Hand_beat dc_Hand_beat pm_Hand_beat cd_Hand_beat ct_Hand_beat : Value}
    (a_Hand_beat_ : PySem.W.findIn K (.ref C_Hand) "beat" = some (some (.ref f_Hand_beat))) (i_Hand_beat : PySem.W.isFn K (.ref f_Hand_beat) = true)
    (l_Hand_beat : K.lookup f_Hand_beat = some ⟨oc_Hand_beat, od_Hand_beat, .func (PySem.W.fnOf "beat" "Hand.beat" (defArgs a_Hand_beat) (defBody a_Hand_beat) (defScope a_Hand_beat) .none kV_Hand_beat dc_Hand_beat pm_Hand_beat an_Hand_beat cd_Hand_beat ct_Hand_beat), sl_Hand_beat⟩) (c_Hand_beat : PySem.W.codeIn K cd_Hand_beat "Hand.beat" = true) (k_Hand_beat : PySem.W.keepIn K (.ref f_Hand_beat) = true)
    {f_Hand_hear : Addr} {od_Hand_hear an_Hand_hear : Option Addr} {sl_Hand_hear : Array (Option Value)} {oc_Hand_hear kV_Hand_hear dc_Hand_hear pm_Hand_hear cd_Hand_hear ct_Hand_hear : Value}
    (a_Hand_hear_ : PySem.W.findIn K (.ref C_Hand) "hear" = some (some (.ref f_Hand_hear))) (i_Hand_hear : PySem.W.isFn K (.ref f_Hand_hear) = true)
    (l_Hand_hear : K.lookup f_Hand_hear = some ⟨oc_Hand_hear, od_Hand_hear, .func (PySem.W.fnOf "hear" "Hand.hear" (defArgs a_Hand_hear) (defBody a_Hand_hear) (defScope a_Hand_hear) .none kV_Hand_hear dc_Hand_hear pm_Hand_hear an_Hand_hear cd_Hand_hear ct_Hand_hear), sl_Hand_hear⟩) (c_Hand_hear : PySem.W.codeIn K cd_Hand_hear "Hand.hear" = true) (k_Hand_hear : PySem.W.keepIn K (.ref f_Hand_hear) = true)
    {f_Hand_has_place : Addr} {od_Hand_has_place an_Hand_has_place : Option Addr} {sl_Hand_has_place : Array (Option Value)} {oc_Hand_has_place kV_Hand_has_place dc_Hand_has_place pm_Hand_has_place cd_Hand_has_place ct_Hand_has_place : Value}
    (a_Hand_has_place_ : PySem.W.findIn K (.ref C_Hand) "has_place" = some (some (.ref f_Hand_has_place))) (i_Hand_has_place : PySem.W.isFn K (.ref f_Hand_has_place) = true)
    (l_Hand_has_place : K.lookup f_Hand_has_place = some ⟨oc_Hand_has_place, od_Hand_has_place, .func (PySem.W.fnOf "has_place" "Hand.has_place" (defArgs a_Hand_has_place) (defBody a_Hand_has_place) (defScope a_Hand_has_place) .none kV_Hand_has_place dc_Hand_has_place pm_Hand_has_place an_Hand_has_place cd_Hand_has_place ct_Hand_has_place), sl_Hand_has_place⟩) (c_Hand_has_place : PySem.W.codeIn K cd_Hand_has_place "Hand.has_place" = true) (k_Hand_has_place : PySem.W.keepIn K (.ref f_Hand_has_place) = true)
    {f_Hand_answers : Addr} {od_Hand_answers an_Hand_answers : Option Addr} {sl_Hand_answers : Array (Option Value)} {oc_Hand_answers kV_Hand_answers dc_Hand_answers pm_Hand_answers cd_Hand_answers ct_Hand_answers : Value}
    (a_Hand_answers_ : PySem.W.findIn K (.ref C_Hand) "answers" = some (some (.ref f_Hand_answers))) (i_Hand_answers : PySem.W.isFn K (.ref f_Hand_answers) = true)
    (l_Hand_answers : K.lookup f_Hand_answers = some ⟨oc_Hand_answers, od_Hand_answers, .func (PySem.W.fnOf "answers" "Hand.answers" (defArgs a_Hand_answers) (defBody a_Hand_answers) (defScope a_Hand_answers) .none kV_Hand_answers dc_Hand_answers pm_Hand_answers an_Hand_answers cd_Hand_answers ct_Hand_answers), sl_Hand_answers⟩) (c_Hand_answers : PySem.W.codeIn K cd_Hand_answers "Hand.answers" = true) (k_Hand_answers : PySem.W.keepIn K (.ref f_Hand_answers) = true)
    (z1 : PySem.W.nsIn K mainGlobals "abs" = some none)
    (z2 : PySem.W.nsIn K mainGlobals "all" = some none)
    (z3 : PySem.W.nsIn K mainGlobals "bool" = some none)
    (z4 : PySem.W.nsIn K mainGlobals "dict" = some none)
    (z5 : PySem.W.nsIn K mainGlobals "int" = some none)
    (z6 : PySem.W.nsIn K mainGlobals "isinstance" = some none)
    (z7 : PySem.W.nsIn K mainGlobals "len" = some none)
    (z8 : PySem.W.nsIn K mainGlobals "list" = some none)
    (z9 : PySem.W.nsIn K mainGlobals "max" = some none)
    (z10 : PySem.W.nsIn K mainGlobals "min" = some none)
    (z11 : PySem.W.nsIn K mainGlobals "range" = some none)
    (z12 : PySem.W.nsIn K mainGlobals "repr" = some none)
    (z13 : PySem.W.nsIn K mainGlobals "set" = some none)
    (z14 : PySem.W.nsIn K mainGlobals "sorted" = some none)
    (z15 : PySem.W.nsIn K mainGlobals "str" = some none)
    (z16 : PySem.W.nsIn K mainGlobals "tuple" = some none)
    : ∃ fd : FuncData, (∀ (s : Shared) (v : Value), BindsTo s fd ⟨[v], []⟩ [("_law_script", v)]) ∧ ∀ base : Heap, K.In base → base.Ns mainGlobals mg → FnG l.prog w K mg base 10 fa fd ["_law_script"] (spLaw K) := by
  have e := hfa.symm.trans (PySem.W.mg_of X G a22)
  cases e
  have F1 := fun_mk (st := a_is_whole) l1 c1 k1
  have b1 := F1.binds (ps := ["thing"]) fun _ _ _ _ _ _ us hl => match us, hl with | [_], _ => rfl
  have g1 := PySem.W.mg_of X G a1
  have F2 := fun_mk (st := a_is_count) l2 c2 k2
  have b2 := F2.binds (ps := ["thing"]) fun _ _ _ _ _ _ us hl => match us, hl with | [_], _ => rfl
  have g2 := PySem.W.mg_of X G a2
  have F3 := fun_mk (st := a_is_wish) l3 c3 k3
  have b3 := F3.binds (ps := ["thing"]) fun _ _ _ _ _ _ us hl => match us, hl with | [_], _ => rfl
  have g3 := PySem.W.mg_of X G a3
  have F4 := fun_mk (st := a_is_letter) l4 c4 k4
  have b4 := F4.binds (ps := ["thing"]) fun _ _ _ _ _ _ us hl => match us, hl with | [_], _ => rfl
  have g4 := PySem.W.mg_of X G a4
  have F5 := fun_mk (st := a_wish_number) l5 c5 k5
  have b5 := F5.binds (ps := ["wish"]) fun _ _ _ _ _ _ us hl => match us, hl with | [_], _ => rfl
  have g5 := PySem.W.mg_of X G a5
  have F6 := fun_mk (st := a_is_shared) l6 c6 k6
  have b6 := F6.binds (ps := ["rule"]) fun _ _ _ _ _ _ us hl => match us, hl with | [_], _ => rfl
  have g6 := PySem.W.mg_of X G a6
  have F7 := fun_mk (st := a_own_side) l7 c7 k7
  have b7 := F7.binds (ps := ["rule", "thing"]) fun _ _ _ _ _ _ us hl => match us, hl with | [_, _], _ => rfl
  have g7 := PySem.W.mg_of X G a7
  have F8 := fun_mk (st := a_other_thing) l8 c8 k8
  have b8 := F8.binds (ps := ["rule", "thing"]) fun _ _ _ _ _ _ us hl => match us, hl with | [_, _], _ => rfl
  have g8 := PySem.W.mg_of X G a8
  have F9 := fun_mk (st := a_out_span) l9 c9 k9
  have b9 := F9.binds (ps := ["side", "low", "high"]) fun _ _ _ _ _ _ us hl => match us, hl with | [_, _, _], _ => rfl
  have g9 := PySem.W.mg_of X G a9
  have F10 := fun_mk (st := a_is_out_at) l10 c10 k10
  have b10 := F10.binds (ps := ["side", "place"]) fun _ _ _ _ _ _ us hl => match us, hl with | [_, _], _ => rfl
  have g10 := PySem.W.mg_of X G a10
  have F11 := fun_mk (st := sPot) l11 c11 k11
  have b11 := F11.binds (ps := ["_law_script", "_law_k"]) fun _ _ _ _ _ _ us hl => match us, hl with | [_, _], _ => rfl
  have g11 := PySem.W.mg_of X G a11
  have F12 := fun_mk (st := sTake) l12 c12 k12
  have b12 := F12.binds (ps := ["_law_pot_here", "_law_many"]) fun _ _ _ _ _ _ us hl => match us, hl with | [_, _], _ => rfl
  have g12 := PySem.W.mg_of X G a12
  have F13 := fun_mk (st := sOf) l13 c13 k13
  have b13 := F13.binds (ps := ["_law_pot_here", "_law_some"]) fun _ _ _ _ _ _ us hl => match us, hl with | [_, _], _ => rfl
  have g13 := PySem.W.mg_of X G a13
  have F14 := fun_mk (st := a__law_rules) l14 c14 k14
  have b14 := F14.binds (ps := ["_law_pot_here", "_law_tops", "_law_thing"]) fun _ _ _ _ _ _ us hl => match us, hl with | [_, _, _], _ => rfl
  have g14 := PySem.W.mg_of X G a14
  have F15 := fun_mk (st := a__law_made) l15 c15 k15
  have b15 := F15.binds (ps := ["_law_case"]) fun _ _ _ _ _ _ us hl => match us, hl with | [_], _ => rfl
  have g15 := PySem.W.mg_of X G a15
  have F16 := fun_mk (st := a__law_state) l16 c16 k16
  have b16 := F16.binds (ps := ["_law_hand", "_law_rows"]) fun _ _ _ _ _ _ us hl => match us, hl with | [_, _], _ => rfl
  have g16 := PySem.W.mg_of X G a16
  have F17 := fun_mk (st := a__law_letters) l17 c17 k17
  have b17 := F17.binds (ps := ["_law_pot_here", "_law_wishes", "_law_words"]) fun _ _ _ _ _ _ us hl => match us, hl with | [_, _, _], _ => rfl
  have g17 := PySem.W.mg_of X G a17
  have F18 := fun_mk (st := a__law_shuffled) l18 c18 k18
  have b18 := F18.binds (ps := ["_law_pot_here", "_law_letters_here"]) fun _ _ _ _ _ _ us hl => match us, hl with | [_, _], _ => rfl
  have g18 := PySem.W.mg_of X G a18
  have F19 := fun_mk (st := a__law_twice_right) l19 c19 k19
  have b19 := F19.binds (ps := ["_law_case", "_law_letters_here"]) fun _ _ _ _ _ _ us hl => match us, hl with | [_, _], _ => rfl
  have g19 := PySem.W.mg_of X G a19
  have F20 := fun_mk (st := a__law_orders_right) l20 c20 k20
  have b20 := F20.binds (ps := ["_law_pot_here", "_law_case", "_law_letters_here"]) fun _ _ _ _ _ _ us hl => match us, hl with | [_, _, _], _ => rfl
  have g20 := PySem.W.mg_of X G a20
  have F21 := fun_mk (st := a__law_asks_right) l21 c21 k21
  have b21 := F21.binds (ps := ["_law_pot_here", "_law_case", "_law_wish"]) fun _ _ _ _ _ _ us hl => match us, hl with | [_, _, _], _ => rfl
  have g21 := PySem.W.mg_of X G a21
  have F22 := fun_mk (st := a_law) l22 c22 k22
  have m1 := PySem.W.mg_none_of X G z1
  have m2 := PySem.W.mg_none_of X G z2
  have m3 := PySem.W.mg_none_of X G z3
  have m4 := PySem.W.mg_none_of X G z4
  have m5 := PySem.W.mg_none_of X G z5
  have m6 := PySem.W.mg_none_of X G z6
  have m7 := PySem.W.mg_none_of X G z7
  have m8 := PySem.W.mg_none_of X G z8
  have m9 := PySem.W.mg_none_of X G z9
  have m10 := PySem.W.mg_none_of X G z10
  have m11 := PySem.W.mg_none_of X G z11
  have m12 := PySem.W.mg_none_of X G z12
  have m13 := PySem.W.mg_none_of X G z13
  have m14 := PySem.W.mg_none_of X G z14
  have m15 := PySem.W.mg_none_of X G z15
  have m16 := PySem.W.mg_none_of X G z16
  have gv1 := PySem.W.mg_of X G v1
  have cl_Hand : Cls K C_Hand := ⟨pg_Hand, hd_Hand, po_Hand, sa_Hand⟩
  have HX : HandTxt K C_Hand := ⟨cl_Hand, n_Hand_thing, n_Hand_place, n_Hand_wish, n_Hand_held, n_Hand_tally⟩
  have mgC_Hand := PySem.W.mg_of X G aC_Hand
  have F_Hand___init__ := fun_mk (st := a_Hand___init__) l_Hand___init__ c_Hand___init__ k_Hand___init__
  have b_Hand___init__ := F_Hand___init__.binds (ps := ["self", "thing", "place", "rules"]) fun _ _ _ _ _ _ us hl => match us, hl with | [_, _, _, _], _ => rfl
  have MK_Hand : Mk K C_Hand f_Hand___init__ := ⟨mk_Hand, a_Hand___init___, i_Hand___init__, kc_Hand⟩
  have bI_Hand := b_Hand___init__
  have F_Hand_shares := fun_mk (st := a_Hand_shares) l_Hand_shares c_Hand_shares k_Hand_shares
  have b_Hand_shares := F_Hand_shares.binds (ps := ["self", "number"]) fun _ _ _ _ _ _ us hl => match us, hl with | [_, _], _ => rfl
  have F_Hand_shared := fun_mk (st := a_Hand_shared) l_Hand_shared c_Hand_shared k_Hand_shared
  have b_Hand_shared := F_Hand_shared.binds (ps := ["self"]) fun _ _ _ _ _ _ us hl => match us, hl with | [_], _ => rfl
  have F_Hand_count_of := fun_mk (st := a_Hand_count_of) l_Hand_count_of c_Hand_count_of k_Hand_count_of
  have b_Hand_count_of := F_Hand_count_of.binds (ps := ["self", "number"]) fun _ _ _ _ _ _ us hl => match us, hl with | [_, _], _ => rfl
  have F_Hand_has_leave := fun_mk (st := a_Hand_has_leave) l_Hand_has_leave c_Hand_has_leave k_Hand_has_leave
  have b_Hand_has_leave := F_Hand_has_leave.binds (ps := ["self", "number"]) fun _ _ _ _ _ _ us hl => match us, hl with | [_, _], _ => rfl
  have F_Hand_wished_place := fun_mk (st := a_Hand_wished_place) l_Hand_wished_place c_Hand_wished_place k_Hand_wished_place
  have b_Hand_wished_place := F_Hand_wished_place.binds (ps := ["self"]) fun _ _ _ _ _ _ us hl => match us, hl with | [_], _ => rfl
  have F_Hand_lacks := fun_mk (st := a_Hand_lacks) l_Hand_lacks c_Hand_lacks k_Hand_lacks
  have b_Hand_lacks := F_Hand_lacks.binds (ps := ["self"]) fun _ _ _ _ _ _ us hl => match us, hl with | [_], _ => rfl
  have F_Hand_beat := fun_mk (st := a_Hand_beat) l_Hand_beat c_Hand_beat k_Hand_beat
  have b_Hand_beat := F_Hand_beat.binds (ps := ["self"]) fun _ _ _ _ _ _ us hl => match us, hl with | [_], _ => rfl
  have F_Hand_hear := fun_mk (st := a_Hand_hear) l_Hand_hear c_Hand_hear k_Hand_hear
  have b_Hand_hear := F_Hand_hear.binds (ps := ["self", "letter"]) fun _ _ _ _ _ _ us hl => match us, hl with | [_, _], _ => rfl
  have F_Hand_has_place := fun_mk (st := a_Hand_has_place) l_Hand_has_place c_Hand_has_place k_Hand_has_place
  have b_Hand_has_place := F_Hand_has_place.binds (ps := ["self", "wish"]) fun _ _ _ _ _ _ us hl => match us, hl with | [_, _], _ => rfl
  have F_Hand_answers := fun_mk (st := a_Hand_answers) l_Hand_answers c_Hand_answers k_Hand_answers
  have b_Hand_answers := F_Hand_answers.binds (ps := ["self", "number", "count"]) fun _ _ _ _ _ _ us hl => match us, hl with | [_, _, _], _ => rfl
  refine ⟨PySem.W.fnOf "law" "law" (defArgs a_law) (defBody a_law) (defScope a_law) .none kV22 dc22 pm22 an22 cd22 ct22, fun s v => .of_eq rfl, fun base _ _ => ?_⟩
  have K_is_whole := Kn.mk (x := "is_whole") (base := base) (w := w) (P := l.prog) (ok_is_whole (k := 0) F1 m3 m5 m6) g1 F1.kp b1
  have K_is_count := Kn.mk (x := "is_count") (base := base) (w := w) (P := l.prog) (ok_is_count (k := 0) F2 K_is_whole) g2 F2.kp b2
  have K_is_wish := Kn.mk (x := "is_wish") (base := base) (w := w) (P := l.prog) (ok_is_wish (k := 0) F3 K_is_whole K_is_count gv1 m2 m6 m7 m16) g3 F3.kp b3
  have K_is_letter := Kn.mk (x := "is_letter") (base := base) (w := w) (P := l.prog) (ok_is_letter (k := 0) F4 K_is_count K_is_wish m6 m7 m15 m16) g4 F4.kp b4
  have K_wish_number := Kn.mk (x := "wish_number") (base := base) (w := w) (P := l.prog) (ok_wish_number (k := 0) F5 ) g5 F5.kp b5
  have K_is_shared := Kn.mk (x := "is_shared") (base := base) (w := w) (P := l.prog) (ok_is_shared (k := 0) F6 ) g6 F6.kp b6
  have K_own_side := Kn.mk (x := "own_side") (base := base) (w := w) (P := l.prog) (ok_own_side (k := 0) F7 ) g7 F7.kp b7
  have K_other_thing := Kn.mk (x := "other_thing") (base := base) (w := w) (P := l.prog) (ok_other_thing (k := 0) F8 ) g8 F8.kp b8
  have K_out_span := Kn.mk (x := "out_span") (base := base) (w := w) (P := l.prog) (ok_out_span (k := 0) F9 m9 m10) g9 F9.kp b9
  have K_is_out_at := Kn.mk (x := "is_out_at") (base := base) (w := w) (P := l.prog) (ok_is_out_at (k := 0) F10 K_out_span) g10 F10.kp b10
  have Ktake := Kn.mk (x := "_law_take") (base := base) (w := w) (P := l.prog) (ok_take (k := 0) F12) g12 F12.kp b12
  have K__law_take := Ktake
  have Kof := Kn.mk (x := "_law_of") (base := base) (w := w) (P := l.prog) (ok_of (k := 0) F13 Ktake m7) g13 F13.kp b13
  have K__law_of := Kof
  have K__law_rules := Kn.mk (x := "_law_rules") (base := base) (w := w) (P := l.prog) (ok__law_rules (k := 0) F14 K__law_take K__law_of m7 m11 m16) g14 F14.kp b14
  have M_Hand_has_place : C8.Met l.prog w K mg base _ C_Hand "has_place" _ [] := ⟨_, _, _, [], cl_Hand, ⟨a_Hand_has_place_, i_Hand_has_place, k_Hand_has_place⟩, ok_Hand_has_place (k := 0) F_Hand_has_place HX m7, b_Hand_has_place, .nil⟩
  have M_Hand_shares : C8.Met l.prog w K mg base _ C_Hand "shares" _ [] := ⟨_, _, _, [], cl_Hand, ⟨a_Hand_shares_, i_Hand_shares, k_Hand_shares⟩, ok_Hand_shares (k := 0) F_Hand_shares K_is_whole K_is_shared HX, b_Hand_shares, .nil⟩
  have M_Hand_count_of : C8.Met l.prog w K mg base _ C_Hand "count_of" _ [] := ⟨_, _, _, [], cl_Hand, ⟨a_Hand_count_of_, i_Hand_count_of, k_Hand_count_of⟩, ok_Hand_count_of (k := 0) F_Hand_count_of M_Hand_shares HX, b_Hand_count_of, .nil⟩
  have M_Hand_has_leave : C8.Met l.prog w K mg base _ C_Hand "has_leave" _ [] := ⟨_, _, _, [], cl_Hand, ⟨a_Hand_has_leave_, i_Hand_has_leave, k_Hand_has_leave⟩, ok_Hand_has_leave (k := 0) F_Hand_has_leave M_Hand_count_of HX, b_Hand_has_leave, .nil⟩
  have M_Hand_answers : C8.Met l.prog w K mg base _ C_Hand "answers" _ [] := ⟨_, _, _, [], cl_Hand, ⟨a_Hand_answers_, i_Hand_answers, k_Hand_answers⟩, ok_Hand_answers (k := 0) F_Hand_answers M_Hand_has_leave K_own_side K_is_out_at K_other_thing HX, b_Hand_answers, .nil⟩
  have M_Hand_hear : C8.Met l.prog w K mg base _ C_Hand "hear" _ [] := ⟨_, _, _, [], cl_Hand, ⟨a_Hand_hear_, i_Hand_hear, k_Hand_hear⟩, ok_Hand_hear (k := 0) F_Hand_hear K_is_letter M_Hand_has_place K_wish_number M_Hand_shares M_Hand_answers HX m9, b_Hand_hear, .nil⟩
  have GI_Hand := ok_Hand___init__ (P := l.prog) (w := w) (mg := mg) (base := base) (k := 0) F_Hand___init__ HX
  have K__law_made := Kn.mk (x := "_law_made") (base := base) (w := w) (P := l.prog) (ok__law_made (k := 0) F15 M_Hand_hear HX MK_Hand GI_Hand bI_Hand mgC_Hand) g15 F15.kp b15
  have M_Hand_shared : C8.Met l.prog w K mg base _ C_Hand "shared" _ [] := ⟨_, _, _, [], cl_Hand, ⟨a_Hand_shared_, i_Hand_shared, k_Hand_shared⟩, ok_Hand_shared (k := 0) F_Hand_shared K_is_shared HX m14, b_Hand_shared, .nil⟩
  have M_Hand_wished_place : C8.Met l.prog w K mg base _ C_Hand "wished_place" _ [] := ⟨_, _, _, [], cl_Hand, ⟨a_Hand_wished_place_, i_Hand_wished_place, k_Hand_wished_place⟩, ok_Hand_wished_place (k := 0) F_Hand_wished_place HX, b_Hand_wished_place, .nil⟩
  have M_Hand_lacks : C8.Met l.prog w K mg base _ C_Hand "lacks" _ [] := ⟨_, _, _, [], cl_Hand, ⟨a_Hand_lacks_, i_Hand_lacks, k_Hand_lacks⟩, ok_Hand_lacks (k := 0) F_Hand_lacks M_Hand_shared M_Hand_has_leave M_Hand_wished_place K_own_side K_is_out_at HX m16, b_Hand_lacks, .nil⟩
  have M_Hand_beat : C8.Met l.prog w K mg base _ C_Hand "beat" _ [] := ⟨_, _, _, [], cl_Hand, ⟨a_Hand_beat_, i_Hand_beat, k_Hand_beat⟩, ok_Hand_beat (k := 0) F_Hand_beat M_Hand_lacks M_Hand_shared K_other_thing HX m13 m14 m16, b_Hand_beat, .nil⟩
  have K__law_state := ok__law_state (P := l.prog) (w := w) (mg := mg) (base := base) F16 M_Hand_count_of M_Hand_lacks M_Hand_beat HX m12
  have K__law_letters := Kn.mk (x := "_law_letters") (base := base) (w := w) (P := l.prog) (ok__law_letters (k := 0) F17 K__law_take K__law_of m11) g17 F17.kp b17
  have K__law_shuffled := Kn.mk (x := "_law_shuffled") (base := base) (w := w) (P := l.prog) (ok__law_shuffled (k := 0) F18 K__law_take m5 m7 m8) g18 F18.kp b18
  have K__law_twice_right := ok__law_twice_right (P := l.prog) (w := w) (mg := mg) (base := base) F19 K__law_made K__law_state g16 F16.kp b16 M_Hand_hear HX m12
  have K__law_orders_right := ok__law_orders_right (P := l.prog) (w := w) (mg := mg) (base := base) F20 K__law_made K__law_state g16 F16.kp b16 K__law_shuffled M_Hand_hear M_Hand_count_of HX m5 m9
  have K__law_asks_right := ok__law_asks_right (P := l.prog) (w := w) (mg := mg) (base := base) F21 K__law_made K__law_state g16 F16.kp b16 K__law_shuffled K__law_take M_Hand_hear HX m4 m9
  have Kpot := Kn.mk (x := "_law_pot") (base := base) (w := w) (P := l.prog) (ok_pot (k := 0) F11 m7 m1 m5) g11 F11.kp b11
  have K__law_pot := Kpot
  exact ok_law F22 K__law_take K__law_of K__law_pot K__law_rules K__law_letters K__law_twice_right g19 F19.kp b19 K__law_orders_right g20 F20.kp b20 K__law_asks_right g21 F21.kp b21 m7 m9 m10 m11 m16
end K65
open PySem PySem.W PyProof.Rows
set_option maxHeartbeats 0 in
theorem PySem.Challenge.cw_notbothout_k65_whole_letters_twice_and_i_holds : PySem.Challenge.rw_notbothout_k65_whole_letters_twice_and_i.Holds := by
  w_on; o_law; k_head; (case hw => w_witness2)
  k_fill
  refine NB.walkG (l := PySem.Challenge.rw_notbothout_k65_whole_letters_twice_and_i) (n := 63) (k := 10) (x := "_law_script") (sp := fun w => K65.spLaw _) rfl (by decide) rfl ⟨rfl, by decide, by decide⟩ (fun w h Y => PySem.W.kIn_of Y) ?F (fun _ _ a ns hl hS => ⟨a, ns, rfl, hS, hl, fun _ => rfl⟩)
  case F =>
    intro w mg fa h KX G hmg
    refine' K65.all_mk KX G hmg ?a1 ?l1 ?c1 ?k1 ?a2 ?l2 ?c2 ?k2 ?a3 ?l3 ?c3 ?k3 ?a4 ?l4 ?c4 ?k4 ?a5 ?l5 ?c5 ?k5 ?a6 ?l6 ?c6 ?k6 ?a7 ?l7 ?c7 ?k7 ?a8 ?l8 ?c8 ?k8 ?a9 ?l9 ?c9 ?k9 ?a10 ?l10 ?c10 ?k10 ?a11 ?l11 ?c11 ?k11 ?a12 ?l12 ?c12 ?k12 ?a13 ?l13 ?c13 ?k13 ?a14 ?l14 ?c14 ?k14 ?a15 ?l15 ?c15 ?k15 ?a16 ?l16 ?c16 ?k16 ?a17 ?l17 ?c17 ?k17 ?a18 ?l18 ?c18 ?k18 ?a19 ?l19 ?c19 ?k19 ?a20 ?l20 ?c20 ?k20 ?a21 ?l21 ?c21 ?k21 ?a22 ?l22 ?c22 ?k22 ?v1 ?aC_Hand ?pg_Hand ?hd_Hand ?po_Hand ?sa_Hand ?mk_Hand ?kc_Hand ?n_Hand_thing ?n_Hand_place ?n_Hand_wish ?n_Hand_held ?n_Hand_tally ?a_Hand___init___ ?i_Hand___init__ ?l_Hand___init__ ?c_Hand___init__ ?k_Hand___init__ ?a_Hand_shares_ ?i_Hand_shares ?l_Hand_shares ?c_Hand_shares ?k_Hand_shares ?a_Hand_shared_ ?i_Hand_shared ?l_Hand_shared ?c_Hand_shared ?k_Hand_shared ?a_Hand_count_of_ ?i_Hand_count_of ?l_Hand_count_of ?c_Hand_count_of ?k_Hand_count_of ?a_Hand_has_leave_ ?i_Hand_has_leave ?l_Hand_has_leave ?c_Hand_has_leave ?k_Hand_has_leave ?a_Hand_wished_place_ ?i_Hand_wished_place ?l_Hand_wished_place ?c_Hand_wished_place ?k_Hand_wished_place ?a_Hand_lacks_ ?i_Hand_lacks ?l_Hand_lacks ?c_Hand_lacks ?k_Hand_lacks ?a_Hand_beat_ ?i_Hand_beat ?l_Hand_beat ?c_Hand_beat ?k_Hand_beat ?a_Hand_hear_ ?i_Hand_hear ?l_Hand_hear ?c_Hand_hear ?k_Hand_hear ?a_Hand_has_place_ ?i_Hand_has_place ?l_Hand_has_place ?c_Hand_has_place ?k_Hand_has_place ?a_Hand_answers_ ?i_Hand_answers ?l_Hand_answers ?c_Hand_answers ?k_Hand_answers ?z1 ?z2 ?z3 ?z4 ?z5 ?z6 ?z7 ?z8 ?z9 ?z10 ?z11 ?z12 ?z13 ?z14 ?z15 ?z16
    (case a1 => k_is)
    (case l1 => k_is)
    (case c1 => k_is)
    (case k1 => k_is)
    (case a2 => k_is)
    (case l2 => k_is)
    (case c2 => k_is)
    (case k2 => k_is)
    (case a3 => k_is)
    (case l3 => k_is)
    (case c3 => k_is)
    (case k3 => k_is)
    (case a4 => k_is)
    (case l4 => k_is)
    (case c4 => k_is)
    (case k4 => k_is)
    (case a5 => k_is)
    (case l5 => k_is)
    (case c5 => k_is)
    (case k5 => k_is)
    (case a6 => k_is)
    (case l6 => k_is)
    (case c6 => k_is)
    (case k6 => k_is)
    (case a7 => k_is)
    (case l7 => k_is)
    (case c7 => k_is)
    (case k7 => k_is)
    (case a8 => k_is)
    (case l8 => k_is)
    (case c8 => k_is)
    (case k8 => k_is)
    (case a9 => k_is)
    (case l9 => k_is)
    (case c9 => k_is)
    (case k9 => k_is)
    (case a10 => k_is)
    (case l10 => k_is)
    (case c10 => k_is)
    (case k10 => k_is)
    (case a11 => k_is)
    (case l11 => k_is)
    (case c11 => k_is)
    (case k11 => k_is)
    (case a12 => k_is)
    (case l12 => k_is)
    (case c12 => k_is)
    (case k12 => k_is)
    (case a13 => k_is)
    (case l13 => k_is)
    (case c13 => k_is)
    (case k13 => k_is)
    (case a14 => k_is)
    (case l14 => k_is)
    (case c14 => k_is)
    (case k14 => k_is)
    (case a15 => k_is)
    (case l15 => k_is)
    (case c15 => k_is)
    (case k15 => k_is)
    (case a16 => k_is)
    (case l16 => k_is)
    (case c16 => k_is)
    (case k16 => k_is)
    (case a17 => k_is)
    (case l17 => k_is)
    (case c17 => k_is)
    (case k17 => k_is)
    (case a18 => k_is)
    (case l18 => k_is)
    (case c18 => k_is)
    (case k18 => k_is)
    (case a19 => k_is)
    (case l19 => k_is)
    (case c19 => k_is)
    (case k19 => k_is)
    (case a20 => k_is)
    (case l20 => k_is)
    (case c20 => k_is)
    (case k20 => k_is)
    (case a21 => k_is)
    (case l21 => k_is)
    (case c21 => k_is)
    (case k21 => k_is)
    (case a22 => k_is)
    (case l22 => k_is)
    (case c22 => k_is)
    (case k22 => k_is)
    (case v1 => k_is)
    (case aC_Hand => k_is)
    (case pg_Hand => k_is)
    (case hd_Hand => k_is)
    (case po_Hand => k_is)
    (case sa_Hand => k_is)
    (case mk_Hand => k_is)
    (case kc_Hand => k_is)
    (case n_Hand_thing => k_is)
    (case n_Hand_place => k_is)
    (case n_Hand_wish => k_is)
    (case n_Hand_held => k_is)
    (case n_Hand_tally => k_is)
    (case a_Hand___init___ => k_is)
    (case i_Hand___init__ => k_is)
    (case l_Hand___init__ => k_is)
    (case c_Hand___init__ => k_is)
    (case k_Hand___init__ => k_is)
    (case a_Hand_shares_ => k_is)
    (case i_Hand_shares => k_is)
    (case l_Hand_shares => k_is)
    (case c_Hand_shares => k_is)
    (case k_Hand_shares => k_is)
    (case a_Hand_shared_ => k_is)
    (case i_Hand_shared => k_is)
    (case l_Hand_shared => k_is)
    (case c_Hand_shared => k_is)
    (case k_Hand_shared => k_is)
    (case a_Hand_count_of_ => k_is)
    (case i_Hand_count_of => k_is)
    (case l_Hand_count_of => k_is)
    (case c_Hand_count_of => k_is)
    (case k_Hand_count_of => k_is)
    (case a_Hand_has_leave_ => k_is)
    (case i_Hand_has_leave => k_is)
    (case l_Hand_has_leave => k_is)
    (case c_Hand_has_leave => k_is)
    (case k_Hand_has_leave => k_is)
    (case a_Hand_wished_place_ => k_is)
    (case i_Hand_wished_place => k_is)
    (case l_Hand_wished_place => k_is)
    (case c_Hand_wished_place => k_is)
    (case k_Hand_wished_place => k_is)
    (case a_Hand_lacks_ => k_is)
    (case i_Hand_lacks => k_is)
    (case l_Hand_lacks => k_is)
    (case c_Hand_lacks => k_is)
    (case k_Hand_lacks => k_is)
    (case a_Hand_beat_ => k_is)
    (case i_Hand_beat => k_is)
    (case l_Hand_beat => k_is)
    (case c_Hand_beat => k_is)
    (case k_Hand_beat => k_is)
    (case a_Hand_hear_ => k_is)
    (case i_Hand_hear => k_is)
    (case l_Hand_hear => k_is)
    (case c_Hand_hear => k_is)
    (case k_Hand_hear => k_is)
    (case a_Hand_has_place_ => k_is)
    (case i_Hand_has_place => k_is)
    (case l_Hand_has_place => k_is)
    (case c_Hand_has_place => k_is)
    (case k_Hand_has_place => k_is)
    (case a_Hand_answers_ => k_is)
    (case i_Hand_answers => k_is)
    (case l_Hand_answers => k_is)
    (case c_Hand_answers => k_is)
    (case k_Hand_answers => k_is)
    (case z1 => k_is)
    (case z2 => k_is)
    (case z3 => k_is)
    (case z4 => k_is)
    (case z5 => k_is)
    (case z6 => k_is)
    (case z7 => k_is)
    (case z8 => k_is)
    (case z9 => k_is)
    (case z10 => k_is)
    (case z11 => k_is)
    (case z12 => k_is)
    (case z13 => k_is)
    (case z14 => k_is)
    (case z15 => k_is)
    (case z16 => k_is)
