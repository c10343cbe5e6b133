import PyProof.Rows.All
import Wide.All
import OpenK.AllK
import Wide.FinOn
import HandS.Base
import HandS.Call
import HandS.List
import HandS.Comp
import HandS.Ends
import HandS.Dict
import HandS.Iter
import HandS.Text
import HandS.Words
import HandS.WordsList
import HandS.WordsDict
import HandS.Wide
import HandS.Zip
import HandS.Flow
import HandS.Flt
import KE.GoesMore
import KE.KDictZip
import PyProof.ReprRoads
import HandS.Walk
import PyProof.TupleOfSeq
import KE.GoesEnum
import HandS.Style
import PyProof.ReprLen
import HandS.IsInst
import HandS.TupAny
import PyProof.EqAt
import PyProof.NeKinds
import HandS.Codes
import HandS.Defaults
import HandS.TupMul
import HandS.Small
import HandS.More
import HandS.DictComp
import HandS.TupSets
import HandS.Strs
import HandS.Exc
import HandS.ExcOwn
import HandS.ExcInit
import HandS.ExcField
import HandS.WordsExc
import HandS.ExcIs
import HandS.Lambda
import HandS.EndTab
import HandS.EndOwn
import HandS.SetFor
import PyProof.EqKinds
import PySem.Challenge.RW_notbothout_k61_hands_refuse
set_option Elab.async false
set_option linter.all false
set_option maxRecDepth 100000
/-! Defs whose callers are known to show nothing (guards empty): what repr wants. -/
namespace NB
open PySem PySem.Spec PyProof.Rows L2

/-- a def's promise, wherever nothing is being shown around it -/
structure FnG (P : Program) (w : World) (K : PySem.W.Frag) (mg : Str → Option Value) (base : Heap) (k : Nat) (f : Addr) (fd : FuncData) (ps : List Str) (sp : Sp) : Prop where
  len : ∀ vs H Q E, sp vs H Q E → vs.length = ps.length
  go : ∀ (A : Around) (out : List Env) (s : Shared) (H : Hp) (ar : Args) (us : List Value) (vs : List V) (Q : VK) (E : XK),
    A.guards = some [] → Room k A → Env0 P w K mg base A out s H → BindsTo s fd ar (ps.zip us) → Vals vs us → sp vs H Q E →
    codeAny (model P w) A (.call (.ref f) ar) (CR CX0 out P w H s Q E) s

section
variable {P : Program} {w : World} {K : PySem.W.Frag} {mg : Str → Option Value} {base : Heap}

theorem FnG.of {k : Nat} {f : Addr} {fd : FuncData} {ps : List Str} {sp : Sp} (F : FnOk P w K mg base CX0 k f fd ps sp) : FnG P w K mg base k f fd ps sp :=
  ⟨F.len, fun A out s H ar us vs Q E _ => F.run A out s H ar us vs Q E⟩

theorem fnG {x qual : Str} {st : Stmt} {f : Addr} {fd : FuncData} {N ps : List Str} {k : Nat} {sp : Sp} (F : Fun K x qual st f fd)
    (S : FnScope N ps (defScope st)) (len : ∀ vs H Q E, sp vs H Q E → vs.length = ps.length)
    (body : ∀ (c : Value) (A : Around) (out : List Env) (s : Shared) (H : Hp) (vs : List V) (Q : VK) (E : XK),
      A.guards = some [] → Room k (A.deeper (envOfC qual (defScope st) s.heap.objs.size f c)) → sp vs H Q E →
      ∃ t, PSs (cxOf CX0 P w K mg base N qual (defScope st) f c A out s H E).nox (defBody st) t ∧
        t { nx := fun _ H' => Q .non H', rt := Q } (start N vs) H) :
    FnG P w K mg base (k + 1) f fd ps sp := by
  obtain ⟨oc, od, kV, doc, pm, an, c, ct, osl, rfl, lk, hc⟩ := F.ex
  refine ⟨len, fun A out s H ar us vs Q E hg hr e hb r h => ?_⟩
  have stays : ∀ b o, base.get? b = some o → s.heap.get? b = some o := fun b o q => (e.bs b o q).1
  have inH : K.In s.heap := e.mod.kin.keeps stays
  have noLim : s.heap.NoLimit := e.mod.nolimit.keeps stays
  have kinds : ∀ y ∈ ps.zip us, (defScope st).names.lookup y.1 = some .local ∨
      ((defScope st).names.lookup y.1 = some .cell ∧ ((cellsFrom (s.heap.objs.size + 1) (defScope st).names []).lookup y.1).isSome = true) := by
    intro y hy
    obtain ⟨n, v⟩ := y
    cases S.par n (List.of_mem_zip hy).1 with
    | inl q => exact .inl q
    | inr q => exact .inr ⟨q, PySem.W.cellsFrom_some _ _ _ (.inl q)⟩
  refine codeAny_call_function hr.depth (inH _ _ lk) rfl S.co S.gen rfl (PySem.W.codeRec_of inH hc) (hb _ _ _ _ ?_)
  refine wpAny_newFunctionEnv_cells S.kind kinds ?_
  rintro env rfl s1 x
  refine ⟨noLim.keeps x.toInCall.keep, codeAny_func ?_⟩
  obtain ⟨t, ht, hq⟩ := body c A out s H vs Q E hg (hr.deeper _) h
  have I := inv_start (CX := CX0) (E := E) S hr.hd e (len _ _ _ _ h) r x
  refine wpAny_mono (ht.nox.run [] s1 (start N vs) H _ I hq) ?_ fun _ _ z => z
  intro fl s' z
  cases fl with
  | ret u =>
    obtain ⟨v, σ', H', J, rv, q⟩ := z
    exact ⟨v, H', J.os, J.bare, J.base, J.hok, rv, q⟩
  | next =>
    obtain ⟨σ', H', J, q⟩ := z
    exact ⟨V.non, H', J.os, J.bare, J.base, J.hok, rfl, q⟩
  | brk => exact False.elim z.choose_spec.choose_spec.2
  | cont => exact False.elim z.choose_spec.choose_spec.2
end

section
variable {X : Cx} {k : Nat} {f : Addr} {fd : FuncData} {ps : List Str} {sp : Sp} {x : Str} {p pos : Pos} {e : Expr} {es : List Expr} {t : TA}
/-- f(..) of such a def, all arguments written -/
theorem pe_callG (hG : X.A.guards = some []) (F : FnG X.prog X.w X.K X.mg X.base k f fd ps sp) (hr : Room k X.A) (hg : Gl X x) (hm : X.mg x = some (.ref f))
    (hk : PySem.W.keepIn X.K (.ref f) = true) (hb : Binds X.K fd ps []) (ha : PA X (e :: es) t) (hdb : (x == ("__debug__" : Str)) = false := by decide)
    (he : starEach (e :: es) X.env = (false, eval e X.env) :: starEach es X.env := by rfl) (hpl : (backTo pos (starEach es X.env)).any (·.1) = false := by rfl) :
    PE X (.Call (.Name x p) (e :: es) [] pos) (tCall sp [] E0 t) := by
  refine ⟨fun pins s σ H Q I h => wpAny_Call_Name_kw (ld_glob I hg hm ?_ hdb)⟩
  refine PySem.W.callWith_K (h₀ := X.base) I.ok.mod.kin hk (thn (ha.run pos pins s σ H _ I h) ?_) he hpl
  rintro us s1 ⟨vs, H1, I1, r, q⟩
  refine ⟨I1.kIn, wpAny_call ?_⟩
  have q2 : sp vs H1 Q E0 := by
    have q' : sp (vs ++ []) H1 Q E0 := q
    rwa [List.append_nil] at q'
  have ln : us.length = ps.length := r.length.symm.trans (F.len _ _ _ _ q2)
  have bnd : BindsTo s1 fd ⟨us, []⟩ (ps.zip us) := by
    have b := hb s1 us I1.kIn (by rw [List.append_nil]; exact ln)
    rwa [List.append_nil] at b
  refine codeAny_mono (F.go X.A X.stack s1 H1 ⟨us, []⟩ us vs Q E0 hG hr I1.env0 bnd r q2) ?_
  intro rs s' z
  cases rs with
  | error e => exact False.elim z
  | ok fl =>
    cases fl with
    | ret u => exact I1.after z
    | next => exact False.elim z
    | brk => exact False.elim z
    | cont => exact False.elim z
end

section
variable {X : Cx}
/-- what repr asks of data -/
structure Showable (d : PyData) : Prop where
  sh : d.showable = true
  nd : d.hasDict = false
  dp : d.depth ≤ 60
  sz : d.shown.length ≤ sizeLine
/-- repr(x), x a list or a tuple of data -/
theorem call_reprD (hG : X.A.guards = some []) (hu : X.A.units + 64 < cLine) : CallR X (.builtin "repr") (fun xs H Q => ∃ a d, xs = [.ref a] ∧ Dp X.K H (.ref a) d ∧ Showable d ∧ Q (.str d.shown) H) := by
  intro pins s σ H xs us Q I r h
  obtain ⟨a, d, rfl, hd, S, q⟩ := h
  obtain ⟨u, rfl, ru⟩ := vals1 r
  obtain ⟨as, rd⟩ := Dp.reads I d _ u hd ru
  cases ru
  have hn := S.dp
  exact repr_of_reads' rd S.sh (PyData.noDict_hsm S.nd) hG (by omega) (fun _ _ z => z) (fun h' u tk hk => ⟨.str _, H, I.kept hk, ⟨_, rfl⟩, q⟩) S.sz
end
end NB

set_option Elab.async false
set_option linter.all false
set_option maxRecDepth 100000
set_option maxHeartbeats 1000000
/-! zip of three tuples of one length, its turns given to one name or to three. -/
namespace NB
open PySem PySem.Spec PyProof.Rows L2
open PySem.Sem (wp)

/-- a zip as it stands between two turns: a is None or the tuple given out last -/
abbrev Zat (h : Heap) (z ti to : Addr) (a b : Value) : Prop :=
  h.get? z = some { cls := .type "zip", dict := none, data := .fields #[a, b, .bool false, .ref ti, .ref to], slots := #[] }
def Out (a : Value) : Prop := a = .none ∨ ∃ T : Addr, a = rawInt T

section
variable {prog : Program} {w : World} {A : Around} {E : Value → Shared → Prop} {s : Shared} {z ti to i1 i2 i3 l1 l2 l3 : Addr} {a a1 a2 a3 : Value} {f : Bool} {xs ys zs : Array Value} {i : Nat}

theorem freeOr {Q : Bool → Shared → Prop} (ho : Out a) (hz : Zat s.heap z ti to a (.bool f))
    (h : ∀ (b : Bool) (h' : Heap) (g : Bool), Zat h' z ti to a (.bool g) → Heap.SameBut z s.heap h' → Q b { s with heap := h' }) :
    wpAny (model prog w) A (Builtin.SmallTypes.ownedTupleIsFree (.ref z)) Q E s := by
  unfold Builtin.SmallTypes.ownedTupleIsFree
  refine wpAny_bind (wpAny_field hz rfl (x := a) rfl ?_)
  rcases ho with e | ⟨T, e⟩
  · subst e
    exact wpAny_pure (h true s.heap f hz (Heap.SameBut.refl _ _))
  · subst e
    show wpAny _ _ (loadIfAlive ((T : Int).toNat) >>= _) _ _ _
    rw [Int.toNat_natCast]
    refine wpAny_bind ?_
    cases e : s.heap.get? T with
    | none =>
      have key : wpAny (model prog w) A (loadIfAlive T) (fun r s' => r = none ∧ s' = s) E s := fun _ _ _ => ⟨e, rfl⟩
      refine thn key fun r s' q => ?_
      obtain ⟨rfl, rfl⟩ := q
      exact wpAny_pure (h true _ f hz (Heap.SameBut.refl _ _))
    | some o =>
      refine PySem.W.kdx_alive e ?_
      simp only [Option.isNone_some, Bool.false_eq_true, if_false]
      refine wpAny_bind (wpAny_field hz rfl (x := .bool f) rfl ?_)
      cases f with
      | true =>
        rw [if_neg (show ¬ ((Value.bool true != Value.bool true) = true) by decide)]
        exact wpAny_pure (h false s.heap true hz (Heap.SameBut.refl _ _))
      | false =>
        rw [if_pos (show (Value.bool false != Value.bool true) = true by decide)]
        exact wpAny_bind (wpAny_setField_rec hz (by simp) fun h1 z1 s1 => wpAny_pure (h false h1 true z1 s1))

/-- the three iterators over their tuples at turn i, apart from the zip's own cells -/
abbrev St3 (h : Heap) (i1 i2 i3 l1 l2 l3 : Addr) (xs ys zs : Array Value) (i : Nat) : Prop :=
  (h.IsTupleIter i1 l1 i ∧ h.IsTuple l1 xs) ∧ (h.IsTupleIter i2 l2 i ∧ h.IsTuple l2 ys) ∧ (h.IsTupleIter i3 l3 i ∧ h.IsTuple l3 zs)

theorem keepIt {h h' : Heap} {it l : Addr} {k : Nat} {vs : Array Value} (st : h.IsTupleIter it l k ∧ h.IsTuple l vs) {x : Addr} (hs : Heap.SameBut x h h') (n1 : it ≠ x) (n2 : l ≠ x) : h'.IsTupleIter it l k ∧ h'.IsTuple l vs :=
  ⟨st.1.extBut hs.extBut n1, st.2.extBut hs.extBut n2⟩

structure Far3 (z ti to i1 i2 i3 l1 l2 l3 : Addr) : Prop where
  tiz : ti ≠ z
  toz : to ≠ z
  tito : ti ≠ to
  ti1 : ti ≠ i1
  ti2 : ti ≠ i2
  ti3 : ti ≠ i3
  to1 : to ≠ i1
  to2 : to ≠ i2
  to3 : to ≠ i3
  z1 : i1 ≠ z
  z2 : i2 ≠ z
  z3 : i3 ≠ z
  n12 : i1 ≠ i2
  n13 : i1 ≠ i3
  n23 : i2 ≠ i3
  l1n : l1 ≠ z ∧ l1 ≠ to ∧ l1 ≠ i1 ∧ l1 ≠ i2 ∧ l1 ≠ i3
  l2n : l2 ≠ z ∧ l2 ≠ to ∧ l2 ≠ i1 ∧ l2 ≠ i2 ∧ l2 ≠ i3
  l3n : l3 ≠ z ∧ l3 ≠ to ∧ l3 ≠ i1 ∧ l3 ≠ i2 ∧ l3 ≠ i3

theorem drawT {it l : Addr} {k : Nat} {vs : Array Value} {x : Value} {Q : Value → Shared → Prop} (st : s.heap.IsTupleIter it l k ∧ s.heap.IsTuple l vs) (ne : l ≠ it) (hx : vs[k]? = some x)
    (h : ∀ h', (h'.IsTupleIter it l (k + 1) ∧ h'.IsTuple l vs) → Heap.SameBut it s.heap h' → Q x { s with heap := h' }) :
    wpAny (model prog w) A (Builtin.SmallTypes.nextOf (.ref it)) Q E s :=
  RZ.nextOf_tuple_item st.1 st.2 hx fun h' q1 q2 => h h' ⟨q1, st.2.extBut q2.extBut ne⟩ q2

theorem next3 {x1 x2 x3 : Value} {Q : Value → Shared → Prop} (D : Far3 z ti to i1 i2 i3 l1 l2 l3) (ho : Out a) (hz : Zat s.heap z ti to a (.bool f))
    (hI : IsTupOf3 s.heap ti (.ref i1) (.ref i2) (.ref i3)) (hO : IsTupOf3 s.heap to a1 a2 a3) (st : St3 s.heap i1 i2 i3 l1 l2 l3 xs ys zs i)
    (hx : xs[i]? = some x1) (hy : ys[i]? = some x2) (hw : zs[i]? = some x3)
    (hQ : ∀ (h' : Heap) (a' : Value) (g : Bool) (b1 b2 b3 : Value), Out a' → Zat h' z ti to a' (.bool g) → IsTupOf3 h' to b1 b2 b3 → St3 h' i1 i2 i3 l1 l2 l3 xs ys zs (i + 1) → IsTupOf3 h' s.heap.objs.size x1 x2 x3 → h'.objs.size = s.heap.objs.size + 1 →
      (∀ c o, c ≠ z → c ≠ to → c ≠ i1 → c ≠ i2 → c ≠ i3 → s.heap.get? c = some o → h'.get? c = some o) → Q (.ref s.heap.objs.size) { s with heap := h' }) :
    wpAny (model prog w) A (Builtin.«zip.__next__» ⟨[.ref z], []⟩) (fun fin s' => ∃ v, fin = .done (.ret v) ∧ Q v s') E s := by
  obtain ⟨hp, gg, dd, tk, os⟩ := s
  show wpAny _ _ (field (.ref z) 2 >>= _) _ _ _
  refine wpAny_bind (wpAny_field hz rfl (x := .bool false) rfl ?_)
  show wpAny _ _ (field (.ref z) 3 >>= _) _ _ _
  refine wpAny_bind (wpAny_field hz rfl (x := .ref ti) rfl ?_)
  refine wpAny_bind (wpAny_seqItems hI rfl ?_)
  show wpAny _ _ (Builtin.SmallTypes.ownedTupleIsFree (.ref z) >>= _) _ _ _
  refine wpAny_bind (freeOr ho hz fun b h1 f1 hz1 hs1 => ?_)
  replace hs1 : Heap.SameBut z hp h1 := hs1
  obtain ⟨sa, sb, sc⟩ := st
  have sa1 := keepIt sa hs1 D.z1 D.l1n.1
  have sb1 := keepIt sb hs1 D.z2 D.l2n.1
  have sc1 := keepIt sc hs1 D.z3 D.l3n.1
  have hO1 : IsTupOf3 h1 to a1 a2 a3 := hs1.extBut _ _ D.toz hO
  cases b with
  | false =>
    simp only [Bool.false_eq_true, if_false]
    refine wpAny_bind ?_
    rw [← Array.forIn_toList]
    simp only [List.forIn_cons, List.forIn_nil]
    refine wpAny_bind (wpAny_bind (wpAny_holding ?_))
    show wpAny _ _ (Builtin.SmallTypes.nextOf (.ref i1) >>= _) _ _ ⟨h1, gg, dd, tk, os⟩
    refine wpAny_bind (drawT (s := ⟨h1, gg, dd, tk, os⟩) sa1 D.l1n.2.2.1 hx fun h2 sa2 hs2 => wpAny_pure (wpAny_pure ?_))
    replace hs2 : Heap.SameBut i1 h1 h2 := hs2
    have sb2 := keepIt sb1 hs2 D.n12.symm D.l2n.2.2.1
    have sc2 := keepIt sc1 hs2 D.n13.symm D.l3n.2.2.1
    refine wpAny_bind (wpAny_bind (wpAny_holding ?_))
    show wpAny _ _ (Builtin.SmallTypes.nextOf (.ref i2) >>= _) _ _ ⟨h2, gg, dd, tk, os⟩
    refine wpAny_bind (drawT (s := ⟨h2, gg, dd, tk, os⟩) sb2 D.l2n.2.2.2.1 hy fun h3 sb3 hs3 => wpAny_pure (wpAny_pure ?_))
    replace hs3 : Heap.SameBut i2 h2 h3 := hs3
    have sa3 := keepIt sa2 hs3 D.n12 D.l1n.2.2.2.1
    have sc3 := keepIt sc2 hs3 D.n23.symm D.l3n.2.2.2.1
    refine wpAny_bind (wpAny_bind (wpAny_holding ?_))
    show wpAny _ _ (Builtin.SmallTypes.nextOf (.ref i3) >>= _) _ _ ⟨h3, gg, dd, tk, os⟩
    refine wpAny_bind (drawT (s := ⟨h3, gg, dd, tk, os⟩) sc3 D.l3n.2.2.2.2 hw fun h4 sc4 hs4 => wpAny_pure (wpAny_pure (wpAny_pure ?_)))
    replace hs4 : Heap.SameBut i3 h3 h4 := hs4
    have sa4 := keepIt sa3 hs4 D.n13 D.l1n.2.2.2.2
    have sb4 := keepIt sb3 hs4 D.n23 D.l2n.2.2.2.2
    show wpAny _ _ (newTuple [x1, x2, x3] >>= _) _ _ ⟨h4, gg, dd, tk, os⟩
    refine wpAny_bind (wpAny_newTuple (wpAny_pure ⟨_, rfl, ?_⟩))
    have sz : h4.objs.size = hp.objs.size := by rw [hs4.1, hs3.1, hs2.1, hs1.1]
    have kk : ∀ c o, c ≠ z → c ≠ i1 → c ≠ i2 → c ≠ i3 → hp.get? c = some o → h4.get? c = some o := fun c o c0 c1 c2 c3 e =>
      hs4.extBut _ _ c3 (hs3.extBut _ _ c2 (hs2.extBut _ _ c1 (hs1.extBut _ _ c0 e)))
    have hz4 : Zat h4 z ti to a (.bool f1) := hs4.extBut _ _ D.z3.symm (hs3.extBut _ _ D.z2.symm (hs2.extBut _ _ D.z1.symm hz1))
    have hO4 : IsTupOf3 h4 to a1 a2 a3 := kk _ _ D.toz D.to1 D.to2 D.to3 hO
    have up : ∀ c o, h4.get? c = some o → (h4.push { cls := .type "tuple", data := .seq #[x1, x2, x3] }).get? c = some o := fun c o e => Heap.get?_push_of_some _ e
    have nw : IsTupOf3 (h4.push { cls := .type "tuple", data := .seq #[x1, x2, x3] }) h4.objs.size x1 x2 x3 := Heap.get?_push_size _ rfl
    have zw : (h4.push { cls := .type "tuple", data := .seq #[x1, x2, x3] }).objs.size = h4.objs.size + 1 := Heap.size_push ..
    show Q (.ref h4.objs.size) _
    rw [sz] at nw zw ⊢
    exact hQ _ a f1 a1 a2 a3 ho (up _ _ hz4) (up _ _ hO4)
      ⟨⟨sa4.1.at fun o e => up _ o e, sa4.2.push _⟩, ⟨sb4.1.at fun o e => up _ o e, sb4.2.push _⟩, ⟨sc4.1.at fun o e => up _ o e, sc4.2.push _⟩⟩ nw zw
      fun c o c0 _ c1 c2 c3 e => up c o (kk c o c0 c1 c2 c3 e)
  | true =>
    simp only [if_true]
    refine wpAny_bind (wpAny_rule ?_)
    refine wpAny_bind (wpAny_field (s := ⟨h1, gg, dd, tk, os⟩) hz1 rfl (x := .ref to) rfl ?_)
    refine wpAny_bind (wpAny_setField_rec (s := ⟨h1, gg, dd, tk, os⟩) hz1 (by simp) fun g0 z0 s0 => ?_)
    replace z0 : Zat g0 z ti to .ellipsis (.bool f1) := z0
    replace s0 : Heap.SameBut z h1 g0 := s0
    have ta0 := keepIt sa1 s0 D.z1 D.l1n.1
    have tb0 := keepIt sb1 s0 D.z2 D.l2n.1
    have tc0 := keepIt sc1 s0 D.z3 D.l3n.1
    have o0 : IsTupOf3 g0 to a1 a2 a3 := s0.extBut _ _ D.toz hO1
    refine wpAny_bind ?_
    simp only [List.zipIdx_cons, List.zipIdx_nil, List.forIn_cons, List.forIn_nil]
    refine wpAny_bind (wpAny_bind (wpAny_onRaise ?_))
    show wpAny _ _ (Builtin.SmallTypes.nextOf (.ref i1) >>= _) _ _ ⟨g0, gg, dd, tk, os⟩
    refine wpAny_bind (drawT (s := ⟨g0, gg, dd, tk, os⟩) ta0 D.l1n.2.2.1 hx fun p1 ta1 s1 => wpAny_pure ?_)
    replace s1 : Heap.SameBut i1 g0 p1 := s1
    have o1 : IsTupOf3 p1 to a1 a2 a3 := s1.extBut _ _ D.to1 o0
    refine wpAny_bind (wpAny_seqItems (s := ⟨p1, gg, dd, tk, os⟩) o1 rfl ?_)
    refine wpAny_bind (updateSeq_IsTupOf3 (s := ⟨p1, gg, dd, tk, os⟩) o1 fun q1 u1 r1 => wpAny_bind (wpAny_letGo (wpAny_pure ?_)))
    replace u1 : IsTupOf3 q1 to x1 a2 a3 := u1
    replace r1 : Heap.SameBut to p1 q1 := r1
    have ta2 := keepIt ta1 r1 D.to1.symm D.l1n.2.1
    have tb2 := keepIt (keepIt tb0 s1 D.n12.symm D.l2n.2.2.1) r1 D.to2.symm D.l2n.2.1
    have tc2 := keepIt (keepIt tc0 s1 D.n13.symm D.l3n.2.2.1) r1 D.to3.symm D.l3n.2.1
    refine wpAny_bind (wpAny_bind (wpAny_onRaise ?_))
    show wpAny _ _ (Builtin.SmallTypes.nextOf (.ref i2) >>= _) _ _ ⟨q1, gg, dd, tk, os⟩
    refine wpAny_bind (drawT (s := ⟨q1, gg, dd, tk, os⟩) tb2 D.l2n.2.2.2.1 hy fun p2 tb3 s2 => wpAny_pure ?_)
    replace s2 : Heap.SameBut i2 q1 p2 := s2
    have o2 : IsTupOf3 p2 to x1 a2 a3 := s2.extBut _ _ D.to2 u1
    refine wpAny_bind (wpAny_seqItems (s := ⟨p2, gg, dd, tk, os⟩) o2 rfl ?_)
    refine wpAny_bind (updateSeq_IsTupOf3 (s := ⟨p2, gg, dd, tk, os⟩) o2 fun q2 u2 r2 => wpAny_bind (wpAny_letGo (wpAny_pure ?_)))
    replace u2 : IsTupOf3 q2 to x1 x2 a3 := u2
    replace r2 : Heap.SameBut to p2 q2 := r2
    have ta4 := keepIt (keepIt ta2 s2 D.n12 D.l1n.2.2.2.1) r2 D.to1.symm D.l1n.2.1
    have tb4 := keepIt tb3 r2 D.to2.symm D.l2n.2.1
    have tc4 := keepIt (keepIt tc2 s2 D.n23.symm D.l3n.2.2.2.1) r2 D.to3.symm D.l3n.2.1
    refine wpAny_bind (wpAny_bind (wpAny_onRaise ?_))
    show wpAny _ _ (Builtin.SmallTypes.nextOf (.ref i3) >>= _) _ _ ⟨q2, gg, dd, tk, os⟩
    refine wpAny_bind (drawT (s := ⟨q2, gg, dd, tk, os⟩) tc4 D.l3n.2.2.2.2 hw fun p3 tc5 s3 => wpAny_pure ?_)
    replace s3 : Heap.SameBut i3 q2 p3 := s3
    have o3 : IsTupOf3 p3 to x1 x2 a3 := s3.extBut _ _ D.to3 u2
    refine wpAny_bind (wpAny_seqItems (s := ⟨p3, gg, dd, tk, os⟩) o3 rfl ?_)
    refine wpAny_bind (updateSeq_IsTupOf3 (s := ⟨p3, gg, dd, tk, os⟩) o3 fun q3 u3 r3 => wpAny_bind (wpAny_letGo (wpAny_pure (wpAny_pure ?_))))
    replace u3 : IsTupOf3 q3 to x1 x2 x3 := u3
    replace r3 : Heap.SameBut to p3 q3 := r3
    have ta6 := keepIt (keepIt ta4 s3 D.n13 D.l1n.2.2.2.2) r3 D.to1.symm D.l1n.2.1
    have tb6 := keepIt (keepIt tb4 s3 D.n23 D.l2n.2.2.2.2) r3 D.to2.symm D.l2n.2.1
    have tc6 := keepIt tc5 r3 D.to3.symm D.l3n.2.1
    refine wpAny_bind (wpAny_seqItems (s := ⟨q3, gg, dd, tk, os⟩) u3 rfl (wpAny_bind (wpAny_newTuple ?_)))
    have sz : q3.objs.size = hp.objs.size := by rw [r3.1, s3.1, r2.1, s2.1, r1.1, s1.1, s0.1, hs1.1]
    have hz3 : Zat q3 z ti to .ellipsis (.bool f1) := r3.extBut _ _ D.toz.symm (s3.extBut _ _ D.z3.symm (r2.extBut _ _ D.toz.symm (s2.extBut _ _ D.z2.symm (r1.extBut _ _ D.toz.symm (s1.extBut _ _ D.z1.symm z0)))))
    have kk : ∀ c o, c ≠ z → c ≠ to → c ≠ i1 → c ≠ i2 → c ≠ i3 → hp.get? c = some o → q3.get? c = some o := fun c o c0 ct c1 c2 c3 e =>
      r3.extBut _ _ ct (s3.extBut _ _ c3 (r2.extBut _ _ ct (s2.extBut _ _ c2 (r1.extBut _ _ ct (s1.extBut _ _ c1 (s0.extBut _ _ c0 (hs1.extBut _ _ c0 e)))))))
    have zlt : z < q3.objs.size := Heap.lt_size hz3
    show wpAny _ _ (Builtin.SmallTypes.ownedTupleHandOut (.ref z) (.ref q3.objs.size) >>= _) _ _ ⟨q3.push { cls := .type "tuple", data := .seq #[x1, x2, x3] }, gg, dd, tk, os⟩
    refine wpAny_bind ?_
    unfold Builtin.SmallTypes.ownedTupleHandOut
    have z5 : Zat (q3.push { cls := .type "tuple", data := .seq #[x1, x2, x3] }) z ti to .ellipsis (.bool f1) := Heap.get?_push_of_some _ hz3
    refine wpAny_bind (wpAny_setField_rec z5 (by simp) fun h7 z7 s7 => ?_)
    replace z7 : Zat h7 z ti to (rawInt q3.objs.size) (.bool f1) := z7
    replace s7 : Heap.SameBut z (q3.push { cls := .type "tuple", data := .seq #[x1, x2, x3] }) h7 := s7
    refine wpAny_setField_rec z7 (by simp) fun h8 z8 s8 => ?_
    replace z8 : Zat h8 z ti to (rawInt q3.objs.size) (.bool false) := z8
    replace s8 : Heap.SameBut z h7 h8 := s8
    have up : ∀ c o, c ≠ z → q3.get? c = some o → h8.get? c = some o := fun c o c1 e => s8.extBut _ _ c1 (s7.extBut _ _ c1 (Heap.get?_push_of_some _ e))
    have nw : IsTupOf3 h8 q3.objs.size x1 x2 x3 := s8.extBut _ _ (Nat.ne_of_gt zlt) (s7.extBut _ _ (Nat.ne_of_gt zlt) (Heap.get?_push_size _ rfl))
    have zw : h8.objs.size = q3.objs.size + 1 := by rw [s8.1, s7.1, Heap.size_push]
    have fin : ∀ {it l : Addr} {k : Nat} {vs : Array Value}, (q3.IsTupleIter it l k ∧ q3.IsTuple l vs) → it ≠ z → l ≠ z → h8.IsTupleIter it l k ∧ h8.IsTuple l vs := fun {it l k vs} st n1 n2 =>
      keepIt (keepIt ⟨st.1.at fun o e => Heap.get?_push_of_some _ e, st.2.push _⟩ s7 n1 n2) s8 n1 n2
    refine wpAny_pure ⟨_, rfl, ?_⟩
    show Q (.ref q3.objs.size) _
    rw [sz] at nw zw z8 ⊢
    exact hQ h8 _ false x1 x2 x3 (.inr ⟨_, rfl⟩) z8 (up _ _ D.toz u3) ⟨fin ta6 D.z1 D.l1n.1, fin tb6 D.z2 D.l2n.1, fin tc6 D.z3 D.l3n.1⟩ nw zw
      fun c o c0 ct c1 c2 c3 e => up c o c0 (kk c o c0 ct c1 c2 c3 e)

theorem end3 {Q : Fin → Shared → Prop} (hh : A.handled = none) (D : Far3 z ti to i1 i2 i3 l1 l2 l3) (ho : Out a) (hz : Zat s.heap z ti to a (.bool f))
    (hI : IsTupOf3 s.heap ti (.ref i1) (.ref i2) (.ref i3)) (st : s.heap.IsTupleIter i1 l1 i ∧ s.heap.IsTuple l1 xs) (hx : xs[i]? = none)
    (hE : ∀ h' e, (∀ c o, c ≠ z → c ≠ to → c ≠ i1 → c ≠ i2 → c ≠ i3 → s.heap.get? c = some o → h'.get? c = some o) → (∃ o, h'.get? e = some o ∧ o.cls = .type "StopIteration") → E (.ref e) { s with heap := h' }) :
    wpAny (model prog w) A (Builtin.«zip.__next__» ⟨[.ref z], []⟩) Q E s := by
  obtain ⟨hp, gg, dd, tk, os⟩ := s
  show wpAny _ _ (field (.ref z) 2 >>= _) _ _ _
  refine wpAny_bind (wpAny_field hz rfl (x := .bool false) rfl ?_)
  show wpAny _ _ (field (.ref z) 3 >>= _) _ _ _
  refine wpAny_bind (wpAny_field hz rfl (x := .ref ti) rfl ?_)
  refine wpAny_bind (wpAny_seqItems hI rfl ?_)
  show wpAny _ _ (Builtin.SmallTypes.ownedTupleIsFree (.ref z) >>= _) _ _ _
  refine wpAny_bind (freeOr ho hz fun b h1 f1 hz1 hs1 => ?_)
  replace hs1 : Heap.SameBut z hp h1 := hs1
  have sa1 := keepIt st hs1 D.z1 D.l1n.1
  cases b with
  | false =>
    simp only [Bool.false_eq_true, if_false]
    refine wpAny_bind ?_
    rw [← Array.forIn_toList]
    simp only [List.forIn_cons, List.forIn_nil]
    refine wpAny_bind (wpAny_bind (wpAny_holding ?_))
    show wpAny _ _ (Builtin.SmallTypes.nextOf (.ref i1) >>= _) _ _ ⟨h1, gg, dd, tk, os⟩
    refine wpAny_bind (RZ.nextOf_tuple_end (s := ⟨h1, gg, dd, tk, os⟩) hh sa1.1 sa1.2 hx fun h2 e hs2 he => ?_)
    exact hE h2 e (fun c o c0 _ c1 _ _ q => hs2 _ _ c1 (hs1.extBut _ _ c0 q)) he
  | true =>
    simp only [if_true]
    refine wpAny_bind (wpAny_rule ?_)
    refine wpAny_bind (wpAny_field (s := ⟨h1, gg, dd, tk, os⟩) hz1 rfl (x := .ref to) rfl ?_)
    refine wpAny_bind (wpAny_setField_rec (s := ⟨h1, gg, dd, tk, os⟩) hz1 (by simp) fun g0 z0 s0 => ?_)
    replace z0 : Zat g0 z ti to .ellipsis (.bool f1) := z0
    replace s0 : Heap.SameBut z h1 g0 := s0
    have ta0 := keepIt sa1 s0 D.z1 D.l1n.1
    refine wpAny_bind ?_
    simp only [List.zipIdx_cons, List.zipIdx_nil, List.forIn_cons, List.forIn_nil]
    refine wpAny_bind (wpAny_bind (wpAny_onRaise ?_))
    show wpAny _ _ (Builtin.SmallTypes.nextOf (.ref i1) >>= _) _ _ ⟨g0, gg, dd, tk, os⟩
    refine wpAny_bind (RZ.nextOf_tuple_end (s := ⟨g0, gg, dd, tk, os⟩) hh ta0.1 ta0.2 hx fun h2 e hs2 he => ?_)
    obtain ⟨oe, hoe, hce⟩ := he
    replace hs2 : Heap.ExtBut i1 g0 h2 := hs2
    replace hoe : h2.get? e = some oe := hoe
    have z2 : Zat h2 z ti to .ellipsis (.bool f1) := hs2 _ _ D.z1.symm z0
    have ne : e ≠ z := fun q => by subst q; rw [z2] at hoe; cases hoe; simp at hce
    refine wpAny_setField_rec (s := ⟨h2, gg, dd, tk, os⟩) z2 (by simp) fun h3 _ s3 => ?_
    replace s3 : Heap.SameBut z h2 h3 := s3
    exact hE h3 e (fun c o c0 _ c1 _ _ q => s3.extBut _ _ c0 (hs2 _ _ c1 (s0.extBut _ _ c0 (hs1.extBut _ _ c0 q)))) ⟨oe, s3.extBut _ _ ne hoe, hce⟩
end
end NB

set_option Elab.async false
set_option linter.all false
set_option maxRecDepth 100000
set_option maxHeartbeats 1000000
namespace NB
open PySem PySem.Spec PyProof.Rows L2

section
variable {prog : Program} {w : World} {A : Around} {E : Value → Shared → Prop} {s : Shared} {z ti to i1 i2 i3 l1 l2 l3 : Addr} {a a1 a2 a3 : Value} {f : Bool} {xs ys zs : Array Value} {i : Nat}

theorem pyNext3 {x1 x2 x3 : Value} {Q : Option Value → Shared → Prop} (D : Far3 z ti to i1 i2 i3 l1 l2 l3) (ho : Out a) (hz : Zat s.heap z ti to a (.bool f))
    (hI : IsTupOf3 s.heap ti (.ref i1) (.ref i2) (.ref i3)) (hO : IsTupOf3 s.heap to a1 a2 a3) (st : St3 s.heap i1 i2 i3 l1 l2 l3 xs ys zs i)
    (hx : xs[i]? = some x1) (hy : ys[i]? = some x2) (hw : zs[i]? = some x3)
    (hQ : ∀ (h' : Heap) (a' : Value) (g : Bool) (b1 b2 b3 : Value), Out a' → Zat h' z ti to a' (.bool g) → IsTupOf3 h' to b1 b2 b3 → St3 h' i1 i2 i3 l1 l2 l3 xs ys zs (i + 1) → IsTupOf3 h' s.heap.objs.size x1 x2 x3 → h'.objs.size = s.heap.objs.size + 1 →
      (∀ c o, c ≠ z → c ≠ to → c ≠ i1 → c ≠ i2 → c ≠ i3 → s.heap.get? c = some o → h'.get? c = some o) → Q (some (.ref s.heap.objs.size)) { s with heap := h' }) :
    wpAny (model prog w) A (pyNext (.ref z)) Q E s := by
  have ty : s.TypeIs (.ref z) "zip" := ⟨_, hz, rfl⟩
  unfold pyNext
  refine wpAny_bind (wpAny_attempt (wpAny_callSpecial?_slot (name := Str.ofString "__next__") ty F.slot_zip_next ?_))
  refine wpAny_call_entry F.slot_zip_next ty F.entry_zip_next ?_ (F.args_zip_next_1 _)
  exact next3 D ho hz hI hO st hx hy hw fun h' a' g b1 b2 b3 c1 c2 c3 c4 c5 c6 c7 => wpAny_pure (hQ h' a' g b1 b2 b3 c1 c2 c3 c4 c5 c6 c7)

theorem pyEnd3 {Q : Option Value → Shared → Prop} (hh : A.handled = none) (D : Far3 z ti to i1 i2 i3 l1 l2 l3) (ho : Out a) (hz : Zat s.heap z ti to a (.bool f))
    (hI : IsTupOf3 s.heap ti (.ref i1) (.ref i2) (.ref i3)) (st : s.heap.IsTupleIter i1 l1 i ∧ s.heap.IsTuple l1 xs) (hx : xs[i]? = none)
    (hQ : ∀ h', (∀ c o, c ≠ z → c ≠ to → c ≠ i1 → c ≠ i2 → c ≠ i3 → s.heap.get? c = some o → h'.get? c = some o) → Q none { s with heap := h' }) :
    wpAny (model prog w) A (pyNext (.ref z)) Q E s := by
  have ty : s.TypeIs (.ref z) "zip" := ⟨_, hz, rfl⟩
  unfold pyNext
  refine wpAny_bind (wpAny_attempt (wpAny_callSpecial?_slot (name := Str.ofString "__next__") ty F.slot_zip_next ?_))
  refine wpAny_call_entry F.slot_zip_next ty F.entry_zip_next (end3 hh D ho hz hI st hx fun h' e hk he => ?_) (F.args_zip_next_1 _)
  obtain ⟨o, h1, h2⟩ := he
  exact wpAny_bind (wpAny_isInstance (T := "StopIteration") (b := true) ⟨o, h1, h2⟩ isSubtype_stop (wpAny_pure (hQ _ hk)))

/-- ahead of the target's store: a target of several names lets the tuple go -/
theorem letGo3 {tg : Expr} {T : Addr} {Q : Unit → Shared → Prop} (ho : Out a) (hz : Zat s.heap z ti to a (.bool f))
    (h : ∀ (h' : Heap) (a' : Value), Out a' → Zat h' z ti to a' (.bool f) → Heap.SameBut z s.heap h' → Q () { s with heap := h' }) :
    wpAny (model prog w) A (letOwnedTupleGo tg (.ref z) (.ref T)) Q E s := by
  have same : Q () s := h s.heap a ho hz (Heap.SameBut.refl _ _)
  have main : wpAny (model prog w) A (do
      let o ← load z
      match o.cls, o.data with
      | .type n, .fields vs =>
        if ["enumerate", "zip", "dict_itemiterator", "dict_reverseitemiterator", "odict_iterator", "itertools.zip_longest", "itertools.pairwise"].contains n && vs[0]? == some (rawInt T) then
          rule "for.unpacks-the-owned-tuple"
          updateField z 0 .none
      | _, _ => pure ()) Q E s := by
    refine wpAny_bind (wpAny_load hz ?_)
    dsimp only
    split
    · refine wpAny_bind (wpAny_rule ?_)
      show wpAny _ _ (setField (.ref z) 0 .none) Q E s
      exact wpAny_setField_rec hz (by simp) fun h' z' s' => h h' .none (.inl rfl) z' s'
    · exact wpAny_pure same
  unfold letOwnedTupleGo
  cases tg <;> first
    | exact wpAny_pure same
    | exact main

theorem iter3 {Q : Value → Shared → Prop} (hz : Zat s.heap z ti to a (.bool f)) (h : Q (.ref z) s) : wpAny (model prog w) A (pyIter (.ref z)) Q E s := by
  have ty : s.TypeIs (.ref z) "zip" := ⟨_, hz, rfl⟩
  refine wpAny_pyIter_slot ty F.slot_zip_iter (wpAny_call_entry F.slot_zip_iter ty F.entry_zip_iter ?_ (F.args_zip_iter_1 _))
  show wpAny _ _ (ret (.ref z)) _ _ s
  exact wpAny_pure ⟨_, rfl, "zip", _, ty, F.slot_zip_next.lookup, h⟩
end

/-- three tuples of one length, turn by turn: a new tuple of the three items -/
def It3 (K : PySem.W.Frag) (a b c : Addr) : It :=
  ⟨fun i H => ∃ (xs ys zs : List V) (x y z : V), SqT K H a xs ∧ SqT K H b ys ∧ SqT K H c zs ∧ xs[i]? = some x ∧ ys[i]? = some y ∧ zs[i]? = some z,
    fun i H v H' => ∃ T x y z, v = .ref T ∧ H T = none ∧ H' = upd H T (.tup [x, y, z]) ∧ (∀ xs, SqT K H a xs → xs[i]? = some x) ∧ (∀ ys, SqT K H b ys → ys[i]? = some y) ∧ ∀ zs, SqT K H c zs → zs[i]? = some z,
    fun i H => ∃ xs : List V, SqT K H a xs ∧ xs.length ≤ i⟩

theorem turn3 {P : Program} {w : World} {K : PySem.W.Frag} {tg : Expr} {a b c z ti to i1 i2 i3 : Addr} (D : Far3 z ti to i1 i2 i3 a b c) :
    Turn P w K tg (It3 K a b c) [z, ti, to, i1, i2, i3] z (fun i h => (∃ v f, Out v ∧ Zat h z ti to v (.bool f)) ∧ IsTupOf3 h ti (.ref i1) (.ref i2) (.ref i3) ∧ (∃ b1 b2 b3, IsTupOf3 h to b1 b2 b3) ∧
      h.IsTupleIter i1 a i ∧ h.IsTupleIter i2 b i ∧ h.IsTupleIter i3 c i) where
  mem := by simp
  obj := fun i h st q hq => by
    obtain ⟨⟨v, f, _, hz⟩, hI, ⟨b1, b2, b3, hO⟩, ⟨o1, e1, _, d1⟩, ⟨o2, e2, _, d2⟩, ⟨o3, e3, _, d3⟩⟩ := st
    have e' : q = z ∨ q = ti ∨ q = to ∨ q = i1 ∨ q = i2 ∨ q = i3 := by simpa using hq
    rcases e' with r | r | r | r | r | r
    · rw [r]; exact ⟨_, hz, fun v q => nomatch q⟩
    · rw [r]; exact ⟨_, hI, fun v q => nomatch q⟩
    · rw [r]; exact ⟨_, hO, fun v q => nomatch q⟩
    · rw [r]; exact ⟨o1, e1, fun v q => by rw [d1] at q; cases q⟩
    · rw [r]; exact ⟨o2, e2, fun v q => by rw [d2] at q; cases q⟩
    · rw [r]; exact ⟨o3, e3, fun v q => by rw [d3] at q; cases q⟩
  keep := fun i h h' st k => by
    obtain ⟨⟨v, f, ho, hz⟩, hI, ⟨b1, b2, b3, hO⟩, h1, h2, h3⟩ := st
    exact ⟨⟨v, f, ho, k z (by simp) _ hz⟩, k ti (by simp) _ hI, ⟨b1, b2, b3, k to (by simp) _ hO⟩, h1.at fun o q => k i1 (by simp) o q, h2.at fun o q => k i2 (by simp) o q, h3.at fun o q => k i3 (by simp) o q⟩
  item := by
    intro X hP hw hK hc i pins s σ H E I hf st hg
    subst hP hw hK
    obtain ⟨⟨v, f, ho, hz⟩, hI, ⟨b1, b2, b3, hO⟩, h1, h2, h3⟩ := st
    obtain ⟨xs, ys, zs, x, y, u, qx, qy, qu, hx, hy, hu⟩ := hg
    obtain ⟨t1, r1, p1, _⟩ := I.tuple qx
    obtain ⟨t2, r2, p2, _⟩ := I.tuple qy
    obtain ⟨t3, r3, p3, _⟩ := I.tuple qu
    obtain ⟨v1, g1, rv1⟩ := r1.get hx
    obtain ⟨v2, g2, rv2⟩ := r2.get hy
    obtain ⟨v3, g3, rv3⟩ := r3.get hu
    have zl : z < s.heap.objs.size := Heap.lt_size hz
    refine pyNext3 D ho hz hI hO ⟨⟨h1, p1⟩, ⟨h2, p2⟩, ⟨h3, p3⟩⟩ (x1 := v1) (x2 := v2) (x3 := v3) (by simpa using g1) (by simpa using g2) (by simpa using g3) fun h' v' f' c1 c2 c3 ho' hz' hO' st' hT hsz hk => ?_
    refine ⟨_, rfl, letGo3 (s := { s with heap := h' }) ho' hz' fun h'' v'' ho'' hz'' sb => ?_⟩
    have hT2 : h''.get? s.heap.objs.size = some { cls := .type "tuple", data := .seq #[v1, v2, v3] } := (sb.2 _ (Nat.ne_of_gt zl)).trans hT
    have new : ObjOk X.prog X.w (upd H s.heap.objs.size (.tup [x, y, u])) h'' s.heap.objs.size (.tup [x, y, u]) :=
      ⟨by show 3 ≤ sizeLine; decide, [v1, v2, v3], .cons rv1 (.cons rv2 (.cons rv3 .nil)), ⟨_, hT2, rfl, _, rfl⟩⟩
    have I1 : Inv X pins σ (upd H s.heap.objs.size (.tup [x, y, u])) { s with heap := h'' } :=
      I.turnedNew (t' := s.toks) (ch := [z, ti, to, i1, i2, i3]) (fun q o hb e => (sb.2 q (fun q' => hb (by simp [q']))).trans
        (hk q o (fun q' => hb (by simp [q'])) (fun q' => hb (by simp [q'])) (fun q' => hb (by simp [q'])) (fun q' => hb (by simp [q'])) (fun q' => hb (by simp [q'])) e)) hf (Nat.le_refl _) new
    refine ⟨.ref s.heap.objs.size, _, I1, rfl, ⟨_, x, y, u, rfl, I.hok.fresh (Nat.le_refl _), rfl, fun l hl => by rw [I.tuple_inj hl qx]; exact hx, fun l hl => by rw [I.tuple_inj hl qy]; exact hy, fun l hl => by rw [I.tuple_inj hl qu]; exact hu⟩,
      ⟨⟨v'', f', ho'', hz''⟩, ?_, ⟨c1, c2, c3, (sb.2 _ D.toz).trans hO'⟩, st'.1.1.at fun o q => (sb.2 _ D.z1).trans q, st'.2.1.1.at fun o q => (sb.2 _ D.z2).trans q, st'.2.2.1.at fun o q => (sb.2 _ D.z3).trans q⟩, fun q hq => ?_⟩
    · exact (sb.2 _ D.tiz).trans (hk _ _ D.tiz D.tito D.ti1 D.ti2 D.ti3 hI)
    · have lt : q < s.heap.objs.size := by
        have e' : q = z ∨ q = ti ∨ q = to ∨ q = i1 ∨ q = i2 ∨ q = i3 := by simpa using hq
        rcases e' with r | r | r | r | r | r
        · rw [r]; exact zl
        · rw [r]; exact Heap.lt_size hI
        · rw [r]; exact Heap.lt_size hO
        · rw [r]; obtain ⟨_, e1, _⟩ := h1; exact Heap.lt_size e1
        · rw [r]; obtain ⟨_, e1, _⟩ := h2; exact Heap.lt_size e1
        · rw [r]; obtain ⟨_, e1, _⟩ := h3; exact Heap.lt_size e1
      rw [upd_ne (Nat.ne_of_lt lt)]
      exact (hf q hq).1
  done := by
    intro X hP hw hK hc i pins s σ H E I hf st hg
    subst hP hw hK
    obtain ⟨⟨v, f, ho, hz⟩, hI, ⟨b1, b2, b3, hO⟩, h1, h2, h3⟩ := st
    obtain ⟨xs, qx, hlen⟩ := hg
    obtain ⟨t1, r1, p1, _⟩ := I.tuple qx
    have le := r1.length
    refine pyEnd3 (I.ok.hd hc) D ho hz hI ⟨h1, p1⟩ (by simp; omega) fun h' hk => ⟨rfl, I.turnedL (t' := s.toks) (ch := [z, ti, to, i1, i2, i3]) (fun q o hb e => ?_) hf⟩
    exact hk q o (fun q' => hb (by simp [q'])) (fun q' => hb (by simp [q'])) (fun q' => hb (by simp [q'])) (fun q' => hb (by simp [q'])) (fun q' => hb (by simp [q'])) e
  self := fun A i s Q E st h => by
    obtain ⟨⟨v, f, _, hz⟩, _⟩ := st
    exact iter3 hz h

theorem far_at (n a b c : Nat) (ha : a < n) (hb : b < n) (hc : c < n) : Far3 (n + 5) (n + 3) (n + 4) n (n + 1) (n + 2) a b c := by
  constructor <;> first | (show (_ : Nat) ≠ _; omega) | (refine ⟨?_, ?_, ?_, ?_, ?_⟩ <;> (show (_ : Nat) ≠ _; omega))

def iZip3 (K : PySem.W.Frag) (ta : TA) : TI := fun σ H R => ta σ H fun vs H1 => ∃ a b c xs ys zs, vs = [.ref a, .ref b, .ref c] ∧ SqT K H1 a xs ∧ SqT K H1 b ys ∧ SqT K H1 c zs ∧ R (It3 K a b c) H1
/-- zip(e, e2, e3), tuples of one length; any target -/
theorem pi_zip3 {X : Cx} {tg e e2 e3 : Expr} {ta : TA} {p pos : Pos} (hg : Gl X "zip") (hm : X.mg "zip" = none) (ha : PA X [e, e2, e3] ta)
    (hs : starEach [e, e2, e3] X.env = (false, eval e X.env) :: starEach [e2, e3] X.env := by rfl) (hpl : (backTo pos (starEach [e2, e3] X.env)).any (·.1) = false := by rfl) :
    PI X tg (.Call (.Name "zip" p) [e, e2, e3] [] pos) (iZip3 X.K ta) := by
  refine ⟨fun pins s σ H R I h => ?_⟩
  refine Call_ (ld_blt I hg hm PyProof.Rows.boot_zip (PyProof.Rows.callWith_type1 (thn (ha.run pos pins s σ H _ I h) fun us s1 q => ?_) hs hpl))
  obtain ⟨vs, H1, I1, r1, a, b, c, xs, ys, zs, ex, q1, q2, q3, q⟩ := q
  subst ex
  cases r1 with
  | cons ra rr =>
    cases rr with
    | cons rb rr =>
      cases rr with
      | cons rc rr =>
        cases rr
        cases ra
        cases rb
        cases rc
        obtain ⟨t1, r1, p1, _⟩ := I1.tuple q1
        obtain ⟨t2, r2, p2, _⟩ := I1.tuple q2
        obtain ⟨t3, r3, p3, _⟩ := I1.tuple q3
        obtain ⟨o1, g1, _⟩ := id p1
        obtain ⟨o2, g2, _⟩ := id p2
        obtain ⟨o3, g3, _⟩ := id p3
        refine zip_begins3 (begins_tuple a t1.toArray) (begins_tuple b t2.toArray) (begins_tuple c t3.toArray) p1 p2 p3 fun h' hz hI hO e1 e2 e3 hsz hk => iter3 hz ?_
        have I2 : Inv X pins σ H1 { s1 with heap := h' } := I1.kept (t' := s1.toks) hk
        refine ⟨s1.heap.objs.size + 5, [s1.heap.objs.size + 5, s1.heap.objs.size + 3, s1.heap.objs.size + 4, s1.heap.objs.size, s1.heap.objs.size + 1, s1.heap.objs.size + 2], _, _, H1, rfl, I2, turn3 (far_at s1.heap.objs.size a b c (Heap.lt_size g1) (Heap.lt_size g2) (Heap.lt_size g3)),
          ⟨⟨.none, false, .inl rfl, hz⟩, hI, ⟨_, _, _, hO⟩, ⟨_, e1, rfl, rfl⟩, ⟨_, e2, rfl, rfl⟩, ⟨_, e3, rfl, rfl⟩⟩, fun q hq => ?_, q⟩
        have le : s1.heap.objs.size ≤ q := by
          have e' : q = s1.heap.objs.size + 5 ∨ q = s1.heap.objs.size + 3 ∨ q = s1.heap.objs.size + 4 ∨ q = s1.heap.objs.size ∨ q = s1.heap.objs.size + 1 ∨ q = s1.heap.objs.size + 2 := by simpa using hq
          rcases e' with r | r | r | r | r | r <;> rw [r] <;> first | exact Nat.le_add_right _ _ | exact Nat.le_refl _
        exact I1.fpOk le (I1.hok.fresh le)

/-- a new triple of the i-th ones -/
def Y3 (xs ys zs : List V) : Nat → Hp → V → Hp → Prop := fun i H v H' => ∃ T x y z, v = .ref T ∧ H T = none ∧ H' = upd H T (.tup [x, y, z]) ∧ xs[i]? = some x ∧ ys[i]? = some y ∧ zs[i]? = some z
theorem walk_zip3 {K : PySem.W.Frag} {a b c : Addr} {xs ys zs : List V} (h2 : ys.length = xs.length) (h3 : zs.length = xs.length) :
    Walk (It3 K a b c) xs.length (fun H => SqT K H a xs ∧ SqT K H b ys ∧ SqT K H c zs) (Y3 xs ys zs) := by
  refine ⟨fun i _ hi q => ?_, fun _ q => ⟨xs, q.1, Nat.le_refl _⟩, fun i H v H' _ q y => ?_⟩
  · exact ⟨xs, ys, zs, xs[i], ys[i]'(by omega), zs[i]'(by omega), q.1, q.2.1, q.2.2, by simp [hi], by simp [show i < ys.length by omega], by simp [show i < zs.length by omega]⟩
  · obtain ⟨T, x, y, z, e1, e2, e3, f1, f2, f3⟩ := y
    exact ⟨T, x, y, z, e1, e2, e3, f1 xs q.1, f2 ys q.2.1, f3 zs q.2.2⟩
theorem walk_zipT {K : PySem.W.Frag} {a b : Addr} {xs ys : List V} (h2 : ys.length = xs.length) :
    Walk (RZ.ItzT K a b) xs.length (fun H => SqT K H a xs ∧ SqT K H b ys) (YPair (fun i => xs[i]?) (fun i => ys[i]?)) := by
  refine ⟨fun i _ hi q => ?_, fun _ q => ⟨xs, ys, q.1, q.2, by omega⟩, fun i H v H' _ q y => ?_⟩
  · exact ⟨xs, ys, xs[i], ys[i]'(by omega), q.1, q.2, by simp [hi], by simp [show i < ys.length by omega]⟩
  · obtain ⟨T, x, u, e1, e2, e3, f1, f2⟩ := y
    exact ⟨T, x, u, e1, e2, e3, f1 xs q.1, f2 ys q.2⟩
end NB

set_option Elab.async false
set_option linter.all false
set_option maxRecDepth 100000
set_option maxHeartbeats 1000000
namespace NB
open PySem PySem.Spec PyProof.Rows L2

/-- the law's own call, its def kept to its promise where nothing is being shown -/
theorem law_end {P : Program} {w : World} {K : PySem.W.Frag} {mg mb : Str → Option Value} {k : Nat} {fa a : Addr} {fd : FuncData} {x : Str} {sp : Sp} {s : Shared} {vs : List Value} {ns : List Int}
    (hK : K.In s.heap) (hN : s.heap.Ns mainGlobals mg) (hB : s.heap.Ns builtinsNs mb) (hbb : ∀ x : Str, x ≠ "__name__" → mb x = bootBuiltins x) (lim : s.heap.NoLimit) (hg : s.gens = #[])
    (ha : s.heap.get? a = some { cls := .type "list", data := .seq vs.toArray }) (hi : IntsAre vs ns) (hl : ns.length ≤ sizeLine) (hr : Room k callerA)
    (F : ∀ base : Heap, K.In base → base.Ns mainGlobals mg → FnG P w K mg base k fa fd [x] sp) (hb : ∀ (s : Shared) (u : Value), BindsTo s fd ⟨[u], []⟩ [(x, u)])
    (hsp : ∀ H : Hp, SqL K H a (ns.map V.int) → sp [.ref a] H (fun v _ => v = .bl true) E0) :
    codeAny (model P w) callerA (.call (.ref fa) ⟨[.ref a], []⟩) (fun r s' => r = .ok (.ret (.bool true)) ∧ OldK s.heap s'.heap ∧ s'.os = s.os ∧ AllBare s'.gens) s := by
  have rv := vals_ints hi
  have lv := hi.length
  -- H: the script alone is tracked, or nothing
  suffices go : ∀ H : Hp, (∀ b, H b ≠ none → b = a ∧ K.lookup a = none ∧ ∃ o xs, H b = some (.frz o (.lst xs))) → SqL K H a (ns.map V.int) → HOk P w H s.heap →
      codeAny (model P w) callerA (.call (.ref fa) ⟨[.ref a], []⟩) (fun r s' => r = .ok (.ret (.bool true)) ∧ OldK s.heap s'.heap ∧ s'.os = s.os ∧ AllBare s'.gens) s by
    cases hk : K.lookup a with
    | some o =>
      have e := hK a o hk
      rw [ha] at e
      cases e
      refine go (fun _ => none) (fun b q => absurd rfl q) (.inr ⟨_, vs.toArray, _, hk, rfl, rfl, rfl, ?_, by simpa using rv⟩) (fun b u q => by cases (show (none : Option HO) = some u from q))
      rw [List.size_toArray, lv]
      exact hl
    | none =>
      refine go (fun b => if b = a then some (.frz { cls := .type "list", data := .seq vs.toArray } (.lst (ns.map V.int))) else none) (fun b q => ?_) (.inl (.inr ⟨_, if_pos rfl⟩)) (fun b u q => ?_)
      · by_cases h : b = a
        · exact ⟨h, hk, _, _, if_pos h⟩
        · exact absurd (if_neg h) q
      · by_cases h : b = a
        · have q' := (if_pos h).symm.trans q
          cases q'
          subst h
          exact ⟨ha, by rw [List.length_map]; exact hl, vs, _, rv, ha⟩
        · have q' := (if_neg h).symm.trans q
          cases q'
  intro H hO hS ok
  have dictFree : ∀ {b : Addr} {o : Obj} {es : Array DictEntry} {ep : Nat}, s.heap.get? b = some o → o.data = .dict es ep → H b = none := by
    intro b o es ep e d
    cases q : H b with
    | none => rfl
    | some u =>
      obtain ⟨e', _⟩ := hO b (by rw [q]; simp)
      subst e'
      rw [ha] at e
      cases e
      cases (show Data.seq vs.toArray _ = Data.dict es ep from d)
  have ns' : ∀ {b : Addr} {m : Str → Option Value}, s.heap.Ns b m → (hidT s.heap H).Ns b m := by
    rintro b m ⟨o, es, ep, e, d, r⟩
    exact ⟨o, es, ep, hidT_get e (dictFree e d), d, r⟩
  have kB : K.In (hidT s.heap H) := by
    intro b o e
    refine hidT_get (hK b o e) ?_
    cases q : H b with
    | none => rfl
    | some u =>
      obtain ⟨e', n, _⟩ := hO b (by rw [q]; simp)
      subst e'
      rw [n] at e
      cases e
  have md : Mod K mg (hidT s.heap H) := by
    obtain ⟨mc, h1, h2⟩ := lim
    exact ⟨kB, ns' hN, ⟨mb, ns' hB, hbb⟩, ⟨mc, ns' h1, h2⟩⟩
  have e0 : Env0 P w K mg (hidT s.heap H) callerA [] s H :=
    ⟨rfl, md, fun b o e => of_hidT e, Nat.le_of_eq (hidT_size _ _), trivial, fun b q => absurd (show b ∈ ([] : List Addr) from q) (by simp), ok, .of_eq hg⟩
  refine codeAny_mono ((F _ kB (ns' hN)).go callerA [] s H ⟨[.ref a], []⟩ [.ref a] [.ref a] _ _ rfl hr e0 (hb s (.ref a)) (.cons rfl .nil) (hsp H hS)) ?_
  intro r s' q
  cases r with
  | error e => exact False.elim q
  | ok fl =>
    cases fl with
    | next => exact False.elim q
    | brk => exact False.elim q
    | cont => exact False.elim q
    | ret u =>
      obtain ⟨v, H', os, bare, un, ok', r', q'⟩ := q
      have q2 : v = .bl true := q'
      subst q2
      obtain rfl : u = Value.bool true := r'
      refine ⟨rfl, OldK.of_keep fun b o e => ?_, os, bare⟩
      cases q : H b with
      | none => exact un.keep b o e q (fun z => absurd (show b ∈ ([] : List Addr) from z) (by simp)) (by simp)
      | some u =>
        obtain ⟨_, _, ob, xs, z⟩ := hO b (by rw [q]; simp)
        obtain ⟨e1, _⟩ := ok b _ z
        obtain ⟨e2, _⟩ := ok' b _ (un.frzs b ob _ z)
        rw [e] at e1
        cases e1
        exact e2

/-- what k_head leaves, from the promise of the law's def -/
theorem walkG {l : PySem.W.OpenLaw} {n k : Nat} {q : Program} {loose : List Str} {XP : (Str → Option Value) → Heap → Prop} {YP : World → Heap → Prop} {d : DefRec} {K : Params → PySem.W.Frag} {sp : World → Sp} {x : Str}
    (hn : l.most = some n) (hn2 : n ≤ sizeLine) (hdf : d.params.defaults = []) (hr : Room k callerA) (hY : ∀ (w : World) (h : Heap), YP w h → (K w.params).In h)
    (F : ∀ (w : World) (mg : Str → Option Value) (fa : Addr) (h : Heap), (K w.params).In h → h.Ns mainGlobals mg → mg d.name = some (.ref fa) →
      ∃ fd : FuncData, (∀ (s : Shared) (u : Value), BindsTo s fd ⟨[u], []⟩ [(x, u)]) ∧
        ∀ base : Heap, (K w.params).In base → base.Ns mainGlobals mg → FnG l.prog w (K w.params) mg base k fa fd [x] (sp w))
    (hsp : ∀ (w : World) (H : Hp) (a : Addr) (ns : List Int), ns.length ≤ n → SqL (K w.params) H a (ns.map V.int) → sp w [.ref a] H (fun v _ => v = .bl true) E0) :
    PySem.W.WalkO q loose XP YP l.row.toRowW d [] (fun f vs => PySem.call f vs) := by
  refine Att.attach_call hn hdf ?_
  intro w s₀ s₁ mg mb fa o pm cd doc a vs ns G Y ho hd hcd hmg hobj hints hlen hg
  have kX := hY w _ Y
  obtain ⟨fd, hb, hF⟩ := F w mg fa _ kX G.T.g hmg
  exact law_end kX G.T.g G.T.b G.T.builtins G.T.nolimit hg hobj hints (Nat.le_trans hlen hn2) hr hF hb fun H hS => hsp w H a ns hlen hS
end NB

set_option Elab.async false
set_option linter.all false
set_option maxRecDepth 100000
set_option maxHeartbeats 1000000
namespace NB
open PySem PySem.Spec PyProof.Rows L2
section
variable {prog : Program} {w : World} {A : Around} {E : Value → Shared → Prop} {s : Shared}
theorem sortedTuple {t : Addr} {vs : List Value} {ns : List Int} {Q : Value → Shared → Prop} (hl : s.heap.IsTuple t vs.toArray) (hI : IntsAre vs ns) (h64 : vs.length < 64)
    (h : ∀ (h1 h' : Heap) (p : Addr) (out : Array Value) (ep : Nat) (ns' : List Int), IntsAre out.toList ns' → ns'.Perm ns → ns'.Pairwise (· ≤ ·) → (∀ b o, s.heap.get? b = some o → h1.get? b = some o) → (∀ b o, h1.get? b = some o → h'.get? b = some o) → h1.objs.size ≤ p →
      h'.get? p = some (seqObj "list" out ep) → Q (.ref p) { s with heap := h' }) :
    wpAny (model prog w) A (call (.builtin "sorted") [.ref t]) Q E s := by
  obtain ⟨o, ho, hc, n, hd⟩ := hl
  refine Calls.call_function_entry kind_sorted plain_sorted entry_sorted (args_sorted1 _) ?_
  unfold Builtin.«sorted»
  refine wpAny_bind (m := checkCount "sorted" 1 1 _) (wpAny_pure ?_)
  refine wpAny_bind (wpAny_collect_seq t (.inr rfl) ho hc hd (fun h1 hk => ?_) (by rw [List.size_toArray, sizeLine_eq]; omega))
  refine wpAny_bind (wpAny_newList ?_)
  have e0 : (vs.toArray.toList) = vs := rfl
  have hoL : (h1.push (seqObj "list" vs.toArray 0)).get? h1.objs.size = some (seqObj "list" vs.toArray 0) := Heap.get?_push_size _ rfl
  show wpAny _ _ _ _ _ { s with heap := h1.push (seqObj "list" vs.toArray 0) }
  refine wpAny_bind (wpAny_holding (wpAny_call_entry slot_list_sort ⟨_, hoL, rfl⟩ entry_list_sort (list_sort_tree hoL hI h64 fun out ns' q1 q2 q3 => ⟨_, rfl, ?_⟩) (args_list_sort _)))
  refine wpAny_pure ⟨_, rfl, ?_⟩
  obtain ⟨ep, hat⟩ := sortedHeap_at (vs := vs) (out := out) hoL
  refine h h1 _ h1.objs.size out ep ns' q1 q2 q3 hk (fun b o q => ?_) (Nat.le_refl _) hat
  have lt := Heap.lt_size q
  rw [sortedHeap_old (Nat.ne_of_lt lt) (by rw [size_push']; exact Nat.lt_succ_of_lt lt)]
  exact Heap.get?_push_of_some _ q
end
section
variable {X : Cx}
/-- sorted(t), t a tuple of few ints -/
def rSortT (K : PySem.W.Frag) : List V → Hp → VK → Prop := fun vs H Q => ∃ (a : Addr) (ns : List Int), vs = [V.ref a] ∧ SqT K H a (ns.map V.int) ∧ ns.length < 64 ∧
  ∀ (ns' : List Int) (p : Addr), ns'.Perm ns → ns'.Pairwise (· ≤ ·) → H p = none → Q (.ref p) (upd H p (.lst (ns'.map V.int)))
theorem cr_sortT : CallR X (.builtin "sorted") (rSortT X.K) := by
  intro pins s σ H vs us Q I r h
  obtain ⟨a, ns, rfl, hs, h64, q⟩ := h
  obtain ⟨its, rv, hl, _⟩ := I.tuple hs
  rw [Vals.ref1 r]
  have hi := rv.ints
  refine sortedTuple hl hi (by rw [hi.length]; exact h64) fun h1 h' p out ep ns' q1 q2 q3 k1 k2 hp hat => ?_
  have I1 : Inv X pins σ H { s with heap := h1 } := I.kept (t' := s.toks) k1
  have hlen : (ns'.map V.int).length ≤ sizeLine := by rw [List.length_map, q2.length_eq]; exact small64 h64
  exact ⟨.ref p, upd H p (.lst (ns'.map V.int)), I1.laid (t' := s.toks) k2 hp ⟨hlen, out.toList, ep, vals_of_ints q1, hat⟩, rfl, q ns' p q2 q3 (I1.hok.fresh hp)⟩

theorem perm_sum {l l' : List Int} (h : l.Perm l') : l.sum = l'.sum := by
  induction h with
  | nil => rfl
  | cons x _ ih => simp only [List.sum_cons, ih]
  | swap x y l => simp only [List.sum_cons]; omega
  | trans _ _ i1 i2 => exact i1.trans i2
/-- the middle one of three -/
def mid3 (a b c : Int) : Int := if a ≤ b then (if b ≤ c then b else if a ≤ c then c else a) else (if a ≤ c then a else if b ≤ c then c else b)
theorem mid_of_sorted {a b c x y z : Int} (p : [x, y, z].Perm [a, b, c]) (s : [x, y, z].Pairwise (· ≤ ·)) : y = mid3 a b c := by
  have h1 : x ≤ y ∧ y ≤ z := by
    rw [List.pairwise_cons, List.pairwise_cons] at s
    exact ⟨s.1 y (by simp), s.2.1 z (by simp)⟩
  have ha : a ∈ [x, y, z] := p.symm.subset (by simp)
  have hb : b ∈ [x, y, z] := p.symm.subset (by simp)
  have hc : c ∈ [x, y, z] := p.symm.subset (by simp)
  have hs : x + y + z = a + b + c := by
    have e := perm_sum p
    simp only [List.sum_cons, List.sum_nil] at e
    omega
  simp only [List.mem_cons, List.not_mem_nil, or_false] at ha hb hc
  unfold mid3
  rcases ha with e | e | e <;> rcases hb with f | f | f <;> rcases hc with g | g | g <;> split <;> split <;> (try split) <;> omega
theorem max3 (hc : X.calm = true) : CallR X (.builtin "max") (fun xs H Q => ∃ i j k : Int, xs = [.int i, .int j, .int k] ∧ Q (.int (max (max i j) k)) H) := by
  intro pins s σ H xs us Q I r h
  obtain ⟨i, j, k, rfl, q⟩ := h
  refine call_max3Nu hc pins s σ H _ us Q I r ⟨_, _, _, _, rfl, ?_, q⟩
  have two : ∀ a b : Int, nuMax2 (.int a) (.int b) = some (.int (max a b)) := fun a b => by
    show some (if decide (a < b) = true then V.int b else V.int a) = _
    by_cases h : a < b
    · rw [if_pos (decide_eq_true h), Int.max_eq_right (Int.le_of_lt h)]
    · rw [if_neg (by simpa using h), Int.max_eq_left (by omega)]
  show (nuMax2 (.int i) (.int j)).bind (fun m => nuMax2 m (.int k)) = _
  rw [two]
  exact two _ _
theorem min3 (hc : X.calm = true) : CallR X (.builtin "min") (fun xs H Q => ∃ i j k : Int, xs = [.int i, .int j, .int k] ∧ Q (.int (min (min i j) k)) H) := by
  intro pins s σ H xs us Q I r h
  obtain ⟨i, j, k, rfl, q⟩ := h
  refine call_min3Nu hc pins s σ H _ us Q I r ⟨_, _, _, _, rfl, ?_, q⟩
  have two : ∀ a b : Int, nuMin2 (.int a) (.int b) = some (.int (min a b)) := fun a b => by
    show some (if decide (b < a) = true then V.int b else V.int a) = _
    by_cases h : b < a
    · rw [if_pos (decide_eq_true h), Int.min_eq_right (Int.le_of_lt h)]
    · rw [if_neg (by simpa using h), Int.min_eq_left (by omega)]
  show (nuMin2 (.int i) (.int j)).bind (fun m => nuMin2 m (.int k)) = _
  rw [two]
  exact two _ _
/-- a ** b: the result within 2 ^ 27 bits -/
def CPowW (i j : Int) : Prop := 0 ≤ j ∧ (Builtin.Int.intBits i : Int) * j ≤ 2 ^ 27
theorem op_powW : OpR X (binaryOp .Pow) (rI CPowW fun i j => .int (i ^ j.toNat)) := opI fun _ _ _ _ _ _ _ hc q => pow_int hc.1 hc.2 q
end
end NB

set_option Elab.async false
set_option linter.all false
set_option maxRecDepth 100000
set_option maxHeartbeats 1000000
/-! enumerate of a tuple -/
namespace NB
open PySem PySem.Spec PyProof.Rows L2

theorem enumNewT (l : Addr) (items : Array Value) : Meets (Builtin.«enumerate.__new__» ⟨[.type "enumerate", .ref l], []⟩) (fun _ R s => s.heap.IsTuple l items ∧
      R (.ok (.ret (.ref (s.heap.push { cls := .type "tuple_iterator", data := .fields #[.ref l, .int 0 0] }).objs.size)))
        { s with heap := (s.heap.push { cls := .type "tuple_iterator", data := .fields #[.ref l, .int 0 0] }).push { cls := .type "enumerate", data := .fields #[.none, .bool false, .ref s.heap.objs.size, rawInt 0, .none, .none] } }) :=
  .of_wp fun prog w A R s h => by
    obtain ⟨hp, g, d, tk, os⟩ := s
    obtain ⟨hl, h⟩ := h
    have hsub := sub_enumerate
    have hL : Heap.IsTuple (Shared.heap ⟨hp, g, d, tk, os⟩) l items := hl
    wp_walk
    refine wpAny_stack_any fun st => wpAny_pure ?_
    split
    · rename_i c _ _ _ _ _
      cases (c == Value.type "enumerate")
      · wp_walk using wpAny_pyIter_tuple hL
        exact ⟨_, rfl, h⟩
      · wp_walk using wpAny_pyIter_tuple hL
        exact ⟨_, rfl, h⟩
    · wp_walk using wpAny_pyIter_tuple hL
      exact ⟨_, rfl, h⟩
section
variable {prog : Program} {w : World} {A : Around} {E : Value → Shared → Prop} {s : Shared}
theorem enumT {l : Addr} {items : Array Value} {Q : Value → Shared → Prop} (hL : s.heap.IsTuple l items)
    (h : ∀ h', IsEnum h' (s.heap.objs.size + 1) s.heap.objs.size 0 .none → h'.IsTupleIter s.heap.objs.size l 0 → (∀ b o, s.heap.get? b = some o → h'.get? b = some o) → Q (.ref (s.heap.objs.size + 1)) { s with heap := h' }) :
    wpAny (model prog w) A (call (.type "enumerate") [.ref l]) Q E s := by
  refine callType_new F.called_enumerate (by decide) (F.typeCall_enumerate_1 _) (F.newCall_enumerate_1 _) (fun obj => F.args_object_init_2 obj _) F.entry_enumerate_new (enumNewT l items) ⟨hL, ?_⟩
  have z : (s.heap.push { cls := .type "tuple_iterator", data := .fields #[.ref l, .int 0 0] }).objs.size = s.heap.objs.size + 1 := Heap.size_push ..
  have he := Heap.get?_push_size (s.heap.push { cls := .type "tuple_iterator", data := .fields #[.ref l, .int 0 0] }) (o := { cls := .type "enumerate", data := .fields #[.none, .bool false, .ref s.heap.objs.size, rawInt 0, .none, .none] }) rfl
  show _ ∧ _
  rw [z] at he ⊢
  exact ⟨⟨_, he, rfl⟩, h _ he ⟨_, Heap.get?_push_of_some _ (Heap.get?_push_size _ rfl), rfl, rfl⟩ fun b o x => Heap.get?_push_of_some _ (Heap.get?_push_of_some _ x)⟩
end
/-- a tuple's items with their numbers, in new pairs -/
def ItE (K : PySem.W.Frag) (a : Addr) : It :=
  ⟨fun i H => ∃ (xs : List V) (x : V), SqT K H a xs ∧ xs[i]? = some x,
    fun i H v H' => ∃ T x, v = .ref T ∧ H T = none ∧ H' = upd H T (.tup [.int (i : Nat), x]) ∧ ∀ xs, SqT K H a xs → xs[i]? = some x,
    fun i H => ∃ xs : List V, SqT K H a xs ∧ xs.length = i⟩
theorem turnE {P : Program} {w : World} {K : PySem.W.Frag} {elts : List Expr} {kk : Nat} {tpos : Pos} (a e it : Addr) (n1 : e ≠ it) (n2 : a ≠ it) (n3 : e ≠ a) :
    Turn P w K (.Tuple elts kk tpos) (ItE K a) [e, it] e (fun i h => (∃ old, IsEnum h e it ((i : Nat) : Int) old) ∧ h.IsTupleIter it a i) where
  mem := by simp
  obj := fun i h st b hb => by
    obtain ⟨⟨old, he⟩, ⟨o, ho, hc, hd⟩⟩ := st
    have e' : b = e ∨ b = it := by simpa using hb
    rcases e' with z | z
    · rw [z]; exact ⟨_, he, fun v q => nomatch q⟩
    · rw [z]; exact ⟨o, ho, fun v q => by rw [hd] at q; cases q⟩
  keep := fun i h h' st k => by
    obtain ⟨⟨old, he⟩, hi⟩ := st
    exact ⟨⟨old, k e (by simp) _ he⟩, hi.at fun o q => k it (by simp) o q⟩
  item := by
    intro X hP hw hK hc i pins s σ H E I hf st hg
    subst hP hw hK
    obtain ⟨⟨old, he⟩, hit⟩ := st
    obtain ⟨xs, x, hq, hx⟩ := hg
    obtain ⟨its, rv, p, hz⟩ := I.tuple hq
    obtain ⟨u, hu, ru⟩ := rv.get hx
    have hel : e < s.heap.objs.size := Heap.lt_size he
    have hil : it < s.heap.objs.size := by obtain ⟨_, q, _⟩ := hit; exact Heap.lt_size q
    have lt : i < its.toArray.size := by
      have : i < its.length := by
        rcases Nat.lt_or_ge i its.length with q | q
        · exact q
        · rw [List.getElem?_eq_none q] at hu
          cases hu
      simpa using this
    have hD := I.ok.hd hc
    refine wpAny_pyNext_enum_itemD (Draws.tuple (A := X.A.in1) hD it a n2 its.toArray) he ⟨hit, p⟩ lt n1 (by simp; exact ⟨n1, n3⟩) fun y h' tk hy ho st' hT hsz hk => ?_
    have ey : y = u := by
      have q : its.toArray[i]? = some u := by simpa using hu
      exact Option.some.inj (hy.symm.trans q)
    subst ey
    refine ⟨_, rfl, wpAny_letOwnedTupleGo_enum (s := { s with heap := h', toks := tk + 1 }) ho fun h'' he' sb => ?_⟩
    have hT2 : h''.get? s.heap.objs.size = some { cls := .type "tuple", data := .seq #[.int i tk, y] } := (sb.2 _ (Nat.ne_of_gt hel)).trans hT
    have new : ObjOk X.prog X.w (upd H s.heap.objs.size (.tup [.int (i : Nat), x])) h'' s.heap.objs.size (.tup [.int (i : Nat), x]) :=
      ⟨by show 2 ≤ sizeLine; decide, [.int i tk, y], .cons ⟨_, rfl⟩ (.cons ru .nil), ⟨_, hT2, rfl, _, rfl⟩⟩
    have I1 : Inv X pins σ (upd H s.heap.objs.size (.tup [.int (i : Nat), x])) { s with heap := h'', toks := tk + 1 } :=
      I.turnedNew (ch := [e, it]) (fun b ob hb q => (sb.2 b (fun z => hb (by simp [z]))).trans (hk b ob (fun z => hb (by simp [z])) (fun z => hb (by simp [z])) q)) hf (Nat.le_refl _) new
    refine ⟨.ref s.heap.objs.size, _, I1, rfl, ⟨_, x, rfl, I.hok.fresh (Nat.le_refl _), rfl, fun ys hy => by rw [I.tuple_inj hy hq]; exact hx⟩, ⟨⟨y, ?_⟩, st'.1.at fun o q => (sb.2 it n1.symm).trans q⟩, fun b hb => ?_⟩
    · rw [show ((i + 1 : Nat) : Int) = (i : Int) + 1 by omega]
      exact he'
    · have hb' : b < s.heap.objs.size := by
        have e' : b = e ∨ b = it := by simpa using hb
        rcases e' with z | z
        · rw [z]; exact hel
        · rw [z]; exact hil
      rw [upd_ne (Nat.ne_of_lt hb')]
      exact (hf b hb).1
  done := by
    intro X hP hw hK hc i pins s σ H E I hf st hg
    subst hP hw hK
    obtain ⟨⟨old, he⟩, hit⟩ := st
    obtain ⟨xs, hq, hx⟩ := hg
    obtain ⟨its, rv, p, hz⟩ := I.tuple hq
    obtain ⟨f0, f1, f2, f3, f4, f5⟩ := hf it (by simp)
    have le : i = its.toArray.size := by
      have := rv.length
      simp
      omega
    subst le
    exact wpAny_pyNext_enum_endD (Draws.tuple (A := X.A.in1) (I.ok.hd hc) it a n2 its.toArray) he ⟨hit, p⟩ fun h' eb => ⟨rfl, I.turned (t' := s.toks) (fun b o hb q => eb b o hb q) f0 f1 f3 f4 f5⟩
  self := fun A i s Q E st h => by
    obtain ⟨⟨_, he⟩, _⟩ := st
    exact wpAny_pyIter_enum he h
def iEnumT (K : PySem.W.Frag) (ta : TA) : TI := fun σ H R => ta σ H fun vs H1 => ∃ a xs, vs = [.ref a] ∧ SqT K H1 a xs ∧ R (ItE K a) H1
theorem pi_enumT {X : Cx} {e : Expr} {ta : TA} {p pos tpos : Pos} {elts : List Expr} {kk : Nat} (hg : Gl X "enumerate") (hm : X.mg "enumerate" = none) (ha : PA X [e] ta) (hs : starEach [e] X.env = [(false, eval e X.env)] := by rfl) :
    PI X (.Tuple elts kk tpos) (.Call (.Name "enumerate" p) [e] [] pos) (iEnumT X.K ta) := by
  refine ⟨fun pins s σ H R I h => ?_⟩
  refine Call_ (ld_blt I hg hm boot_enumerate (PyProof.Rows.callWith_type1 (thn (ha.run pos pins s σ H _ I h) ?_) hs rfl))
  rintro us s1 ⟨vs, H1, I1, r1, a, xs, ex, hq, q⟩
  subst ex
  cases r1 with
  | cons r rr =>
    cases rr
    cases r
    obtain ⟨its, rv, p', hz⟩ := I1.tuple hq
    obtain ⟨o, g, _⟩ := id p'
    have la : a < s1.heap.objs.size := Heap.lt_size g
    refine enumT (items := its.toArray) p' fun h' he hit hk => wpAny_pyIter_enum he ?_
    have I2 : Inv X pins σ H1 { s1 with heap := h' } := I1.kept (t' := s1.toks) hk
    refine ⟨s1.heap.objs.size + 1, [s1.heap.objs.size + 1, s1.heap.objs.size], _, _, H1, rfl, I2, turnE a (s1.heap.objs.size + 1) s1.heap.objs.size (Nat.succ_ne_self _) (Nat.ne_of_lt la) (Nat.ne_of_gt (Nat.lt_succ_of_lt la)), ⟨⟨.none, he⟩, hit⟩, fun b hb => ?_, q⟩
    have e' : b = s1.heap.objs.size + 1 ∨ b = s1.heap.objs.size := by simpa using hb
    have hle : s1.heap.objs.size ≤ b := by
      rcases e' with z | z
      · rw [z]; exact Nat.le_add_right _ _
      · rw [z]; exact Nat.le_refl _
    exact I1.fpOk hle (I1.hok.fresh hle)
theorem walk_enumT {K : PySem.W.Frag} {a : Addr} {xs : List V} : Walk (ItE K a) xs.length (fun H => SqT K H a xs) (YPair (fun i => some (.int (i : Nat))) (fun i => xs[i]?)) := by
  refine ⟨fun i _ hi q => ⟨xs, xs[i], q, by simp [hi]⟩, fun _ q => ⟨xs, q, rfl⟩, fun i H v H' _ q y => ?_⟩
  obtain ⟨T, x, h1, h2, h3, h4⟩ := y
  exact ⟨T, .int (i : Nat), x, h1, h2, h3, rfl, h4 xs q⟩
end NB

set_option Elab.async false
set_option linter.all false
set_option maxRecDepth 100000
/-! t[::-1] of a tuple; repr of a truth. -/
namespace NB
open PySem PySem.Spec PyProof.Rows L2 HT

section
variable {prog : Program} {w : World} {A : Around} {E : Value → Shared → Prop} {s : Shared}
theorem adjust_back (n : Nat) : Builtin.Slice.sliceAdjust none none (-1) (n : Int) = ((n : Int) - 1, -1) := by
  unfold Builtin.Slice.sliceAdjust
  first
  | rfl
  | simp
theorem places_back (n : Nat) : Builtin.Slice.slicePlaces ((n : Int) - 1) (-1) (-1) = n := by
  unfold Builtin.Slice.slicePlaces
  have h1 : ¬ ((-1 : Int) > 0) := by decide
  simp only [h1, if_false]
  split <;> simp <;> omega
theorem sliceBack {sl : Addr} {vl vu vk : Value} {n : Nat} {Q : Int × Int × Nat → Shared → Prop} (hs : s.heap.IsSliceOf sl vl vu vk) (pl : IsPart vl none) (pu : IsPart vu none) (pk : IsPart vk (some (-1)))
    (h : Q ((n : Int) - 1, -1, n) s) : wpAny (model prog w) A (Builtin.Slice.sliceApplied (.ref sl) (pure (n : Int))) Q E s := by
  obtain ⟨os, hos, hcs, hds⟩ := id hs
  unfold Builtin.Slice.sliceApplied Builtin.Slice.sliceFields
  refine wpAny_bind (wpAny_bind (wpAny_field hos hds (x := vl) rfl (wpAny_bind (wpAny_field hos hds (x := vu) rfl (wpAny_bind (wpAny_field hos hds (x := vk) rfl (wpAny_pure ?_)))))))
  refine wpAny_bind (slicePart_ pk ?_)
  show wpAny _ _ (if ((-1 : Int) == 0) = true then _ else _) _ _ s
  rw [if_neg (by decide)]
  refine wpAny_bind (slicePart_ pl (wpAny_bind (slicePart_ pu (wpAny_bind (wpAny_pure ?_)))))
  show wpAny _ _ (match Builtin.Slice.sliceAdjust none none (-1) (n : Int) with | (lo, hi) => pure (lo, (-1 : Int), Builtin.Slice.slicePlaces lo hi (-1))) _ _ s
  rw [adjust_back n]
  show wpAny _ _ (pure ((n : Int) - 1, (-1 : Int), Builtin.Slice.slicePlaces ((n : Int) - 1) (-1) (-1))) _ _ s
  rw [places_back]
  exact wpAny_pure h
theorem pick_back (xs : Array Value) : ((List.range xs.size).filterMap fun (m : Nat) => xs[(((xs.size : Int) - 1) + (m : Int) * -1).toNat]?).toArray = xs.toList.reverse.toArray := by
  have e : ((List.range xs.size).filterMap fun (m : Nat) => xs[(((xs.size : Int) - 1) + (m : Int) * -1).toNat]?) = ((List.range xs.size).map fun k => xs.size - 1 - k).filterMap (xs[·]?) := by
    rw [List.filterMap_map]
    congr 1
    funext m
    have : (((xs.size : Int) - 1) + (m : Int) * -1).toNat = xs.size - 1 - m := by omega
    rw [this]
    rfl
  rw [e, PySem.W.krv_range, List.filterMap_reverse, PySem.W.krv_all]
theorem getItem_tuple_back {t sl : Addr} {items : Array Value} {vl vu vk : Value} {Q : Value → Shared → Prop} (ht : IsTup s.heap t items) (hs : s.heap.IsSliceOf sl vl vu vk) (pl : IsPart vl none) (pu : IsPart vu none) (pk : IsPart vk (some (-1)))
    (h : Q (.ref s.heap.objs.size) { s with heap := s.heap.push { cls := .type "tuple", data := .seq items.toList.reverse.toArray } })
    (hsz : items.size ≤ sizeLine) : wpAny (model prog w) A (getItem (.ref t) (.ref sl)) Q E s := by
  have htake : sizeOk (.seq items.toList.reverse.toArray) := by
    show items.toList.reverse.toArray.size ≤ sizeLine
    rw [List.size_toArray, List.length_reverse, Array.length_toList]
    exact hsz
  obtain ⟨os, hos, hcs, hds⟩ := id hs
  have hTs : s.TypeIs (.ref sl) "slice" := ⟨os, hos, hcs⟩
  unfold getItem
  try with_reducible refine wpAny_holding ?_
  first | refine wpAny_bind (wpAny_pure ?_) | skip
  refine wpAny_bind (wpAny_sequenceKey ht.typeIs (by decide) ?_)
  refine wpAny_bind (wpAny_callSpecial?_slot (name := Str.ofString "__getitem__") ht.typeIs PyProof.Rows.slot_tuple_getitem
    (wpAny_call_entry PyProof.Rows.slot_tuple_getitem ht.typeIs entry_tuple_getitem ?_ (args_tuple_getitem _ _)))
  show wpAny _ _ (Builtin.Tuple.tupleItemsOf (.ref t) >>= _) _ _ s
  refine wpAny_bind (tupleItemsOf_ ht ?_)
  refine wpAny_bind (wpAny_typeOf hTs ?_)
  rw [if_pos (by decide)]
  refine wpAny_bind (sliceBack hs pl pu pk ?_)
  have hno : ¬ ((((items.size : Int) - 1) == 0 && (-1 : Int) == 1 && items.size == items.size) = true) := by
    intro q
    rw [Bool.and_eq_true, Bool.and_eq_true] at q
    exact absurd q.1.2 (by decide)
  show wpAny _ _ (if (((items.size : Int) - 1) == 0 && (-1 : Int) == 1 && items.size == items.size) = true then _ else _) _ _ s
  rw [if_neg hno, pick_back]
  first
    | exact wpAny_bind (m := Builtin.Tuple.tupleExact _) (wpAny_newObj_type (wpAny_pure ⟨_, rfl, wpAny_pure h⟩) htake)
    | exact wpAny_bind (m := Builtin.Tuple.tupleExact _) (wpAny_newObj_type (wpAny_bind (wpAny_pure (wpAny_pure ⟨_, rfl, wpAny_pure h⟩))) htake)
    | exact wpAny_bind (wpAny_bind (m := Builtin.Tuple.tupleExact _) (wpAny_newObj_type (wpAny_pure (wpAny_pure ⟨_, rfl, wpAny_pure h⟩)) htake))
    | exact wpAny_bind (wpAny_bind (m := Builtin.Tuple.tupleExact _) (wpAny_newObj_type (wpAny_pure ⟨_, rfl, wpAny_pure h⟩) htake))
end

section
variable {X : Cx}
def tRevT (K : PySem.W.Frag) (te : TE) : TE := fun σ H Q => te σ H fun x H1 => ∃ a xs, x = .ref a ∧ SqT K H1 a xs ∧ ∀ p, H1 p = none → Q (.ref p) (upd H1 p (.tup xs.reverse))
theorem pe_revT {e : Expr} {te : TE} {k : Nat} {p1 p2 p3 pos : Pos} (he : PE X e te) : PE X (.Subscript e (.Slice none none (some (.UnaryOp .USub (.Constant (.int 1) k p1) p2)) p3) pos) (tRevT X.K te) := by
  refine ⟨fun pins s σ H Q I h => ?_⟩
  refine Subscript_ (thn (he.run pins s σ H _ I h) fun v s1 ⟨x, H1, I1, r1, q1⟩ => ?_)
  obtain ⟨a, xs, ex, hx, q⟩ := q1
  subst ex
  cases r1
  have hst : PO X (some (.UnaryOp .USub (.Constant (.int 1) k p1) p2)) (tPart (tUn (rU fun i => .int (-i)) (tC (.int 1)))) := po_some (pe_un un_neg pe_int)
  refine wpAny_Slice (thn (po_none.run pins s1 σ H1 (fun o H2 => o = none ∧ H2 = H1) I1 ⟨rfl, rfl⟩) fun vl s2 ⟨l, H2, I2, pl, el, e2⟩ => ?_)
  subst el e2
  refine thn (po_none.run pins s2 σ H2 (fun o H3 => o = none ∧ H3 = H2) I2 ⟨rfl, rfl⟩) fun vu s3 ⟨u, H3, I3, pu, eu, e3⟩ => ?_
  subst eu e3
  refine thn (hst.run pins s3 σ H3 (fun o H4 => o = some (-1) ∧ H4 = H3) I3 ⟨1, rfl, -1, rfl, rfl, rfl⟩) fun vs s4 ⟨o, H4, I4, ps, eo, e4⟩ => ?_
  subst eo e4
  have I5 : Inv X pins σ H4 { s4 with heap := s4.heap.push { cls := .type "slice", data := .fields #[vl, vu, vs] } } := I4.kept (t' := s4.toks) fun b ob q => Heap.get?_push_of_some _ q
  obtain ⟨its, r, ht, hz⟩ := I5.tuple hx
  have hlen := r.length
  show wpAny (model X.prog X.w) X.A (subscriptTail e (.Slice none none (some (.UnaryOp .USub (.Constant (.int 1) k p1) p2)) p3) (.ref a) (.ref s4.heap.objs.size)) (EP X pins σ Q) X.xe { s4 with heap := s4.heap.push { cls := .type "slice", data := .fields #[vl, vu, vs] } }
  refine tail_any (ops := [.ref a, .ref s4.heap.objs.size]) ht.typeIs (PyProof.Rows.slot_tuple_getitem.lookup) ?_ (by with_unfolding_all rfl)
  refine getItem_tuple_back ht (Heap.IsSliceOf.new _ vl vu vs) pl pu ps ?_ (by rw [List.size_toArray]; omega)
  refine ⟨.ref _, _, I5.laid (t' := s4.toks) (o := .tup xs.reverse) (fun b ob q => Heap.get?_push_of_some _ q) (Nat.le_refl _) ?_, rfl, q _ (I5.hok.fresh (Nat.le_refl _))⟩
  exact ⟨by rw [List.length_reverse]; exact hz, _, r.reverse, IsTup.new _ _⟩

/-- how a truth is written -/
def shB (b : Bool) : Str := if b then "True" else "False"
/-- repr(b), b a truth -/
theorem call_reprB : CallR X (.builtin "repr") (fun xs H Q => ∃ b, xs = [.bl b] ∧ Q (.str (shB b)) H) := by
  intro pins s σ H xs us Q I r h
  obtain ⟨b, rfl, q⟩ := h
  obtain ⟨u, rfl, r1⟩ := vals1 r
  cases r1
  exact P.repr_of_bool ⟨.str (shB b), H, I.tok _, ⟨_, rfl⟩, q⟩
end
end NB

set_option Elab.async false
set_option linter.all false
set_option maxRecDepth 100000
namespace NB
open PySem PySem.Spec PyProof.Rows L2
/-- data that repr writes: at most w by weight, nested at most n deep -/
structure Small (d : PyData) (w n : Nat) : Prop where
  sh : d.showable = true
  nd : d.hasDict = false
  dp : d.depth ≤ n
  lv : d.leavesShort 100 = true
  wt : d.weight ≤ w
structure SmallAll (ds : List PyData) (w n : Nat) : Prop where
  sh : PyData.showableAll ds = true
  nd : PyData.hasDictAll ds = false
  dp : PyData.depthAll ds ≤ n
  lv : PyData.leavesShortAll 100 ds = true
  wt : PyData.weightAll ds ≤ w
theorem Small.int {i : Int} (h : i.natAbs < 10 ^ 90) : Small (.int i) 310 0 := by
  have lg : i.natAbs.log2 < 300 := by
    have h2 : i.natAbs < 2 ^ 300 := Nat.lt_of_lt_of_le h (by decide)
    by_cases e : i.natAbs = 0
    · rw [e]; decide
    · exact (Nat.log2_lt e).mpr h2
  refine ⟨?_, rfl, Nat.le_refl _, ?_, ?_⟩
  · simp only [PyData.showable, decide_eq_true_eq]
    omega
  · simp only [PyData.leavesShort, decide_eq_true_eq]
    have e := int_text_length_le10 (k := 90) (by decide) h
    show (Str.ofString (toString i)).length ≤ 100
    rw [PySem.ofString_length]
    omega
  · show (if i == 0 then 0 else i.natAbs.log2 + 1) ≤ 310
    split <;> omega
theorem Small.bool (b : Bool) : Small (.bool b) 0 0 := ⟨rfl, rfl, Nat.le_refl _, rfl, Nat.le_refl _⟩
theorem Small.none : Small .none 0 0 := ⟨rfl, rfl, Nat.le_refl _, rfl, Nat.le_refl _⟩
theorem SmallAll.nil : SmallAll [] 0 0 := ⟨rfl, rfl, Nat.le_refl _, rfl, Nat.le_refl _⟩
theorem SmallAll.cons {d : PyData} {ds : List PyData} {w v n m : Nat} (h : Small d w n) (h' : SmallAll ds v m) : SmallAll (d :: ds) (w + 1 + v) (max n m) := by
  obtain ⟨a1, a2, a3, a4, a5⟩ := h
  obtain ⟨b1, b2, b3, b4, b5⟩ := h'
  refine ⟨?_, ?_, ?_, ?_, ?_⟩
  · simp only [PyData.showableAll, a1, b1, Bool.and_self]
  · simp only [PyData.hasDictAll, a2, b2, Bool.or_self]
  · simp only [PyData.depthAll]
    omega
  · simp only [PyData.leavesShortAll, a4, b4, Bool.and_self]
  · simp only [PyData.weightAll]
    omega
theorem Small.list {ds : List PyData} {w n : Nat} (h : SmallAll ds w n) : Small (.list ds) w (n + 1) := by
  obtain ⟨a1, a2, a3, a4, a5⟩ := h
  refine ⟨?_, ?_, ?_, ?_, ?_⟩
  · simpa only [PyData.showable] using a1
  · simpa only [PyData.hasDict] using a2
  · simp only [PyData.depth]
    omega
  · simpa only [PyData.leavesShort] using a4
  · simpa only [PyData.weight] using a5
theorem Small.tuple {ds : List PyData} {w n : Nat} (h : SmallAll ds w n) : Small (.tuple ds) w (n + 1) := by
  obtain ⟨a1, a2, a3, a4, a5⟩ := h
  refine ⟨?_, ?_, ?_, ?_, ?_⟩
  · simpa only [PyData.showable] using a1
  · simpa only [PyData.hasDict] using a2
  · simp only [PyData.depth]
    omega
  · simpa only [PyData.leavesShort] using a4
  · simpa only [PyData.weight] using a5
theorem SmallAll.ints : ∀ {xs : List Int}, (∀ x ∈ xs, x.natAbs < 10 ^ 90) → SmallAll (xs.map PyData.int) (311 * xs.length) 0
  | [], _ => .nil
  | x :: xs, h => by
    have c := SmallAll.cons (Small.int (h x List.mem_cons_self)) (SmallAll.ints fun y hy => h y (List.mem_cons_of_mem _ hy))
    refine ⟨c.sh, c.nd, c.dp, c.lv, Nat.le_trans c.wt ?_⟩
    rw [List.length_cons]
    omega
theorem Small.ok {d : PyData} {w n : Nat} (h : Small d w n) (hw : w ≤ 150000) (hn : n ≤ 60) : Showable d := by
  refine ⟨h.sh, h.nd, Nat.le_trans h.dp hn, ?_⟩
  have e := PyData.shown_le 100 (by decide) d h.lv
  have := h.wt
  rw [sizeLine_eq]
  have : (100 + 2) * d.weight ≤ (100 + 2) * 150000 := Nat.mul_le_mul_left _ (Nat.le_trans h.wt hw)
  omega
/-- what Dp reads of a tuple of ints -/
theorem dp_ints {K : PySem.W.Frag} {H : Hp} : ∀ xs : List Int, DpAll K H (xs.map V.int) (xs.map PyData.int)
  | [] => .nil
  | x :: xs => .cons (.int x) (dp_ints xs)
theorem dp_tup {K : PySem.W.Frag} {H : Hp} {p : Addr} {xs : List Int} (h : SqT K H p (xs.map V.int)) : Dp K H (.ref p) (.tuple (xs.map PyData.int)) := .tup h (dp_ints xs)
end NB

set_option Elab.async false
set_option linter.all false
set_option maxRecDepth 100000
set_option maxHeartbeats 1000000
/-! Data of any kind: None, truths, whole numbers, texts, lists, tuples, dicts. -/
namespace NB
open PySem PySem.Spec PyProof.Rows L2

def kD : Key → PyData
  | .inl i => .int i
  | .inr x => .str x
mutual
/-- the value v is the data d; its lists stand apart from n -/
inductive Da (n : Addr) (H : Hp) : V → PyData → Prop
  | non : Da n H .non .none
  | bl (b : Bool) : Da n H (.bl b) (.bool b)
  | int (i : Int) : Da n H (.int i) (.int i)
  | str (x : Str) : Da n H (.str x) (.str x)
  | lst {a : Addr} {xs : List V} {ds : List PyData} : H a = some (.lst xs) → a ≠ sysModules → a ≠ n → DaAll n H xs ds → Da n H (.ref a) (.list ds)
  | tup {a : Addr} {xs : List V} {ds : List PyData} : H a = some (.tup xs) → DaAll n H xs ds → Da n H (.ref a) (.tuple ds)
  | dct {a : Addr} {kvs : List (Key × V)} {ds : List (PyData × PyData)} : H a = some (.dK kvs) → DaKv n H kvs ds → Da n H (.ref a) (.dict ds)
inductive DaAll (n : Addr) (H : Hp) : List V → List PyData → Prop
  | nil : DaAll n H [] []
  | cons {v : V} {vs : List V} {d : PyData} {ds : List PyData} : Da n H v d → DaAll n H vs ds → DaAll n H (v :: vs) (d :: ds)
inductive DaKv (n : Addr) (H : Hp) : List (Key × V) → List (PyData × PyData) → Prop
  | nil : DaKv n H [] []
  | cons {k : Key} {v : V} {kvs : List (Key × V)} {d : PyData} {ds : List (PyData × PyData)} : Da n H v d → DaKv n H kvs ds → DaKv n H ((k, v) :: kvs) ((kD k, d) :: ds)
end
mutual
theorem Da.keep {n : Addr} {H H' : Hp} (hn : ∃ zs, H n = some (.lst zs)) (k : ∀ b o, b ≠ n → H b = some o → H' b = some o) : ∀ (d : PyData) (v : V), Da n H v d → Da n H' v d
  | .none, _, h => by cases h; exact .non
  | .bool b, _, h => by cases h; exact .bl b
  | .int i, _, h => by cases h; exact .int i
  | .str x, _, h => by cases h; exact .str x
  | .list ds, _, h => by
    cases h with
    | lst e n1 n2 ha => exact .lst (k _ _ n2 e) n1 n2 (DaAll.keep hn k ds _ ha)
  | .tuple ds, _, h => by
    cases h with
    | tup e ha =>
      refine .tup (k _ _ (fun z => ?_) e) (DaAll.keep hn k ds _ ha)
      obtain ⟨zs, q⟩ := hn
      rw [z, q] at e
      cases e
  | .dict ds, _, h => by
    cases h with
    | dct e ha =>
      refine .dct (k _ _ (fun z => ?_) e) (DaKv.keep hn k ds _ ha)
      obtain ⟨zs, q⟩ := hn
      rw [z, q] at e
      cases e
theorem DaAll.keep {n : Addr} {H H' : Hp} (hn : ∃ zs, H n = some (.lst zs)) (k : ∀ b o, b ≠ n → H b = some o → H' b = some o) : ∀ (ds : List PyData) (vs : List V), DaAll n H vs ds → DaAll n H' vs ds
  | [], _, h => by cases h; exact .nil
  | d :: ds, _, h => by
    cases h with
    | cons h1 h2 => exact .cons (Da.keep hn k d _ h1) (DaAll.keep hn k ds _ h2)
theorem DaKv.keep {n : Addr} {H H' : Hp} (hn : ∃ zs, H n = some (.lst zs)) (k : ∀ b o, b ≠ n → H b = some o → H' b = some o) : ∀ (ds : List (PyData × PyData)) (kvs : List (Key × V)), DaKv n H kvs ds → DaKv n H' kvs ds
  | [], _, h => by cases h; exact .nil
  | (_, d) :: ds, _, h => by
    cases h with
    | cons h1 h2 => exact .cons (Da.keep hn k d _ h1) (DaKv.keep hn k ds _ h2)
end
mutual
theorem Da.sameD {n : Addr} {H H' : Hp} (k : Same H H') : ∀ (d : PyData) (v : V), Da n H v d → Da n H' v d
  | .none, _, h => by cases h; exact .non
  | .bool b, _, h => by cases h; exact .bl b
  | .int i, _, h => by cases h; exact .int i
  | .str x, _, h => by cases h; exact .str x
  | .list ds, _, h => by
    cases h with
    | lst e n1 n2 ha => exact .lst (k _ _ e) n1 n2 (DaAll.sameD k ds _ ha)
  | .tuple ds, _, h => by
    cases h with
    | tup e ha => exact .tup (k _ _ e) (DaAll.sameD k ds _ ha)
  | .dict ds, _, h => by
    cases h with
    | dct e ha => exact .dct (k _ _ e) (DaKv.sameD k ds _ ha)
theorem DaAll.sameD {n : Addr} {H H' : Hp} (k : Same H H') : ∀ (ds : List PyData) (vs : List V), DaAll n H vs ds → DaAll n H' vs ds
  | [], _, h => by cases h; exact .nil
  | d :: ds, _, h => by
    cases h with
    | cons h1 h2 => exact .cons (Da.sameD k d _ h1) (DaAll.sameD k ds _ h2)
theorem DaKv.sameD {n : Addr} {H H' : Hp} (k : Same H H') : ∀ (ds : List (PyData × PyData)) (kvs : List (Key × V)), DaKv n H kvs ds → DaKv n H' kvs ds
  | [], _, h => by cases h; exact .nil
  | (_, d) :: ds, _, h => by
    cases h with
    | cons h1 h2 => exact .cons (Da.sameD k d _ h1) (DaKv.sameD k ds _ h2)
end
theorem Da.same {n : Addr} {H H' : Hp} {v : V} {d : PyData} (h : Da n H v d) (k : Same H H') : Da n H' v d := Da.sameD k d v h
theorem DaAll.same {n : Addr} {H H' : Hp} {vs : List V} {ds : List PyData} (h : DaAll n H vs ds) (k : Same H H') : DaAll n H' vs ds := DaAll.sameD k ds vs h
theorem DaAll.len {n : Addr} {H : Hp} {vs : List V} {ds : List PyData} (h : DaAll n H vs ds) : vs.length = ds.length := by
  induction ds generalizing vs with
  | nil => cases h; rfl
  | cons d ds ih =>
    cases h with
    | cons h1 h2 => rw [List.length_cons, List.length_cons, ih h2]
theorem DaAll.get {n : Addr} {H : Hp} {vs : List V} {ds : List PyData} (h : DaAll n H vs ds) (i : Nat) (v : V) (e : vs[i]? = some v) : ∃ d, ds[i]? = some d ∧ Da n H v d := by
  induction ds generalizing vs i with
  | nil => cases h; simp at e
  | cons d ds ih =>
    cases h with
    | cons h1 h2 =>
      cases i with
      | zero => exact ⟨d, rfl, by cases e; exact h1⟩
      | succ i => exact ih h2 i e
theorem DaAll.mem {n : Addr} {H : Hp} {vs : List V} {ds : List PyData} (h : DaAll n H vs ds) {v : V} (hv : v ∈ vs) : ∃ d ∈ ds, Da n H v d := by
  obtain ⟨i, hi, e⟩ := List.getElem_of_mem hv
  obtain ⟨d, e1, e2⟩ := h.get i v (by rw [List.getElem?_eq_getElem hi, e])
  exact ⟨d, List.mem_of_getElem? e1, e2⟩
theorem DaAll.app {n : Addr} {H : Hp} {vs us : List V} {ds es : List PyData} (h : DaAll n H vs ds) (h' : DaAll n H us es) : DaAll n H (vs ++ us) (ds ++ es) := by
  induction ds generalizing vs with
  | nil => cases h; exact h'
  | cons d ds ih =>
    cases h with
    | cons h1 h2 => exact .cons h1 (ih h2)
theorem DaAll.take {n : Addr} {H : Hp} {vs : List V} {ds : List PyData} (h : DaAll n H vs ds) (i : Nat) : DaAll n H (vs.take i) (ds.take i) := by
  induction ds generalizing vs i with
  | nil => cases h; simp only [List.take_nil]; exact .nil
  | cons d ds ih =>
    cases h with
    | cons h1 h2 =>
      cases i with
      | zero => simp only [List.take_zero]; exact .nil
      | succ i => simp only [List.take_succ_cons]; exact .cons h1 (ih h2 i)
theorem DaAll.drop {n : Addr} {H : Hp} {vs : List V} {ds : List PyData} (h : DaAll n H vs ds) (i : Nat) : DaAll n H (vs.drop i) (ds.drop i) := by
  induction ds generalizing vs i with
  | nil => cases h; simp only [List.drop_nil]; exact .nil
  | cons d ds ih =>
    cases h with
    | cons h1 h2 =>
      cases i with
      | zero => simp only [List.drop_zero]; exact .cons h1 h2
      | succ i => simp only [List.drop_succ_cons]; exact ih h2 i
theorem DaAll.ints {n : Addr} {H : Hp} : ∀ xs : List Int, DaAll n H (xs.map V.int) (xs.map PyData.int)
  | [] => .nil
  | x :: xs => .cons (.int x) (DaAll.ints xs)
/-- of which kind it is -/
def tyD : PyData → String
  | .none => "NoneType"
  | .bool _ => "bool"
  | .int _ => "int"
  | .str _ => "str"
  | .list _ => "list"
  | .tuple _ => "tuple"
  | .dict _ => "dict"
theorem Da.ty {K : PySem.W.Frag} {n : Addr} {H : Hp} {v : V} {d : PyData} (h : Da n H v d) : TyX K H v (.type (tyD d)) := by
  cases h with
  | non => exact .base .non
  | bl b => exact .base (.bl b)
  | int i => exact .base (.int i)
  | str x => exact .base (.str x)
  | lst e _ _ _ => exact .base (.lst e)
  | tup e _ => exact .base (.tup e)
  | dct e _ => exact .base (.dK e)
def isTupD : PyData → Bool
  | .tuple _ => true
  | _ => false
def isIntD : PyData → Bool
  | .int _ => true
  | .bool _ => true
  | _ => false
def isBoolD : PyData → Bool
  | .bool _ => true
  | _ => false
def isStrD : PyData → Bool
  | .str _ => true
  | _ => false
theorem kit_tup (d : PyData) : kitB (tyD d) "tuple" = some (isTupD d) := by cases d <;> (simp only [tyD, isTupD, isIntD, isBoolD, isStrD]; decide +kernel)
theorem kit_int (d : PyData) : kitB (tyD d) "int" = some (isIntD d) := by cases d <;> (simp only [tyD, isTupD, isIntD, isBoolD, isStrD]; decide +kernel)
theorem kit_bool (d : PyData) : kitB (tyD d) "bool" = some (isBoolD d) := by cases d <;> (simp only [tyD, isTupD, isIntD, isBoolD, isStrD]; decide +kernel)
theorem kit_str (d : PyData) : kitB (tyD d) "str" = some (isStrD d) := by cases d <;> (simp only [tyD, isTupD, isIntD, isBoolD, isStrD]; decide +kernel)
section
variable {X : Cx} {pins : List (Addr × Obj)} {σ : L2.St} {H : Hp} {s : Shared}
theorem key_reads {h : Heap} {k : Key} {u : Value} (e : keyIs k u = true) : Reads h u (kD k) [] := by
  rcases keyIs_shape e with ⟨i, t, rfl, rfl⟩ | ⟨x, t, rfl, rfl⟩
  · exact .int i t
  · exact .str x t
mutual
theorem Da.reads {n : Addr} (I : Inv X pins σ H s) : ∀ (d : PyData) (v : V) (u : Value), Da n H v d → RelV v u → ∃ as, Reads s.heap u d as ∧ sysModules ∉ as
  | .none, _, _, h, r => by
    cases h
    cases r
    exact ⟨_, Reads.none, List.not_mem_nil⟩
  | .bool b, _, _, h, r => by
    cases h
    cases r
    exact ⟨_, Reads.bool b, List.not_mem_nil⟩
  | .int i, _, _, h, r => by
    cases h
    obtain ⟨t, rfl⟩ := r
    exact ⟨_, Reads.int i t, List.not_mem_nil⟩
  | .str x, _, _, h, r => by
    cases h
    obtain ⟨t, rfl⟩ := r
    exact ⟨_, Reads.str x t, List.not_mem_nil⟩
  | .list ds, _, _, h, r => by
    cases h with
    | lst e n1 n2 ha =>
      cases r
      obtain ⟨its, rv, ⟨o, m, ho, hc, _, hd⟩, _⟩ := I.list (.inl (.inl e))
      obtain ⟨as, hr, hm⟩ := Da.readsAll I ds _ its ha rv
      refine ⟨_, Reads.list ho hc hd hr, fun z => ?_⟩
      rcases List.mem_cons.mp z with q | q
      · exact n1 q.symm
      · exact hm q
  | .tuple ds, _, _, h, r => by
    cases h with
    | tup e ha =>
      cases r
      obtain ⟨its, rv, ⟨o, ho, hc, m, hd⟩, _⟩ := I.tuple (.inl (.inl e))
      obtain ⟨as, hr, hm⟩ := Da.readsAll I ds _ its ha rv
      exact ⟨_, Reads.tuple ho hc hd hr, hm⟩
  | .dict ds, _, _, h, r => by
    cases h with
    | dct e ha =>
      rename_i a kvs
      cases r
      obtain ⟨_, hsys, vs, rel, o, es, ep, h1, h2, h3, _, pr, _⟩ := (show ObjOk X.prog X.w H s.heap a (.dK kvs) from I.hok a _ e)
      obtain ⟨as, bs, q1, m1, q2, m2⟩ := Da.readsKv I ds kvs vs es.toList ha rel pr
      refine ⟨_, Reads.dict h1 h2.1 h3 q1 q2, fun z => ?_⟩
      rw [List.cons_append] at z
      rcases List.mem_cons.mp z with q | q
      · exact beq_eq_false_iff_ne.mp hsys q.symm
      · rcases List.mem_append.mp q with q | q
        · exact m1 q
        · exact m2 q
theorem Da.readsAll {n : Addr} (I : Inv X pins σ H s) : ∀ (ds : List PyData) (vs : List V) (us : List Value), DaAll n H vs ds → Vals vs us → ∃ as, ReadsAll s.heap us ds as ∧ sysModules ∉ as
  | [], _, _, h, r => by
    cases h
    cases r
    exact ⟨_, ReadsAll.nil, List.not_mem_nil⟩
  | d :: ds, _, _, h, r => by
    cases h with
    | cons h1 h2 =>
      cases r with
      | cons r1 r2 =>
        obtain ⟨as, q1, m1⟩ := Da.reads I d _ _ h1 r1
        obtain ⟨bs, q2, m2⟩ := Da.readsAll I ds _ _ h2 r2
        refine ⟨_, ReadsAll.cons q1 q2, fun z => ?_⟩
        rcases List.mem_append.mp z with q | q
        · exact m1 q
        · exact m2 q
theorem Da.readsKv {n : Addr} (I : Inv X pins σ H s) : ∀ (ds : List (PyData × PyData)) (kvs : List (Key × V)) (vs : List (Key × Value)) (es : List DictEntry), DaKv n H kvs ds → KV kvs vs → Pairs (mixKind X.prog X.w) es vs →
    ∃ as bs, ReadsAll s.heap (es.map (·.key)) (ds.map (·.1)) as ∧ sysModules ∉ as ∧ ReadsAll s.heap (es.map (·.val)) (ds.map (·.2)) bs ∧ sysModules ∉ bs
  | [], _, _, _, h, r, p => by
    cases h
    cases r
    cases p
    exact ⟨_, _, ReadsAll.nil, List.not_mem_nil, ReadsAll.nil, List.not_mem_nil⟩
  | (_, d) :: ds, _, _, _, h, r, p => by
    cases h with
    | cons h1 h2 =>
      cases r with
      | cons r1 r2 =>
        cases p with
        | cons p1 p2 p3 =>
          obtain ⟨as, bs, q1, m1, q2, m2⟩ := Da.readsKv I ds _ _ _ h2 r2 p3
          obtain ⟨cs, q3, m3⟩ := Da.reads I d _ _ h1 r1.2
          refine ⟨_, _, ReadsAll.cons (key_reads (by have e := r1.1; simp only at e; show keyIs _ _ = true; rw [e]; exact p1)) q1, ?_, ReadsAll.cons (by show Reads s.heap (DictEntry.val _) d _; rw [p2]; exact q3) q2, fun z => ?_⟩
          · rw [List.nil_append]
            exact m1
          · rcases List.mem_append.mp z with q | q
            · exact m3 q
            · exact m2 q
end
end
/-- data that repr writes: at most w by weight, nested at most k deep -/
structure Sm (d : PyData) (w k : Nat) : Prop where
  sh : d.showable = true
  dp : d.depth ≤ k
  lv : d.leavesShort 100 = true
  wt : d.weight ≤ w
theorem Sm.mono {d : PyData} {w v k m : Nat} (h : Sm d w k) (hw : w ≤ v) (hk : k ≤ m) : Sm d v m := ⟨h.sh, Nat.le_trans h.dp hk, h.lv, Nat.le_trans h.wt hw⟩
/-- each of them -/
def SmE (ds : List PyData) (k : Nat) : Prop := ∀ d ∈ ds, d.showable = true ∧ d.depth ≤ k ∧ d.leavesShort 100 = true
theorem smE_iff : ∀ (ds : List PyData) (k : Nat), SmE ds k ↔ PyData.showableAll ds = true ∧ PyData.depthAll ds ≤ k ∧ PyData.leavesShortAll 100 ds = true
  | [], k => by
    refine ⟨fun _ => ⟨rfl, Nat.zero_le _, rfl⟩, fun _ d h => absurd h List.not_mem_nil⟩
  | d :: ds, k => by
    have ih := smE_iff ds k
    constructor
    · intro h
      have h1 := h d List.mem_cons_self
      have h2 := ih.mp fun e he => h e (List.mem_cons_of_mem _ he)
      refine ⟨?_, ?_, ?_⟩
      · simp only [PyData.showableAll, h1.1, h2.1, Bool.and_self]
      · simp only [PyData.depthAll]
        omega
      · simp only [PyData.leavesShortAll, h1.2.2, h2.2.2, Bool.and_self]
    · rintro ⟨h1, h2, h3⟩ e he
      simp only [PyData.showableAll, Bool.and_eq_true] at h1
      simp only [PyData.depthAll] at h2
      simp only [PyData.leavesShortAll, Bool.and_eq_true] at h3
      rcases List.mem_cons.mp he with rfl | he
      · exact ⟨h1.1, by omega, h3.1⟩
      · exact ih.mpr ⟨h1.2, by omega, h3.2⟩ e he
theorem smE_iff_depth : ∀ (ds : List PyData) (k : Nat), PyData.depthAll ds ≤ k ↔ ∀ d ∈ ds, d.depth ≤ k
  | [], k => ⟨fun _ d h => absurd h List.not_mem_nil, fun _ => Nat.zero_le _⟩
  | d :: ds, k => by
    have ih := smE_iff_depth ds k
    simp only [PyData.depthAll]
    constructor
    · intro h e he
      rcases List.mem_cons.mp he with rfl | he
      · omega
      · exact ih.mp (by omega) e he
    · intro h
      have h1 := h d List.mem_cons_self
      have h2 := ih.mpr fun e he => h e (List.mem_cons_of_mem _ he)
      omega
theorem wt_app : ∀ xs ys : List PyData, PyData.weightAll (xs ++ ys) = PyData.weightAll xs + PyData.weightAll ys
  | [], ys => by simp [PyData.weightAll]
  | x :: xs, ys => by
    rw [List.cons_append]
    simp only [PyData.weightAll, wt_app xs ys]
    omega
theorem wt_len : ∀ xs : List PyData, xs.length ≤ PyData.weightAll xs
  | [] => by simp [PyData.weightAll]
  | x :: xs => by
    have := wt_len xs
    simp only [PyData.weightAll, List.length_cons]
    omega
theorem wt_mem : ∀ {xs : List PyData} {d : PyData}, d ∈ xs → d.weight + 1 ≤ PyData.weightAll xs
  | [], d, h => absurd h List.not_mem_nil
  | x :: xs, d, h => by
    simp only [PyData.weightAll]
    rcases List.mem_cons.mp h with rfl | h
    · omega
    · have := wt_mem h
      omega
theorem Sm.tup {ds : List PyData} {w k : Nat} (h : SmE ds k) (hw : PyData.weightAll ds ≤ w) : Sm (.tuple ds) w (k + 1) := by
  obtain ⟨a, b, c⟩ := (smE_iff ds k).mp h
  refine ⟨?_, ?_, ?_, ?_⟩
  · simpa only [PyData.showable] using a
  · simp only [PyData.depth]
    omega
  · simpa only [PyData.leavesShort] using c
  · simpa only [PyData.weight] using hw
theorem Sm.lst {ds : List PyData} {w k : Nat} (h : SmE ds k) (hw : PyData.weightAll ds ≤ w) : Sm (.list ds) w (k + 1) := by
  obtain ⟨a, b, c⟩ := (smE_iff ds k).mp h
  refine ⟨?_, ?_, ?_, ?_⟩
  · simpa only [PyData.showable] using a
  · simp only [PyData.depth]
    omega
  · simpa only [PyData.leavesShort] using c
  · simpa only [PyData.weight] using hw
theorem Sm.of_tup {ds : List PyData} {w k : Nat} (h : Sm (.tuple ds) w k) : ∃ j, k = j + 1 ∧ SmE ds j ∧ PyData.weightAll ds ≤ w := by
  obtain ⟨a, b, c, e⟩ := h
  simp only [PyData.showable] at a
  simp only [PyData.depth] at b
  simp only [PyData.leavesShort] at c
  simp only [PyData.weight] at e
  refine ⟨k - 1, by omega, (smE_iff ds _).mpr ⟨a, by omega, c⟩, e⟩
theorem Sm.int {i : Int} (h : i.natAbs < 10 ^ 90) : Sm (.int i) 310 0 := by
  have s := Small.int h
  exact ⟨s.sh, s.dp, s.lv, s.wt⟩
theorem Sm.bool (b : Bool) : Sm (.bool b) 0 0 := ⟨rfl, Nat.le_refl _, rfl, Nat.le_refl _⟩
theorem Sm.none : Sm .none 0 0 := ⟨rfl, Nat.le_refl _, rfl, Nat.le_refl _⟩
theorem Sm.e {d : PyData} {w k : Nat} (h : Sm d w k) : d.showable = true ∧ d.depth ≤ k ∧ d.leavesShort 100 = true := ⟨h.sh, h.dp, h.lv⟩
theorem Sm.dict0 : Sm (.dict []) 0 1 := ⟨rfl, by decide, rfl, Nat.le_refl _⟩
theorem Sm.dict1 {x : Str} {d : PyData} {w v k : Nat} (hx : Sm (.str x) v k) (h : Sm d w k) : Sm (.dict [(.str x, d)]) (v + w + 2) (k + 1) := by
  have a := hx.wt
  have b := h.wt
  have c := hx.dp
  have e := h.dp
  refine ⟨?_, ?_, ?_, ?_⟩
  · simp only [PyData.showable, PyData.showableKv, h.sh, Bool.and_self]
  · simp only [PyData.depth, PyData.depthKv]
    omega
  · have e1 := hx.lv
    simp only [PyData.leavesShort, PyData.leavesShortKv] at e1 ⊢
    rw [e1, h.lv]
    rfl
  · simp only [PyData.weight, PyData.weightKv] at a ⊢
    omega
theorem Sm.long {d : PyData} {w k : Nat} (h : Sm d w k) (hw : w ≤ 150000) : d.shown.length ≤ sizeLine := by
  have e := PyData.shown_le 100 (by decide) d h.lv
  have := h.wt
  rw [sizeLine_eq]
  have : (100 + 2) * d.weight ≤ (100 + 2) * 150000 := Nat.mul_le_mul_left _ (Nat.le_trans h.wt hw)
  omega
section
variable {X : Cx}
/-- isinstance(x, T), x data -/
theorem call_isiD : CallR X (.builtin "isinstance") (fun xs H Q => ∃ n v d T b, xs = [v, .ty T] ∧ Da n H v d ∧ kitB (tyD d) T = some b ∧ Q (.bl b) H) := by
  intro pins s σ H xs us Q I r h
  obtain ⟨n, v, d, T, b, rfl, hd, hk, q⟩ := h
  exact call_isi pins s σ H _ us Q I r ⟨v, .ty T, _, _, b, rfl, .ty T, hd.ty, kit_ty hk, q⟩
/-- repr(x), x data -/
theorem call_reprA (hG : X.A.guards = some []) (hu : X.A.units + 64 < cLine) : CallR X (.builtin "repr") (fun xs H Q => ∃ n v d w k, xs = [v] ∧ Da n H v d ∧ Sm d w k ∧ w ≤ 150000 ∧ k ≤ 60 ∧ Q (.str d.shown) H) := by
  intro pins s σ H xs us Q I r h
  obtain ⟨n, v, d, w, k, rfl, hd, S, hw, hk, q⟩ := h
  obtain ⟨u, rfl, ru⟩ := vals1 r
  have hz := S.long hw
  have hsh := S.sh
  cases v with
  | ref a =>
    obtain ⟨as, rd, nm⟩ := Da.reads I d _ u hd ru
    cases ru
    have hn := S.dp
    exact repr_of_reads' rd S.sh (fun _ => nm) hG (by omega) (fun _ _ z => z) (fun h' u tk hk => ⟨.str _, H, I.kept hk, ⟨_, rfl⟩, q⟩) hz
  | non =>
    cases hd
    cases ru
    exact P.repr_of_none ⟨.str "None", H, I.tok _, ⟨_, rfl⟩, q⟩
  | bl b =>
    cases hd
    cases ru
    exact P.repr_of_bool ⟨.str (if b then "True" else "False"), H, I.tok _, ⟨_, rfl⟩, q⟩
  | int i =>
    cases hd
    obtain ⟨t, rfl⟩ := ru
    simp only [PyData.showable, decide_eq_true_eq] at hsh
    exact P.repr_of_int hsh ⟨.str (toString i), H, I.tok _, ⟨_, rfl⟩, q⟩
  | str x =>
    cases hd
    obtain ⟨t, rfl⟩ := ru
    exact P.repr_of_str ⟨.str (reprText x), H, I.tok _, ⟨_, rfl⟩, q⟩ hz
  | _ => cases hd
/-- t == (), t any tuple -/
theorem op_eq0 (hu : X.A.units < cLine) : OpR X (compareOp .Eq) (fun x y H Q => ∃ a b xs, x = .ref a ∧ y = .ref b ∧ SqT X.K H a xs ∧ SqT X.K H b [] ∧ Q (.bl xs.isEmpty) H) := by
  intro pins s σ H x y v u Q I rx ry h
  obtain ⟨a, b, xs, rfl, rfl, ha, hb, q⟩ := h
  cases rx
  cases ry
  obtain ⟨i1, r1, p1, _⟩ := I.tuple ha
  obtain ⟨i2, r2, p2, _⟩ := I.tuple hb
  cases r2
  refine SeqAt.eq_tupleAt (e := fun _ => true) p1 p2 hu (fun j h1 h2 => absurd h2 (by simp)) ?_
  refine ⟨.bl xs.isEmpty, H, I, ?_, q⟩
  have e := r1.length
  cases xs with
  | nil =>
    cases r1
    rfl
  | cons z zs =>
    cases r1
    simp [L2.RelV]
/-- x is y, x is not y, of truths -/
theorem op_isB : OpR X (compareOp .Is) (fun x y H Q => ∃ a b, x = .bl a ∧ y = .bl b ∧ Q (.bl (a == b)) H) := by
  intro pins s σ H x y v u Q I rx ry h
  obtain ⟨a, b, rfl, rfl, q⟩ := h
  cases rx
  cases ry
  exact wpAny_pure ⟨.bl (a == b), H, I, by cases a <;> cases b <;> rfl, q⟩
theorem op_isnotB : OpR X (compareOp .IsNot) (fun x y H Q => ∃ a b, x = .bl a ∧ y = .bl b ∧ Q (.bl (!(a == b))) H) := by
  intro pins s σ H x y v u Q I rx ry h
  obtain ⟨a, b, rfl, rfl, q⟩ := h
  cases rx
  cases ry
  exact wpAny_pure ⟨.bl (!(a == b)), H, I, by cases a <;> cases b <;> rfl, q⟩
/-- t != (), t any tuple -/
theorem op_ne0 (hu : X.A.units < cLine) : OpR X (compareOp .NotEq) (fun x y H Q => ∃ a b xs, x = .ref a ∧ y = .ref b ∧ SqT X.K H a xs ∧ SqT X.K H b [] ∧ Q (.bl (!xs.isEmpty)) H) := by
  intro pins s σ H x y v u Q I rx ry h
  obtain ⟨a, b, xs, rfl, rfl, ha, hb, q⟩ := h
  cases rx
  cases ry
  obtain ⟨i1, r1, p1, _⟩ := I.tuple ha
  obtain ⟨i2, r2, p2, _⟩ := I.tuple hb
  cases r2
  refine SeqAt.RcNeAt.tuples (e := fun _ => true) p1 p2 hu (fun j h1 h2 => absurd h2 (by simp)) X.prog X.w X.xe _ ?_
  refine ⟨.bl (!xs.isEmpty), H, I, ?_, q⟩
  cases xs with
  | nil =>
    cases r1
    rfl
  | cons z zs =>
    cases r1
    simp [L2.RelV]
/-- a written list stands apart from what the machine keeps by itself -/
def tLstN (t : TA) : TE := fun σ H Q => t σ H fun xs H1 => xs.length ≤ sizeLine ∧ ∀ p, H1 p = none → p ≠ sysModules → Q (.ref p) (upd H1 p (.lst xs))
theorem pe_lstN {es : List Expr} {pos : Pos} {t : TA} (h : PA X es t) : PE X (.List es pos) (tLstN t) := by
  refine ⟨fun pins s σ H Q I hq => ?_⟩
  refine wpAny_List_spliced (thn (h.run pos pins s σ H _ I hq) fun us s1 ⟨xs, H1, I1, r, z, q⟩ => ⟨by rw [← r.length]; exact z, ?_⟩)
  have hf : H1 s1.heap.objs.size = none := I1.hok.fresh (Nat.le_refl _)
  refine ⟨.ref s1.heap.objs.size, upd H1 s1.heap.objs.size (.lst xs), I1.laid (t' := s1.toks) (fun b u e => Heap.get?_push_of_some _ e) (Nat.le_refl _) ?_, rfl, q _ hf (Nat.ne_of_gt I1.big)⟩
  exact ⟨z, us, 0, r, Heap.get?_push_size _ rfl⟩
/-- list(t), t a tuple -/
theorem call_list_ofN : CallR X (.type "list") (fun xs H Q => ∃ p ys, xs = [.ref p] ∧ SqT X.K H p ys ∧ ∀ l, H l = none → l ≠ sysModules → Q (.ref l) (upd H l (.lst ys))) := by
  intro pins s σ H xs us Q I r h
  obtain ⟨p, ys, rfl, hq, q⟩ := h
  obtain ⟨u, rfl, rx⟩ := vals1 r
  cases rx
  have fin : ∀ (its : List Value), Vals ys its → ys.length ≤ sizeLine → ∀ (h' : Heap) (c' : Nat), (∀ b o', s.heap.get? b = some o' → h'.get? b = some o') →
      h'.get? s.heap.objs.size = some { cls := .type "list", dict := none, data := .seq its.toArray c', slots := #[] } → EP X pins σ Q (.ref s.heap.objs.size) { s with heap := h' } := fun its r' hz h' c' kp e =>
    ⟨.ref s.heap.objs.size, _, I.laid (t' := s.toks) kp (Nat.le_refl _) (show ObjOk X.prog X.w _ h' _ (.lst ys) from ⟨hz, its, c', r', e⟩), rfl, q _ (I.hok.fresh (Nat.le_refl _)) (Nat.ne_of_gt I.big)⟩
  obtain ⟨its, r', pl, hz⟩ := I.tuple hq
  have hlen := r'.length
  obtain ⟨o, ho, hc, n, hd⟩ := pl
  exact call_list_seq p (.inr rfl) ho hc hd (fun h' c' kp e => fin its r' hz h' c' kp e) (by simp only [List.size_toArray] <;> omega)
end
/-- two ways that come to the same -/
theorem join2 {c : Bool} {A B : VK → Prop} {Q : VK} (R : V → Hp → Prop) (hA : ∀ Q' : VK, (∀ v H, R v H → Q' v H) → A Q') (hB : ∀ Q' : VK, (∀ v H, R v H → Q' v H) → B Q') (hQ : ∀ v H, R v H → Q v H) : if c = true then A Q else B Q := by
  cases c
  · exact iteF (hB Q hQ)
  · exact iteT (hA Q hQ)
theorem inV_int2 (i j k : Int) : inV (V.int i) [V.int j, V.int k] = (decide (i = j) || decide (i = k)) := by
  rw [Bool.eq_iff_iff]
  simp only [inV, eqV, List.any_cons, List.any_nil, Bool.or_false, Bool.or_eq_true, beq_iff_eq, decide_eq_true_eq]
  constructor
  · rintro (h | h)
    · exact .inl h.symm
    · exact .inr h.symm
  · rintro (h | h)
    · exact .inl h.symm
    · exact .inr h.symm
theorem inV_str2 (z x y : Str) : inV (V.str z) [V.str x, V.str y] = (decide (z = x) || decide (z = y)) := by
  rw [Bool.eq_iff_iff]
  simp only [inV, eqV, List.any_cons, List.any_nil, Bool.or_false, Bool.or_eq_true, beq_iff_eq, decide_eq_true_eq]
  constructor
  · rintro (h | h)
    · exact .inl h.symm
    · exact .inr h.symm
  · rintro (h | h)
    · exact .inl h.symm
    · exact .inr h.symm
theorem wipe1 {σ : L2.St} {k : Nat} {v : Option V} {n : Str} : wipe ((wipe σ ([(n, k)].map (·.2))).set k v) ([(n, k)].map (·.2)) = wipe σ ([(n, k)].map (·.2)) := by
  show ((σ.set k none).set k v).set k none = σ.set k none
  rw [List.set_set, List.set_set]
end NB

set_option Elab.async false
set_option linter.all false
set_option maxRecDepth 100000
namespace K61
open PySem PySem.Spec PyProof.Rows L2 NB
def topS (i : Nat) : Stmt := PySem.Challenge.pw_notbothout_k61_hands_refuse.main.body.getD i (.Pass ⟨0, 0, 0, 0⟩)

/-- all that was tracked stands, but for what is at a -/
def But (a : Addr) (H H' : Hp) : Prop := ∀ b o, b ≠ a → H b = some o → H' b = some o
theorem But.of {a : Addr} {H H' : Hp} (h : Same H H') : But a H H' := fun b o _ e => h b o e
theorem But.trans {a : Addr} {H H1 H2 : Hp} (h : But a H H1) (h' : But a H1 H2) : But a H H2 := fun b o n e => h' b o n (h b o n e)
theorem But.seq {K : PySem.W.Frag} {a l : Addr} {H H' : Hp} {xs : List V} (h : But a H H') (n : l ≠ a) (q : SqL K H l xs) : SqL K H' l xs := by
  rcases q with (q | ⟨o, q⟩) | q
  · exact .inl (.inl (h _ _ n q))
  · exact .inl (.inr ⟨o, h _ _ n q⟩)
  · exact .inr q
theorem But.tup {K : PySem.W.Frag} {a l : Addr} {H H' : Hp} {xs : List V} (h : But a H H') (n : l ≠ a) (q : SqT K H l xs) : SqT K H' l xs := by
  rcases q with (q | ⟨o, q⟩) | q
  · exact .inl (.inl (h _ _ n q))
  · exact .inl (.inr ⟨o, h _ _ n q⟩)
  · exact .inr q
theorem sameT {K : PySem.W.Frag} {l : Addr} {H H' : Hp} {xs : List V} (h : Same H H') (q : SqT K H l xs) : SqT K H' l xs := by
  rcases q with (q | ⟨o, q⟩) | q
  · exact .inl (.inl (h _ _ q))
  · exact .inl (.inr ⟨o, h _ _ q⟩)
  · exact .inr q
theorem same_new {H : Hp} {p : Addr} {o : HO} (h : H p = none) : Same H (upd H p o) := fun b x e => by
  rw [upd_ne (ne_of_none e h)]
  exact e
/-- a cell that was free and is written stands apart from what was -/
theorem same_over {H H' : Hp} {p : Addr} {o : HO} (h : Same H H') (n : H p = none) : Same H (upd H' p o) := fun b x e => by
  rw [upd_ne (ne_of_none e n)]
  exact h b x e

theorem mapGet {α β : Type} {f : α → β} {xs : List α} {i : Nat} {y : β} (h : (xs.map f)[i]? = some y) : ∃ x, xs[i]? = some x ∧ y = f x := by
  rw [List.getElem?_map] at h
  cases e : xs[i]? with
  | none => rw [e] at h; cases h
  | some x => rw [e] at h; exact ⟨x, rfl, (Option.some.inj h).symm⟩

theorem take_map {α β : Type} (f : α → β) (xs : List α) (i : Nat) (y : α) (h : xs[i]? = some y) : (xs.take (i + 1)).map f = (xs.take i).map f ++ [f y] := by
  rw [List.take_add_one, h, List.map_append]
  rfl
theorem take_small {α : Type} {xs : List α} {i : Nat} (h : xs.length ≤ 1000) {β : Type} (f : α → β) : ((xs.take i).map f).length < sizeLine := by
  rw [List.length_map, List.length_take]
  exact Nat.lt_of_le_of_lt (Nat.min_le_right _ _) (small1000 h)

abbrev sPot : Stmt := topS 22
abbrev sTake : Stmt := topS 23
abbrev sOf : Stmt := topS 24
theorem scPot : FnScope ["_law_script", "_law_k", "_law_cell", "_law_great"] ["_law_script", "_law_k"] (defScope sPot) := ⟨rfl, rfl, rfl, by decide +kernel, rfl, by decide +kernel, by decide +kernel⟩
theorem scTake : FnScope ["_law_pot_here", "_law_many", "_law_digit", "_law_prime", "_law_mixed"] ["_law_pot_here", "_law_many"] (defScope sTake) := ⟨rfl, rfl, rfl, by decide +kernel, rfl, by decide +kernel, by decide +kernel⟩
theorem scOf : FnScope ["_law_pot_here", "_law_some"] ["_law_pot_here", "_law_some"] (defScope sOf) := ⟨rfl, rfl, rfl, by decide +kernel, rfl, by decide +kernel, by decide +kernel⟩

/-- a pot out of which at most c numbers were taken by reckoning -/
def PotAt (H : Hp) (a : Addr) (c : Nat) : Prop := ∃ p q r : Int, H a = some (.lst [.int p, .int q, .int r]) ∧ 0 ≤ p ∧ 0 ≤ r ∧ r ≤ c
theorem PotAt.mono {H : Hp} {a : Addr} {c d : Nat} (h : PotAt H a c) (le : c ≤ d) : PotAt H a d := by
  obtain ⟨p, q, r, e, h1, h2, h3⟩ := h
  exact ⟨p, q, r, e, h1, h2, by omega⟩
theorem PotAt.keep {H H' : Hp} {a : Addr} {c : Nat} (h : PotAt H a c) (s : Same H H') : PotAt H' a c := by
  obtain ⟨p, q, r, e, h1, h2, h3⟩ := h
  exact ⟨p, q, r, s _ _ e, h1, h2, h3⟩
theorem PotAt.ne {H : Hp} {a b : Addr} {c : Nat} (h : PotAt H a c) (n : H b = none) : b ≠ a := by
  obtain ⟨p, q, r, e, _⟩ := h
  exact (ne_of_none e n).symm
theorem But.free {a b : Addr} {H H' : Hp} (h : But a H H') (ne : b ≠ a) (n : H' b = none) : H b = none := by
  cases e : H b with
  | none => rfl
  | some o =>
    rw [h b o ne e] at n
    cases n
theorem but_new {a p : Addr} {H H' : Hp} {o : HO} (h : But a H H') (n : H p = none) : But a H (upd H' p o) := fun b x ne e => by
  rw [upd_ne (ne_of_none e n)]
  exact h b x ne e
theorem but_at {a : Addr} {H H' : Hp} {o : HO} (h : But a H H') : But a H (upd H' a o) := fun b x ne e => by
  rw [upd_ne ne]
  exact h b x ne e

theorem prime_at (j : Int) (h0 : 0 ≤ j) (h4 : j < 4) : ∃ pr : Int, atI [V.int 2305843009213693951, V.int 999999999989, V.int 1000000000039, V.int 67280421310721] j = some (.int pr) ∧ 0 < pr ∧ pr < 2 ^ 62 := by
  have : j = 0 ∨ j = 1 ∨ j = 2 ∨ j = 3 := by omega
  rcases this with rfl | rfl | rfl | rfl
  · exact ⟨_, atI_nat (j := 0) rfl, by decide, by decide⟩
  · exact ⟨_, atI_nat (j := 1) rfl, by decide, by decide⟩
  · exact ⟨_, atI_nat (j := 2) rfl, by decide, by decide⟩
  · exact ⟨_, atI_nat (j := 3) rfl, by decide, by decide⟩

section
variable {P : Program} {w : World} {K : PySem.W.Frag} {mg : Str → Option Value} {base : Heap}

def spPot (K : PySem.W.Frag) : Sp := fun vs H Q _ => ∃ (a : Addr) (ns : List Int) (k : Nat), vs = [.ref a, .int k] ∧ SqL K H a (ns.map V.int) ∧ k ≤ 1000 ∧
  ∀ H' p, Same H H' → H p = none → PotAt H' p 0 → Q (.ref p) H'
theorem ok_pot {f : Addr} {fd : FuncData} {k : Nat} (F : Fun K "_law_pot" "_law_pot" sPot f fd) (ml : mg "len" = none) (ma : mg "abs" = none) (mi : mg "int" = none) : FnOk P w K mg base CX0 (k + 1) f fd ["_law_script", "_law_k"] (spPot K) := by
  refine F.ok scPot (fun vs H Q E h => ?_) (fun cdv A outer s H vs Q E hr h => ?_)
  · obtain ⟨a, ns, k, rfl, _⟩ := h
    rfl
  · obtain ⟨a, ns, k, rfl, hS, hk, q⟩ := h
    refine ⟨_, pss_cons (ps_set (i := 2) scPot.nd rfl (.inl rfl) (pe_ifExp (pt_cmpR op_lt (pv 1) (pe_callB call_len_seq (by rfl) ml PySem.boot_len (pa_cons (pv 0) pa_nil)) (nomark _)) (pe_ix ix_list (pv 0) (pv 1) (fun _ _ => rfl)) (pe_op op_add (pe_op op_mul pe_int (pv 1)) pe_int)))
      (pss_cons (ps_set (i := 3) scPot.nd rfl (.inl rfl) (pe_op op_mul (pe_op op_mod (pe_callB call_abs (by rfl) ma (by decide +kernel) (pa_cons (pv 2) pa_nil)) (pe_op op_powW (pe_op op_pow pe_int pe_int) pe_int))
          (pe_callTy call_int1 (by rfl) mi (by decide +kernel) (pa_cons (pe_cmpR op_ge (pe_callB call_abs (by rfl) ma (by decide +kernel) (pa_cons (pv 2) pa_nil)) (pe_op op_pow pe_int pe_int) (nomark _)) pa_nil))))
      (pss_one (ps_ret (pe_lst (pa_cons (pv 3) (pa_cons (pe_op op_mod (pe_op op_mul (pe_op op_add (pe_op op_add (pe_op op_mod (pv 2) pe_int) (pe_op op_mul (pe_op op_mul pe_int (pv 1)) (pv 1))) pe_int) pe_int) pe_int) (pa_cons pe_int pa_nil))))))), ?_⟩
    have k1 : -(2 ^ 64) < (k : Int) ∧ (k : Int) < 2 ^ 64 := by omega
    have big : (0 : Int) < (10 ^ (60 : Int).toNat) ^ (5 : Int).toNat := by decide +kernel
    have one : ∀ b : Bool, -(2 ^ 64) < (if b = true then (1 : Int) else 0) ∧ (if b = true then (1 : Int) else 0) < 2 ^ 64 := fun b => by cases b <;> decide
    have nn : ∀ (x : Int) (b : Bool), 0 ≤ x % (10 ^ (60 : Int).toNat) ^ (5 : Int).toNat * (if b = true then (1 : Int) else 0) := fun x b => Int.mul_nonneg (Int.emod_nonneg _ (Int.ne_of_gt big)) (by cases b <;> decide)
    refine ⟨.int k, rfl, .ref a, rfl, a, _, rfl, .inl hS, _, _, rfl, rfl, _, rfl, ite2 (fun c => ?_) (fun c => ?_)⟩
    · have c' := of_decide_eq_true c
      rw [List.length_map] at c'
      have lt : k < ns.length := by omega
      refine ⟨.ref a, rfl, .int k, rfl, a, _, k, .int ns[k], rfl, rfl, hS, atI_nat (by rw [List.getElem?_map, List.getElem?_eq_getElem lt]; rfl), ?_⟩
      refine ⟨.int ns[k], rfl, _, rfl, 10, 60, rfl, rfl, ⟨by decide, by decide, by decide⟩, _, 5, rfl, rfl, ⟨by decide, by decide +kernel⟩, _, _, rfl, rfl, big, .int ns[k], rfl, _, rfl, 10, 18, rfl, rfl, ⟨by decide, by decide, by decide⟩, _, _, rfl, rfl, .inr ⟨_, rfl, _, _, rfl, rfl, .inr (one _), ?_⟩⟩
      refine ⟨_, rfl, .int ns[k], rfl, _, 2305843009213693951, rfl, rfl, (show (0 : Int) < 2305843009213693951 by decide), .int k, rfl, 7919, k, rfl, rfl, .inl ⟨by decide, by decide⟩, .int k, rfl, _, k, rfl, rfl, .inr k1, _, _, rfl, rfl, _, 17, rfl, rfl, _, 48271, rfl, rfl, .inr ⟨by decide, by decide⟩, _, 2305843009213693921, rfl, rfl, (show (0 : Int) < 2305843009213693921 by decide), (show 3 ≤ sizeLine by decide), fun p np => ?_⟩
      exact q _ p (same_new np) np ⟨_, _, 0, upd_same, nn _ _, Int.le_refl _, Int.le_refl _⟩
    · refine ⟨.int k, rfl, 7, _, rfl, rfl, .inl ⟨by decide, by decide⟩, _, 3, rfl, rfl, ?_⟩
      refine ⟨_, rfl, _, rfl, 10, 60, rfl, rfl, ⟨by decide, by decide, by decide⟩, _, 5, rfl, rfl, ⟨by decide, by decide +kernel⟩, _, _, rfl, rfl, big, _, rfl, _, rfl, 10, 18, rfl, rfl, ⟨by decide, by decide, by decide⟩, _, _, rfl, rfl, .inr ⟨_, rfl, _, _, rfl, rfl, .inr (one _), ?_⟩⟩
      refine ⟨_, rfl, _, rfl, _, 2305843009213693951, rfl, rfl, (show (0 : Int) < 2305843009213693951 by decide), .int k, rfl, 7919, k, rfl, rfl, .inl ⟨by decide, by decide⟩, .int k, rfl, _, k, rfl, rfl, .inr k1, _, _, rfl, rfl, _, 17, rfl, rfl, _, 48271, rfl, rfl, .inr ⟨by decide, by decide⟩, _, 2305843009213693921, rfl, rfl, (show (0 : Int) < 2305843009213693921 by decide), (show 3 ≤ sizeLine by decide), fun p np => ?_⟩
      exact q _ p (same_new np) np ⟨_, _, 0, upd_same, nn _ _, Int.le_refl _, Int.le_refl _⟩

/-- a drawn number -/
def spTake : Sp := fun vs H Q _ => ∃ (a : Addr) (m : Int) (c : Nat), vs = [.ref a, .int m] ∧ PotAt H a c ∧ 1 ≤ m ∧ m < 2 ^ 200 ∧ c < 1000000 ∧
  ∀ (d : Int) H', But a H H' → PotAt H' a (c + 1) → 0 ≤ d → d < m → Q (.int d) H'
theorem ok_take {f : Addr} {fd : FuncData} {k : Nat} (F : Fun K "_law_take" "_law_take" sTake f fd) : FnOk P w K mg base CX0 (k + 1) f fd ["_law_pot_here", "_law_many"] spTake := by
  refine F.ok scTake (fun vs H Q E h => ?_) (fun cdv A outer s H vs Q E hr h => ?_)
  · obtain ⟨a, m, c, rfl, _⟩ := h
    rfl
  · obtain ⟨a, m, c, rfl, ⟨p0, p1, p2, ea, n0, n2, l2⟩, m1, m2, hc, q⟩ := h
    refine ⟨_, pss_cons (ps_if (pt_cmpR op_gt (pe_ix ix_list (pv 0) pe_int (fun _ _ => rfl)) pe_int (nomark _))
        (pss_cons (ps_set (i := 2) scTake.nd rfl (.inl rfl) (pe_op op_mod (pe_ix ix_list (pv 0) pe_int (fun _ _ => rfl)) (pv 1)))
        (pss_cons (ps_asg (pe_op op_fdivW (pe_ix ix_list (pv 0) pe_int (fun _ _ => rfl)) (pv 1)) (pg_sub (pv 0) pe_int set_list))
        (pss_one (ps_ret (pv 2))))) pss_nil)
      (pss_cons (ps_asg (pe_op op_add (pe_ix ix_list (pv 0) pe_int (fun _ _ => rfl)) pe_int) (pg_sub (pv 0) pe_int set_list))
      (pss_cons (ps_set (i := 3) scTake.nd rfl (.inl rfl) (pe_ix ix_list (pe_lst (pa_cons pe_int (pa_cons pe_int (pa_cons pe_int (pa_cons pe_int pa_nil))))) (pe_op op_mod (pe_ix ix_list (pv 0) pe_int (fun _ _ => rfl)) pe_int) (fun _ _ => rfl)))
      (pss_cons (ps_set (i := 4) scTake.nd rfl (.inl rfl) (pe_op op_mod (pe_op op_add (pe_op op_add (pe_ix ix_list (pv 0) pe_int (fun _ _ => rfl)) (pe_op op_mul (pe_op op_mul pe_int (pe_ix ix_list (pv 0) pe_int (fun _ _ => rfl))) (pe_ix ix_list (pv 0) pe_int (fun _ _ => rfl)))) (pe_op op_mul pe_int (pe_ix ix_list (pv 0) pe_int (fun _ _ => rfl)))) (pv 3)))
      (pss_cons (ps_set (i := 4) scTake.nd rfl (.inl rfl) (pe_op op_mod (pe_op op_pow (pv 4) pe_int) (pv 3)))
      (pss_one (ps_ret (pe_op op_mod (pe_op op_add (pe_op op_fdiv (pv 4) pe_int) (pe_op op_mul (pe_op op_fdiv (pv 4) pe_int) pe_int)) (pv 1)))))))), ?_⟩
    have mpos : (0 : Int) < m := by omega
    refine ⟨.ref a, rfl, a, _, 0, .int p0, rfl, rfl, .inl (.inl ea), atI_nat (j := 0) rfl, _, 0, rfl, rfl, _, rfl, ite2 (fun _ => ?_) (fun _ => ?_)⟩
    · refine ⟨.ref a, rfl, a, _, 0, .int p0, rfl, rfl, .inl (.inl ea), atI_nat (j := 0) rfl, .int m, rfl, p0, m, rfl, rfl, mpos, ?_⟩
      refine ⟨.ref a, rfl, a, _, 0, .int p0, rfl, rfl, .inl (.inl ea), atI_nat (j := 0) rfl, .int m, rfl, p0, m, rfl, rfl, wide_div (b := 200) mpos (by omega) (by decide) (by decide), ?_⟩
      refine ⟨.ref a, rfl, a, _, 0, 0, rfl, rfl, ea, rfl, ?_⟩
      refine ⟨.int (p0 % m), rfl, ?_⟩
      refine q _ _ (but_at (fun _ _ _ e => e)) ⟨p0 / m, p1, p2, upd_same, Int.ediv_nonneg n0 (by omega), n2, by omega⟩ (Int.emod_nonneg _ (by omega)) (Int.emod_lt_of_pos _ mpos)
    · refine ⟨.ref a, rfl, a, _, 2, .int p2, rfl, rfl, .inl (.inl ea), atI_nat (j := 2) rfl, p2, 1, rfl, rfl, ?_⟩
      refine ⟨.ref a, rfl, a, _, 2, 2, rfl, rfl, ea, rfl, ?_⟩
      obtain ⟨pr, epr, pp, pl⟩ := prime_at ((p2 + 1) % 4) (Int.emod_nonneg _ (by decide)) (Int.emod_lt_of_pos _ (by decide))
      have ea2 : (upd H a (.lst [.int p0, .int p1, .int (p2 + 1)])) a = some (.lst [.int p0, .int p1, .int (p2 + 1)]) := upd_same
      refine ⟨(show 4 ≤ sizeLine by decide), fun l nl => ?_⟩
      have nla : a ≠ l := ne_of_none ea2 nl
      have ea3 : (upd (upd H a (.lst [.int p0, .int p1, .int (p2 + 1)])) l (.lst [V.int 2305843009213693951, V.int 999999999989, V.int 1000000000039, V.int 67280421310721])) a = some (.lst [.int p0, .int p1, .int (p2 + 1)]) := (upd_ne nla).trans ea2
      refine ⟨.ref a, rfl, a, _, 2, .int (p2 + 1), rfl, rfl, .inl (.inl ea3), atI_nat (j := 2) rfl, p2 + 1, 4, rfl, rfl, (show (0 : Int) < 4 by decide), l, _, (p2 + 1) % 4, .int pr, rfl, rfl, .inl (.inl upd_same), epr, ?_⟩
      have b2 : -(2 ^ 64) < p2 + 1 ∧ p2 + 1 < 2 ^ 64 := by omega
      refine ⟨.ref a, rfl, a, _, 1, .int p1, rfl, rfl, .inl (.inl ea3), atI_nat (j := 1) rfl, .ref a, rfl, a, _, 2, .int (p2 + 1), rfl, rfl, .inl (.inl ea3), atI_nat (j := 2) rfl, 7919, p2 + 1, rfl, rfl, .inl ⟨by decide, by decide⟩, .ref a, rfl, a, _, 2, .int (p2 + 1), rfl, rfl, .inl (.inl ea3), atI_nat (j := 2) rfl, _, p2 + 1, rfl, rfl, .inr b2, _, _, rfl, rfl,
        .ref a, rfl, a, _, 2, .int (p2 + 1), rfl, rfl, .inl (.inl ea3), atI_nat (j := 2) rfl, 65537, p2 + 1, rfl, rfl, .inl ⟨by decide, by decide⟩, _, _, rfl, rfl, .int pr, rfl, _, pr, rfl, rfl, pp, ?_⟩
      have mx : ∀ e : Int, (e % pr).natAbs < 2 ^ 64 := fun e => by
        have h1 := Int.emod_nonneg e (Int.ne_of_gt pp)
        have h2 := Int.emod_lt_of_pos e pp
        omega
      refine ⟨_, rfl, _, 5, rfl, rfl, ⟨by decide, by decide, mx _⟩, .int pr, rfl, _, pr, rfl, rfl, pp, ?_⟩
      refine ⟨_, rfl, _, 4099, rfl, rfl, ⟨by decide, by decide⟩, _, rfl, _, 1000003, rfl, rfl, ⟨by decide, by decide⟩, _, 7, rfl, rfl, .inr ⟨by decide, by decide⟩, _, _, rfl, rfl, .int m, rfl, _, m, rfl, rfl, mpos, ?_⟩
      refine q _ _ ?_ ⟨p0, p1, p2 + 1, ea3, n0, by omega, by omega⟩ (Int.emod_nonneg _ (by omega)) (Int.emod_lt_of_pos _ mpos)
      exact but_new (but_at (fun _ _ _ e => e)) (by rw [upd_ne nla.symm] at nl; exact nl)
end

/-- a def that is known by its promise -/
structure Kn (P : Program) (w : World) (K : PySem.W.Frag) (mg : Str → Option Value) (base : Heap) (k : Nat) (x : Str) (ps : List Str) (sp : Sp) (f : Addr) (fd : FuncData) : Prop where
  ok : FnOk P w K mg base CX0 k f fd ps sp
  gl : mg x = some (.ref f)
  kp : PySem.W.keepIn K (.ref f) = true
  bi : Binds K fd ps []
theorem pe_kn {X : Cx} {k j : Nat} {x : Str} {ps : List Str} {sp : Sp} {f : Addr} {fd : FuncData} {p pos : Pos} {e : Expr} {es : List Expr} {t : TA} (C : Kn X.prog X.w X.K X.mg X.base k x ps sp f fd) (hr : Room j X.A) (hj : k ≤ j) (ha : PA X (e :: es) t) (hg : Gl X x := by rfl) (hdb : (x == ("__debug__" : Str)) = false := by decide)
    (he : starEach (e :: es) X.env = (false, eval e X.env) :: starEach es X.env := by rfl) (hpl : (backTo pos (starEach es X.env)).any (·.1) = false := by rfl) :
    PE X (.Call (.Name x p) (e :: es) [] pos) (tCall sp [] E0 t) := pe_call C.ok (hr.mono hj) hg C.gl C.kp C.bi .nil pass0 ha hdb he hpl

theorem But.tupP {K : PySem.W.Frag} {a t : Addr} {H H' : Hp} {c : Nat} {xs : List V} (b : But a H H') (p : PotAt H a c) (q : SqT K H t xs) : SqT K H' t xs := by
  obtain ⟨_, _, _, e, _⟩ := p
  rcases q with (q | ⟨o, q⟩) | q
  · exact .inl (.inl (b _ _ (ne_of q e (by intro z; cases z)) q))
  · exact .inl (.inr ⟨o, b _ _ (ne_of q e (by intro z; cases z)) q⟩)
  · exact .inr q
/-- places, or tops -/
def Pl (xs : List Int) : Prop := ∀ x ∈ xs, 0 ≤ x ∧ x < 10 ^ 30
theorem Pl.snoc {xs : List Int} {x : Int} (h : Pl xs) (h0 : 0 ≤ x) (h1 : x < 10 ^ 30) : Pl (xs ++ [x]) := fun y hy => by
  rcases List.mem_append.mp hy with q | q
  · exact h y q
  · rw [List.mem_singleton.mp q]
    exact ⟨h0, h1⟩

section
variable {P : Program} {w : World} {K : PySem.W.Frag} {mg : Str → Option Value} {base : Heap}

/-- one of some -/
def spOf (K : PySem.W.Frag) : Sp := fun vs H Q _ => ∃ (a l : Addr) (xs : List V) (c : Nat), vs = [.ref a, .ref l] ∧ PotAt H a c ∧ l ≠ a ∧ (SqL K H l xs ∨ SqT K H l xs) ∧ 1 ≤ xs.length ∧ xs.length ≤ 1000000 ∧ c < 1000000 ∧
  ∀ x H', x ∈ xs → But a H H' → PotAt H' a (c + 1) → Q x H'
theorem ok_of {f fT : Addr} {fd fdT : FuncData} {k : Nat} (F : Fun K "_law_of" "_law_of" sOf f fd) (T : Kn P w K mg base 1 "_law_take" ["_law_pot_here", "_law_many"] spTake fT fdT) (ml : mg "len" = none) : FnOk P w K mg base CX0 (k + 2) f fd ["_law_pot_here", "_law_some"] (spOf K) := by
  refine F.ok scOf (fun vs H Q E h => ?_) (fun cdv A outer s H vs Q E hr h => ?_)
  · obtain ⟨a, l, xs, c, rfl, _⟩ := h
    rfl
  · obtain ⟨a, l, xs, c, rfl, pa, ne, hl, l1, l2, hc, q⟩ := h
    refine ⟨_, pss_one (ps_ret (pe_ix ix_seq (pv 1) (pe_kn T hr (Nat.le_add_left 1 k) (pa_cons (pv 0) (pa_cons (pe_callB call_len_seq (by rfl) ml PySem.boot_len (pa_cons (pv 1) pa_nil)) pa_nil))) (fun _ _ => rfl))), ?_⟩
    refine ⟨.ref l, rfl, .ref a, rfl, .ref l, rfl, l, xs, rfl, hl, a, _, c, rfl, pa, by omega, ?_, hc, fun d H' b p' d0 dm => ?_⟩
    · have : (xs.length : Int) ≤ 1000000 := by omega
      exact Int.lt_of_le_of_lt this (by decide)
    have lt : d.toNat < xs.length := by omega
    have ei : atI xs d = some xs[d.toNat] := by
      have := atI_nat (xs := xs) (j := d.toNat) (List.getElem?_eq_getElem lt)
      rwa [Int.toNat_of_nonneg d0] at this
    have fin := q xs[d.toNat] H' (List.getElem_mem lt) b p'
    rcases hl with h | h
    · exact .inl ⟨l, xs, d, _, rfl, rfl, b.seq ne h, ei, fin⟩
    · exact .inr (.inl ⟨l, xs, d, _, rfl, rfl, b.tup ne h, ei, fin⟩)

/-- none beyond its top -/
def Le (st tops : List Int) : Prop := ∀ (i : Nat) (x t : Int), st[i]? = some x → tops[i]? = some t → x ≤ t
theorem Le.snoc {st tops : List Int} {x t : Int} (h : Le st tops) (e : tops[st.length]? = some t) (l : x ≤ t) : Le (st ++ [x]) tops := fun i y u h1 h2 => by
  rcases Nat.lt_or_ge i st.length with q | q
  · rw [List.getElem?_append_left q] at h1
    exact h i y u h1 h2
  · rw [List.getElem?_append_right q] at h1
    have e0 : i - st.length = 0 := by
      rcases Nat.eq_zero_or_pos (i - st.length) with z | z
      · exact z
      · rw [List.getElem?_eq_none (by simp only [List.length_cons, List.length_nil]; omega)] at h1
        cases h1
    have ei : i = st.length := by omega
    subst ei
    rw [e0] at h1
    cases h1
    rw [e] at h2
    cases h2
    exact l
end

section
variable {P : Program} {w : World} {K : PySem.W.Frag} {mg : Str → Option Value} {base : Heap}

theorem pot_upd {H : Hp} {a p : Addr} {c : Nat} {o : HO} (h : PotAt H a c) (n : p ≠ a) : PotAt (upd H p o) a c := by
  obtain ⟨x, y, z, e, r⟩ := h
  exact ⟨x, y, z, (upd_ne n.symm).trans e, r⟩
theorem e15 : (10 : Int) ^ (15 : Int).toNat = 1000000000000000 := by decide
theorem e30 : (10 : Int) ^ (30 : Int).toNat = 10 ^ 30 := by decide

end
end K61

set_option Elab.async false
set_option linter.all false
set_option maxRecDepth 100000
namespace K61
open PySem PySem.Spec PyProof.Rows L2 NB
def Keep (H H' : Hp) : Prop := ∀ b o, (∀ xs, o ≠ .lst xs) → H b = some o → H' b = some o
theorem Keep.refl (H : Hp) : Keep H H := fun _ _ _ e => e
theorem Keep.trans {H H1 H2 : Hp} (a : Keep H H1) (b : Keep H1 H2) : Keep H H2 := fun c o n e => b c o n (a c o n e)
theorem Keep.same {H H' : Hp} (h : Same H H') : Keep H H' := fun b o _ e => h b o e
theorem Keep.but {a : Addr} {H H' : Hp} {c : Nat} (h : But a H H') (p : PotAt H a c) : Keep H H' := fun b o n e => by
  obtain ⟨x, y, z, ea, _⟩ := p
  exact h b o (fun q => n _ (by rw [q, ea] at e; exact (Option.some.inj e).symm)) e
theorem Keep.upd {H : Hp} {l : Addr} {o : HO} {xs : List V} (e : H l = some (.lst xs)) : Keep H (upd H l o) := fun b x n q => by
  rw [upd_ne (fun z => n xs (by rw [z, e] at q; exact (Option.some.inj q).symm))]
  exact q
theorem Keep.tup {H H' : Hp} {p : Addr} {xs : List V} (k : Keep H H') (e : H p = some (.tup xs)) : H' p = some (.tup xs) := k _ _ (fun _ q => by cases q) e
theorem Keep.sq {K : PySem.W.Frag} {H H' : Hp} {p : Addr} {xs : List V} (k : Keep H H') (e : SqT K H p xs) : SqT K H' p xs := by
  rcases e with (q | ⟨o, q⟩) | q
  · exact .inl (.inl (k _ _ (fun _ q => by cases q) q))
  · exact .inl (.inr ⟨o, k _ _ (fun _ q => by cases q) q⟩)
  · exact .inr q

abbrev Sd := Nat × Bool × Int
abbrev Rl := Sd × Sd
def word (b : Bool) : Str := if b then "from" else "to"
def SideAt (H : Hp) (p : Addr) (s : Sd) : Prop := H p = some (.tup [.int s.1, .str (word s.2.1), .int s.2.2])
def RuleAt (H : Hp) (r : Addr) (q : Rl) : Prop := ∃ p1 p2, H r = some (.tup [.ref p1, .ref p2]) ∧ SideAt H p1 q.1 ∧ SideAt H p2 q.2
theorem SideAt.keep {H H' : Hp} {p : Addr} {s : Sd} (h : SideAt H p s) (k : Keep H H') : SideAt H' p s := k.tup h
theorem RuleAt.keep {H H' : Hp} {p : Addr} {q : Rl} (h : RuleAt H p q) (k : Keep H H') : RuleAt H' p q := by
  obtain ⟨p1, p2, e, h1, h2⟩ := h
  exact ⟨p1, p2, k.tup e, h1.keep k, h2.keep k⟩
theorem word_in (b : Bool) : inV (.str (word b)) [.str "from", .str "to"] = true := by cases b <;> decide +kernel
theorem word_from : word true = "from" := rfl

end K61

set_option Elab.async false
set_option linter.all false
set_option maxRecDepth 100000
namespace K61
open PySem PySem.Spec PyProof.Rows L2 NB

/-! ### letters, of anything -/
def wholeD : PyData → Bool
  | .int _ => true
  | _ => false
def countD : PyData → Bool
  | .int i => decide (0 ≤ i)
  | _ => false
def noneD : PyData → Bool
  | .none => true
  | _ => false
def posD : PyData → Bool
  | .int i => decide (1 ≤ i)
  | _ => false
def standD : PyData → Bool
  | .tuple ps => (decide (1 ≤ ps.length) && decide (ps.length ≤ 12)) && ps.all countD
  | _ => false
def wishD : PyData → Bool
  | .tuple ds => decide (ds.length = 2) && (posD (ds.getD 0 .none) && standD (ds.getD 1 .none))
  | _ => false
def strIs (z : Str) : PyData → Bool
  | .str x => decide (x = z)
  | _ => false
def letterD : PyData → Bool
  | .tuple ds => if ds.length = 2 then strIs "word" (ds.getD 0 .none) && wishD (ds.getD 1 .none)
      else decide (ds.length = 4) && ((strIs "ask" (ds.getD 0 .none) || strIs "leave" (ds.getD 0 .none)) && ((countD (ds.getD 1 .none) && countD (ds.getD 2 .none)) && (noneD (ds.getD 3 .none) || wishD (ds.getD 3 .none))))
  | _ => false
theorem tup_or (d : PyData) : (∃ ds, d = .tuple ds) ∨ isTupD d = false := by
  cases d with
  | tuple ds => exact .inl ⟨ds, rfl⟩
  | _ => exact .inr rfl
theorem not_tup {d : PyData} (h : isTupD d = false) : wishD d = false ∧ letterD d = false ∧ standD d = false := by
  cases d with
  | tuple ds => cases h
  | _ => exact ⟨rfl, rfl, rfl⟩
theorem all_take {α : Type} (g : α → Bool) (xs : List α) (i : Nat) (y : α) (h : xs[i]? = some y) : ((xs.take (i + 1)).map g).map V.bl = ((xs.take i).map g).map V.bl ++ [V.bl (g y)] := by
  rw [List.take_add_one, h, List.map_append, List.map_append]
  rfl
theorem all_id {α : Type} (g : α → Bool) (xs : List α) : (xs.map g).all id = xs.all g := by
  rw [List.all_map]
  rfl
section
variable {P : Program} {w : World} {K : PySem.W.Frag} {mg : Str → Option Value} {base : Heap}
/-- a look at data that leaves all as it is -/
def spLook (g : PyData → Bool) : Sp := fun vs H Q _ => ∃ (n : Addr) (v : V) (d : PyData), vs = [v] ∧ Da n H v d ∧ ∀ H', Same H H' → Q (.bl (g d)) H'
abbrev a_is_whole : Stmt := topS 8
abbrev n_is_whole : List Str := ["thing"]
theorem sc_is_whole : FnScope n_is_whole ["thing"] (defScope a_is_whole) := ⟨rfl, rfl, rfl, by decide +kernel, rfl, by decide +kernel, by decide +kernel⟩
set_option maxHeartbeats 8000000 in
theorem ok_is_whole {f  : Addr} {fd  : FuncData} {k : Nat}  (F : Fun K "is_whole" "is_whole" a_is_whole f fd)   (m_bool : mg "bool" = none) (m_int : mg "int" = none) (m_isinstance : mg "isinstance" = none) : FnOk P w K mg base CX0 (k + 1) f fd ["thing"] (spLook wholeD) := by
  refine F.ok sc_is_whole (fun vs H Q E h => ?_) (fun cdv A outer s H vs Q E hr h => ?_)
  · obtain ⟨n, v, d, rfl, _⟩ := h
    rfl
  · obtain ⟨n, v, d, rfl, hd, q⟩ := h
    refine ⟨_, (pss_one (ps_ret (pe_and (pe_callB call_isiD (by rfl) m_isinstance (by decide +kernel) (pa_cons (pv 0) (pa_cons (pe_bltn (v := .ty "int") (u := .type "int") (by rfl) m_int (by decide +kernel) rfl) pa_nil))) (pe_one (pe_not (pe_callB call_isiD (by rfl) m_isinstance (by decide +kernel) (pa_cons (pv 0) (pa_cons (pe_bltn (v := .ty "bool") (u := .type "bool") (by rfl) m_bool (by decide +kernel) rfl) pa_nil)))))))), ?_⟩
    refine ⟨v, rfl, n, v, d, "int", _, rfl, hd, kit_int d, _, rfl, ?_⟩
    cases hd with
    | int i => exact iteT ⟨_, rfl, n, _, _, "bool", _, rfl, .int i, kit_bool _, _, rfl, q H (Same.refl H)⟩
    | bl b => exact iteT ⟨_, rfl, n, _, _, "bool", _, rfl, .bl b, kit_bool _, _, rfl, q H (Same.refl H)⟩
    | _ => exact iteF (q H (Same.refl H))
abbrev a_is_count : Stmt := topS 10
abbrev n_is_count : List Str := ["thing"]
theorem sc_is_count : FnScope n_is_count ["thing"] (defScope a_is_count) := ⟨rfl, rfl, rfl, by decide +kernel, rfl, by decide +kernel, by decide +kernel⟩
set_option maxHeartbeats 8000000 in
theorem ok_is_count {f fWh : Addr} {fd fdWh : FuncData} {k : Nat}  (F : Fun K "is_count" "is_count" a_is_count f fd) (Wh : Kn P w K mg base 1 "is_whole" ["thing"] (spLook wholeD) fWh fdWh)   : FnOk P w K mg base CX0 (k + 2) f fd ["thing"] (spLook countD) := by
  refine F.ok sc_is_count (fun vs H Q E h => ?_) (fun cdv A outer s H vs Q E hr h => ?_)
  · obtain ⟨n, v, d, rfl, _⟩ := h
    rfl
  · obtain ⟨n, v, d, rfl, hd, q⟩ := h
    refine ⟨_, (pss_one (ps_ret (pe_and (pe_kn Wh hr (by omega) (pa_cons (pv 0) pa_nil)) (pe_one (pe_cmpR op_ge (pv 0) pe_int (nomark _)))))), ?_⟩
    refine ⟨v, rfl, n, v, d, rfl, hd, fun H1 s1 => ⟨_, rfl, ?_⟩⟩
    cases hd with
    | int i => exact iteT ⟨_, rfl, i, 0, rfl, rfl, q H1 s1⟩
    | _ => exact iteF (q H1 s1)
abbrev a_is_wish : Stmt := topS 11
abbrev n_is_wish : List Str := ["thing", "number", "standing", "place"]
theorem sc_is_wish : FnScope n_is_wish ["thing"] (defScope a_is_wish) := ⟨rfl, rfl, rfl, by decide +kernel, rfl, by decide +kernel, by decide +kernel⟩
set_option maxHeartbeats 8000000 in
theorem ok_is_wish {f fWh fCo : Addr} {fd fdWh fdCo : FuncData} {k : Nat} {t1 : Tok} (F : Fun K "is_wish" "is_wish" a_is_wish f fd) (Wh : Kn P w K mg base 1 "is_whole" ["thing"] (spLook wholeD) fWh fdWh) (Co : Kn P w K mg base 2 "is_count" ["thing"] (spLook countD) fCo fdCo) (gv1 : mg "MOST_THINGS" = some (.int 12 t1)) (m_all : mg "all" = none) (m_isinstance : mg "isinstance" = none) (m_len : mg "len" = none) (m_tuple : mg "tuple" = none) : FnOk P w K mg base CX0 (k + 3) f fd ["thing"] (spLook wishD) := by
  refine F.ok sc_is_wish (fun vs H Q E h => ?_) (fun cdv A outer s H vs Q E hr h => ?_)
  · obtain ⟨n, v, d, rfl, _⟩ := h
    rfl
  · obtain ⟨n, v, d, rfl, hd, q⟩ := h
    refine ⟨_, (pss_cons (ps_if (PW.pt (pw_or (pt_not (pt_val (pe_callB call_isiD (by rfl) m_isinstance (by decide +kernel) (pa_cons (pv 0) (pa_cons (pe_bltn (v := .ty "tuple") (u := .type "tuple") (by rfl) m_tuple (by decide +kernel) rfl) pa_nil))))) (pw_or1 (pt_cmpR op_ne (pe_callB call_len_seq (by rfl) m_len (by decide +kernel) (pa_cons (pv 0) pa_nil)) pe_int (nomark _))))) (pss_one (ps_ret pe_bl)) pss_nil)
      (pss_cons (ps_asg (pv 0) (pg_tup rfl (pgs_cons (pg_name (i := 1) sc_is_wish.nd rfl (.inl rfl)) (pgs_cons (pg_name (i := 2) sc_is_wish.nd rfl (.inl rfl)) pgs_nil))))
      (pss_cons (ps_if (PW.pt (pw_or (pt_not (pt_val (pe_kn Wh hr (by omega) (pa_cons (pv 1) pa_nil)))) (pw_or1 (pt_cmpR op_lt (pv 1) pe_int (nomark _))))) (pss_one (ps_ret pe_bl)) pss_nil)
      (pss_cons (ps_if (PW.pt (pw_or (pt_not (pt_val (pe_callB call_isiD (by rfl) m_isinstance (by decide +kernel) (pa_cons (pv 2) (pa_cons (pe_bltn (v := .ty "tuple") (u := .type "tuple") (by rfl) m_tuple (by decide +kernel) rfl) pa_nil))))) (pw_or1 (pt_not (pt_chain op_le op_le pe_int (pe_callB call_len_seq (by rfl) m_len (by decide +kernel) (pa_cons (pv 2) pa_nil)) (pe_glob (v := .int 12) rfl gv1 ⟨_, rfl⟩)))))) (pss_one (ps_ret pe_bl)) pss_nil)
      (pss_one (ps_ret (pe_callB (cr_all rfl) (by rfl) m_all (by decide +kernel) (pa_cons (
        pe_lc (own := [("place", 3)]) (g := (gName 3)) (tt := tYes) (te := (tCall (spLook countD) [] E0 (tCons (tVar 3) tNil))) rfl sc_is_wish.nd (pi_tup (pv 2)) (blkOk_by (N := n_is_wish) (sc := defScope a_is_wish) (by decide +kernel))
          (fun _ _ _ _ _ => (pg_name (i := 3) sc_is_wish.nd rfl (.inl rfl) (hf := .inr rfl))) (fun _ _ _ _ _ => pts_nil) (fun _ _ _ _ _ => (pe_kn Co hr (by omega) (pa_cons (pv 3) pa_nil)))) pa_nil)))))))), ?_⟩
    rcases tup_or d with ⟨ds, rfl⟩ | hn
    · cases hd with
      | tup e ha =>
      rename_i a xs
      have ll := ha.len
      refine ⟨_, rfl, n, _, _, "tuple", _, rfl, .tup e ha, kit_tup _, _, rfl, iteF ⟨_, rfl, a, xs, rfl, .inr (.inl (.inl e)), rfl, _, rfl, ite2 (fun c => ?_) (fun c => ?_)⟩⟩
      · have c' : ¬ ds.length = 2 := fun z => by rw [ll, z] at c; exact absurd c (by decide)
        have : wishD (.tuple ds) = false := by simp [wishD, c']
        rw [this] at q
        exact q H (Same.refl H)
      · have c' : ds.length = 2 := Classical.byContradiction fun z => c (by
          have : ¬ ((xs.length : Int) = 2) := by omega
          simp [this])
        match ds, c', ha with
        | [d0, d1], _, .cons h0 (.cons h1 .nil) =>
        rename_i v0 v1
        have eW : wishD (.tuple [d0, d1]) = (posD d0 && standD d1) := by simp [wishD]
        rw [eW] at q
        refine ⟨_, rfl, a, _, rfl, .inl (.inl e), rfl, _, _, rfl, _, _, rfl, rfl, ?_⟩
        refine ⟨_, rfl, n, _, d0, rfl, h0, fun H1 s1 => ⟨_, rfl, ?_⟩⟩
        cases h0 with
        | int i =>
          refine iteF ⟨_, rfl, i, 1, rfl, rfl, _, rfl, ite2 (fun c => ?_) (fun c => ?_)⟩
          · have : posD (.int i) = false := decide_eq_false (by have := of_decide_eq_true c; omega)
            rw [this] at q
            exact q H1 s1
          · have : posD (.int i) = true := decide_eq_true (by have := of_decide_eq_false (Bool.eq_false_iff.mpr c); omega)
            rw [this, Bool.true_and] at q
            rcases tup_or d1 with ⟨ps, rfl⟩ | hn
            · cases h1 with
              | tup e1 h2 =>
              rename_i b ys
              have l2 := h2.len
              have e1' := s1 _ _ e1
              refine ⟨_, rfl, n, _, _, "tuple", _, rfl, (Da.tup e1 h2).same s1, kit_tup _, _, rfl, iteF ⟨_, rfl, b, ys, rfl, .inr (.inl (.inl e1')), 1, _, rfl, rfl, _, rfl, ?_⟩⟩
              have eS : standD (.tuple ps) = ((decide (1 ≤ ps.length) && decide (ps.length ≤ 12)) && ps.all countD) := rfl
              rw [eS] at q
              refine ite2 (fun c1 => ⟨_, 12, rfl, rfl, _, rfl, ?_⟩) (fun c1 => ?_)
              · have c1' := of_decide_eq_true c1
                refine ite2 (fun c2 => ?_) (fun c2 => ?_)
                · have c2' : ¬ ps.length ≤ 12 := fun z => by
                    have : ((ys.length : Int) ≤ 12) := by omega
                    simp [this] at c2
                  rw [decide_eq_false c2', Bool.and_false, Bool.false_and] at q
                  exact q H1 s1
                · have c2' : ps.length ≤ 12 := Classical.byContradiction fun z => c2 (by
                    have : ¬ ((ys.length : Int) ≤ 12) := by omega
                    simp [this])
                  rw [decide_eq_true c2', decide_eq_true (show 1 ≤ ps.length by omega), Bool.true_and, Bool.true_and] at q
                  refine ⟨_, rfl, b, rfl, ⟨_, .inl (.inl e1')⟩, fun D nD => lc_it (walk_tup (xs := ys)) (fun i H' => Same H1 H' ∧ H' D = some (.lst (((ps.take i).map countD).map V.bl))) ⟨same_new nD, upd_same⟩ (fun i H' _ p => .inl (.inl (p.1 _ _ e1'))) (fun i v H2 H3 hi p y => ?_) (fun H' p => ?_)⟩
                  · obtain ⟨sm, eD⟩ := p
                    obtain ⟨rfl, gv⟩ := y
                    obtain ⟨dd, ed, hdd⟩ := h2.get i v gv
                    refine ⟨wipe1, _, rfl, n, v, dd, rfl, (hdd.same s1).same sm, fun H4 s4 => ⟨_, s4 _ _ eD, ?_, same_over (sm.trans s4) nD, ?_⟩⟩
                    · rw [List.length_map, List.length_map, List.length_take]
                      exact small1000 (by omega)
                    · rw [upd_same, all_take countD ps i dd ed]
                  · obtain ⟨sm, eD⟩ := p
                    rw [show ys.length = ps.length from l2, List.take_length] at eD
                    refine ⟨D, _, rfl, .inl (.inl eD), ?_⟩
                    rw [all_id]
                    exact q H' (s1.trans sm)
              · have c1' : ¬ 1 ≤ ps.length := fun z => c1 (decide_eq_true (by omega))
                refine ⟨false, rfl, iteT ?_⟩
                rw [decide_eq_false c1', Bool.false_and, Bool.false_and] at q
                exact q H1 s1
            · have t := (not_tup hn).2.2
              refine ⟨_, rfl, n, _, d1, "tuple", _, rfl, h1.same s1, kit_tup d1, _, rfl, ?_⟩
              rw [hn]
              rw [t] at q
              exact iteT (q H1 s1)
        | _ => exact iteT (q H1 s1)
    · have t := (not_tup hn).1
      refine ⟨_, rfl, n, _, d, "tuple", _, rfl, hd, kit_tup d, _, rfl, ?_⟩
      rw [hn]
      rw [t] at q
      exact iteT (q H (Same.refl H))
abbrev a_is_letter : Stmt := topS 12
abbrev n_is_letter : List Str := ["thing", "word", "rule", "count", "wish"]
theorem sc_is_letter : FnScope n_is_letter ["thing"] (defScope a_is_letter) := ⟨rfl, rfl, rfl, by decide +kernel, rfl, by decide +kernel, by decide +kernel⟩
set_option maxHeartbeats 8000000 in
theorem ok_is_letter {f fCo fWi : Addr} {fd fdCo fdWi : FuncData} {k : Nat}  (F : Fun K "is_letter" "is_letter" a_is_letter f fd) (Co : Kn P w K mg base 2 "is_count" ["thing"] (spLook countD) fCo fdCo) (Wi : Kn P w K mg base 3 "is_wish" ["thing"] (spLook wishD) fWi fdWi)  (m_isinstance : mg "isinstance" = none) (m_len : mg "len" = none) (m_str : mg "str" = none) (m_tuple : mg "tuple" = none) : FnOk P w K mg base CX0 (k + 4) f fd ["thing"] (spLook letterD) := by
  refine F.ok sc_is_letter (fun vs H Q E h => ?_) (fun cdv A outer s H vs Q E hr h => ?_)
  · obtain ⟨n, v, d, rfl, _⟩ := h
    rfl
  · obtain ⟨n, v, d, rfl, hd, q⟩ := h
    refine ⟨_, (pss_cons (ps_if (PW.pt (pw_or (pt_not (pt_val (pe_callB call_isiD (by rfl) m_isinstance (by decide +kernel) (pa_cons (pv 0) (pa_cons (pe_bltn (v := .ty "tuple") (u := .type "tuple") (by rfl) m_tuple (by decide +kernel) rfl) pa_nil))))) (pw_or (pt_cmpR op_notIn_seq (pe_callB call_len_seq (by rfl) m_len (by decide +kernel) (pa_cons (pv 0) pa_nil)) (pe_tup (pa_cons pe_int (pa_cons pe_int pa_nil))) (by rfl)) (pw_or1 (pt_not (pt_val (pe_callB call_isiD (by rfl) m_isinstance (by decide +kernel) (pa_cons (pe_ix ix_tup (pv 0) pe_int (fun _ _ => rfl)) (pa_cons (pe_bltn (v := .ty "str") (u := .type "str") (by rfl) m_str (by decide +kernel) rfl) pa_nil))))))))) (pss_one (ps_ret pe_bl)) pss_nil)
      (pss_cons (ps_if (pt_cmpR op_eq (pe_callB call_len_seq (by rfl) m_len (by decide +kernel) (pa_cons (pv 0) pa_nil)) pe_int (nomark _)) (pss_one (ps_ret (pe_and (pe_cmpR op_eq (pe_ix ix_tup (pv 0) pe_int (fun _ _ => rfl)) pe_str (nomark _)) (pe_one (pe_kn Wi hr (by omega) (pa_cons (pe_ix ix_tup (pv 0) pe_int (fun _ _ => rfl)) pa_nil)))))) pss_nil)
      (pss_cons (ps_asg (pv 0) (pg_tup rfl (pgs_cons (pg_name (i := 1) sc_is_letter.nd rfl (.inl rfl)) (pgs_cons (pg_name (i := 2) sc_is_letter.nd rfl (.inl rfl)) (pgs_cons (pg_name (i := 3) sc_is_letter.nd rfl (.inl rfl)) (pgs_cons (pg_name (i := 4) sc_is_letter.nd rfl (.inl rfl)) pgs_nil))))))
      (pss_cons (ps_if (PW.pt (pw_or (pt_cmpR op_notIn_seq (pv 1) (pe_tup (pa_cons pe_str (pa_cons pe_str pa_nil))) (by rfl)) (pw_or (pt_not (pt_val (pe_kn Co hr (by omega) (pa_cons (pv 2) pa_nil)))) (pw_or1 (pt_not (pt_val (pe_kn Co hr (by omega) (pa_cons (pv 3) pa_nil)))))))) (pss_one (ps_ret pe_bl)) pss_nil)
      (pss_one (ps_ret (pe_or (pe_cmpR op_isN (pv 4) pe_non (nomark _)) (pe_one (pe_kn Wi hr (by omega) (pa_cons (pv 4) pa_nil)))))))))), ?_⟩
    rcases tup_or d with ⟨ds, rfl⟩ | hn
    · cases hd with
      | tup e ha =>
      rename_i a xs
      have ll := ha.len
      have fl : [V.int 2, V.int 4].all flatV = true := by decide
      refine ⟨_, rfl, n, _, _, "tuple", _, rfl, .tup e ha, kit_tup _, _, rfl, iteF ⟨_, rfl, a, xs, rfl, .inr (.inl (.inl e)), (show 2 ≤ sizeLine by decide), fun t nt => ?_⟩⟩
      have st := same_new (o := HO.tup [V.int 2, V.int 4]) nt
      have e1 := st _ _ e
      have inV2 : inV (V.int xs.length) [V.int 2, V.int 4] = (decide (ds.length = 2) || decide (ds.length = 4)) := by
        rw [ll, inV_int2, Bool.eq_iff_iff]
        simp
        omega
      refine ⟨t, _, rfl, .inr (.inl (.inl upd_same)), rfl, fl, _, rfl, ite2 (fun c => ?_) (fun c => ?_)⟩
      · have c' : (!inV (V.int xs.length) [V.int 2, V.int 4]) = true := c
        rw [inV2] at c'
        simp at c'
        have : letterD (.tuple ds) = false := by simp [letterD, c'.1, c'.2]
        rw [this] at q
        exact q _ st
      · have c' : ¬ (!inV (V.int xs.length) [V.int 2, V.int 4]) = true := c
        rw [inV2] at c'
        simp at c'
        have h24 : ds.length = 2 ∨ ds.length = 4 := by omega
        have g0 : ∃ v0, xs[0]? = some v0 ∧ Da n H v0 (ds.getD 0 .none) := by
          have lt : 0 < xs.length := by omega
          obtain ⟨d0, e0, h0⟩ := ha.get 0 _ (List.getElem?_eq_getElem lt)
          exact ⟨_, List.getElem?_eq_getElem lt, by rw [List.getD_eq_getElem?_getD, e0]; exact h0⟩
        obtain ⟨v0, x0, h0⟩ := g0
        refine ⟨_, rfl, a, xs, 0, v0, rfl, rfl, .inl (.inl e1), atI_nat (j := 0) x0, n, v0, _, "str", _, rfl, h0.same st, kit_str _, _, rfl, ?_⟩
        have out : isStrD (ds.getD 0 .none) = false → letterD (.tuple ds) = false := fun h => by
          have a1 : ∀ z, strIs z (ds.getD 0 .none) = false := fun z => by
            cases hz : ds.getD 0 .none <;> first | rfl | (rw [hz] at h; cases h)
          simp only [letterD, a1, Bool.false_and, Bool.or_self, Bool.and_false]
          split <;> rfl
        cases hs : isStrD (ds.getD 0 .none) with
        | false =>
          rw [out hs] at q
          exact iteT (q _ st)
        | true =>
          refine iteF ?_
          obtain ⟨z, hz⟩ : ∃ z, ds.getD 0 .none = .str z := by
            cases hz : ds.getD 0 .none with
            | str z => exact ⟨z, rfl⟩
            | _ => rw [hz] at hs; cases hs
          rw [hz] at h0
          cases h0
          refine ⟨_, rfl, a, xs, rfl, .inr (.inl (.inl e1)), rfl, _, rfl, ite2 (fun c2 => ?_) (fun c2 => ?_)⟩
          · have l2 : ds.length = 2 := by
              have := of_decide_eq_true c2
              rw [ll] at this
              have := V.int.inj this
              omega
            match ds, l2, ha, hz with
            | [d0, d1], _, .cons h0 (.cons h1 .nil), hz =>
            rename_i w0 w1
            have hz' : d0 = .str z := hz
            subst hz'
            cases h0
            have eL : letterD (.tuple [.str z, d1]) = (decide (z = "word") && wishD d1) := by simp [letterD, strIs]
            rw [eL] at q
            refine ⟨_, rfl, a, _, 0, _, rfl, rfl, .inl (.inl e1), atI_nat (j := 0) rfl, rfl, _, rfl, ite2 (fun c3 => ?_) (fun c3 => ?_)⟩
            · have c3' : z = "word" := V.str.inj (of_decide_eq_true c3)
              rw [decide_eq_true c3', Bool.true_and] at q
              exact ⟨_, rfl, a, _, 1, _, rfl, rfl, .inl (.inl e1), atI_nat (j := 1) rfl, n, _, d1, rfl, h1.same st, fun H1 s1 => q H1 (st.trans s1)⟩
            · have c3' : ¬ z = "word" := fun hh => c3 (decide_eq_true (congrArg V.str hh))
              rw [decide_eq_false c3', Bool.false_and] at q
              exact q _ st
          · have l4 : ds.length = 4 := by
              rcases h24 with h | h
              · exfalso
                refine c2 (decide_eq_true ?_)
                rw [ll, h]
                rfl
              · exact h
            match ds, l4, ha, hz with
            | [d0, d1, d2, d3], _, .cons h0 (.cons h1 (.cons h2 (.cons h3 .nil))), hz =>
            rename_i w0 w1 w2 w3
            have hz' : d0 = .str z := hz
            subst hz'
            cases h0
            have eL : letterD (.tuple [.str z, d1, d2, d3]) = ((decide (z = "ask") || decide (z = "leave")) && ((countD d1 && countD d2) && (noneD d3 || wishD d3))) := by simp [letterD, strIs]
            rw [eL] at q
            refine ⟨_, rfl, a, _, rfl, .inl (.inl e1), rfl, _, _, rfl, _, _, rfl, _, _, rfl, _, _, rfl, rfl, ?_⟩
            refine ⟨_, rfl, (show 2 ≤ sizeLine by decide), fun t2 nt2 => ?_⟩
            have s2 := st.trans (same_new (o := HO.tup [V.str "ask", V.str "leave"]) nt2)
            have fl2 : [V.str "ask", V.str "leave"].all flatV = true := by decide
            have inS : inV (V.str z) [V.str "ask", V.str "leave"] = (decide (z = "ask") || decide (z = "leave")) := inV_str2 _ _ _
            refine ⟨t2, _, rfl, .inr (.inl (.inl upd_same)), rfl, fl2, _, rfl, ite2 (fun c3 => ?_) (fun c3 => ?_)⟩
            · have c3' : (!inV (V.str z) [V.str "ask", V.str "leave"]) = true := c3
              rw [inS] at c3'
              have c4 : (decide (z = "ask") || decide (z = "leave")) = false := by simpa using c3'
              rw [c4, Bool.false_and] at q
              exact q _ s2
            · have c3' : ¬ (!inV (V.str z) [V.str "ask", V.str "leave"]) = true := c3
              rw [inS] at c3'
              have c4 : (decide (z = "ask") || decide (z = "leave")) = true := by
                cases hh : (decide (z = "ask") || decide (z = "leave")) with
                | true => rfl
                | false => rw [hh] at c3'; exact absurd rfl c3'
              rw [c4, Bool.true_and] at q
              refine ⟨_, rfl, n, _, d1, rfl, h1.same s2, fun H3 s3 => ⟨_, rfl, ?_⟩⟩
              cases k1 : countD d1 with
              | false =>
                rw [k1, Bool.false_and, Bool.false_and] at q
                exact iteT (q _ (s2.trans s3))
              | true =>
                refine iteF ⟨_, rfl, n, _, d2, rfl, h2.same (s2.trans s3), fun H4 s4 => ⟨_, rfl, ?_⟩⟩
                have s04 := (s2.trans s3).trans s4
                rw [k1, Bool.true_and] at q
                cases k2 : countD d2 with
                | false =>
                  rw [k2, Bool.false_and] at q
                  exact iteT (q _ s04)
                | true =>
                  refine iteF ⟨_, rfl, rfl, _, rfl, ?_⟩
                  rw [k2, Bool.true_and] at q
                  cases h3 with
                  | non => exact iteT (q _ s04)
                  | bl b => exact iteF ⟨_, rfl, n, _, _, rfl, .bl b, fun H5 s5 => q H5 (s04.trans s5)⟩
                  | int i => exact iteF ⟨_, rfl, n, _, _, rfl, .int i, fun H5 s5 => q H5 (s04.trans s5)⟩
                  | str x => exact iteF ⟨_, rfl, n, _, _, rfl, .str x, fun H5 s5 => q H5 (s04.trans s5)⟩
                  | lst a1 a2 a3 a4 => exact iteF ⟨_, rfl, n, _, _, rfl, (Da.lst a1 a2 a3 a4).same s04, fun H5 s5 => q H5 (s04.trans s5)⟩
                  | tup a1 a2 => exact iteF ⟨_, rfl, n, _, _, rfl, (Da.tup a1 a2).same s04, fun H5 s5 => q H5 (s04.trans s5)⟩
                  | dct a1 a2 => exact iteF ⟨_, rfl, n, _, _, rfl, (Da.dct a1 a2).same s04, fun H5 s5 => q H5 (s04.trans s5)⟩
    · have t := (not_tup hn).2.1
      refine ⟨_, rfl, n, _, d, "tuple", _, rfl, hd, kit_tup d, _, rfl, ?_⟩
      rw [hn]
      rw [t] at q
      exact iteT (q H (Same.refl H))
end
end K61

set_option Elab.async false
set_option linter.all false
set_option maxRecDepth 100000
namespace K61
open PySem PySem.Spec PyProof.Rows L2 NB

abbrev Wi := Int × List Int
def WiP (w : Wi) : Prop := 1 ≤ w.1 ∧ w.1 < 10 ^ 30 ∧ w.2 ≠ [] ∧ w.2.length ≤ 12 ∧ Pl w.2
def WV (H : Hp) (v : V) : Option Wi → Prop
  | none => v = .non
  | some w => ∃ p q, v = .ref p ∧ H p = some (.tup [.int w.1, .ref q]) ∧ H q = some (.tup (w.2.map V.int))
theorem WV.keep {H H' : Hp} {v : V} : ∀ {o : Option Wi}, WV H v o → Keep H H' → WV H' v o
  | none, h, _ => h
  | some w, ⟨p, q, e, e1, e2⟩, k => ⟨p, q, e, k.tup e1, k.tup e2⟩
abbrev Lt := Str × List Int × Option Wi
def LetAt (H : Hp) (p : Addr) (l : Lt) : Prop := ∃ v, H p = some (.tup (.str l.1 :: (l.2.1.map V.int ++ [v]))) ∧ WV H v l.2.2
theorem LetAt.keep {H H' : Hp} {p : Addr} {l : Lt} (h : LetAt H p l) (k : Keep H H') : LetAt H' p l := by
  obtain ⟨v, e, w⟩ := h
  exact ⟨v, k.tup e, w.keep k⟩
def LetP (l : Lt) : Prop := (((l.1 = "ask" ∨ l.1 = "leave") ∧ l.2.1.length = 2) ∨ (l.1 = "word" ∧ l.2.1 = [] ∧ l.2.2 ≠ none)) ∧ Pl l.2.1 ∧ ∀ w, l.2.2 = some w → WiP w
theorem LetP.few {l : Lt} (h : LetP l) : l.2.1.length ≤ 2 := by
  rcases h.1 with ⟨_, e⟩ | ⟨_, e, _⟩
  · omega
  · rw [e]; exact Nat.zero_le _
theorem LetP.word {l : Lt} (h : LetP l) : l.1 = "ask" ∨ l.1 = "leave" ∨ l.1 = "word" := by
  rcases h.1 with ⟨e | e, _⟩ | ⟨e, _⟩
  · exact .inl e
  · exact .inr (.inl e)
  · exact .inr (.inr e)
def wiD : Option Wi → PyData
  | none => .none
  | some w => .tuple [.int w.1, .tuple (w.2.map PyData.int)]
def ltD (l : Lt) : PyData := .tuple ((.str l.1 :: l.2.1.map PyData.int) ++ [wiD l.2.2])
theorem da_ints {n : Addr} {H : Hp} : ∀ xs : List Int, DaAll n H (xs.map V.int) (xs.map PyData.int)
  | [] => .nil
  | x :: xs => .cons (.int x) (da_ints xs)
theorem da_app {n : Addr} {H : Hp} : ∀ {xs : List V} {ds : List PyData} {v : V} {d : PyData}, DaAll n H xs ds → Da n H v d → DaAll n H (xs ++ [v]) (ds ++ [d])
  | [], _, _, _, .nil, h => .cons h .nil
  | _ :: _, _, _, _, .cons h1 h2, h => .cons h1 (da_app h2 h)
theorem da_wish {n : Addr} {H : Hp} {v : V} : ∀ {o : Option Wi}, WV H v o → Da n H v (wiD o)
  | none, h => by
    have e : v = .non := h
    rw [e]
    exact .non
  | some w, ⟨p, q, e, e1, e2⟩ => by
    rw [e]
    exact .tup e1 (.cons (.int _) (.cons (.tup e2 (da_ints _)) .nil))
theorem da_let {n : Addr} {H : Hp} {p : Addr} {l : Lt} (h : LetAt H p l) : Da n H (.ref p) (ltD l) := by
  obtain ⟨v, e, w⟩ := h
  exact .tup e (da_app (xs := .str l.1 :: l.2.1.map V.int) (.cons (.str _) (da_ints _)) (da_wish w))
theorem count_ints {xs : List Int} (h : Pl xs) : (xs.map PyData.int).all countD = true := by
  rw [List.all_eq_true]
  intro d hd
  obtain ⟨x, hx, rfl⟩ := List.mem_map.mp hd
  exact decide_eq_true (h x hx).1
theorem wish_isD {w : Wi} (h : WiP w) : wishD (wiD (some w)) = true := by
  show (decide (2 = 2) && (decide (1 ≤ w.1) && ((decide (1 ≤ (w.2.map PyData.int).length) && decide ((w.2.map PyData.int).length ≤ 12)) && (w.2.map PyData.int).all countD))) = true
  have l1 : 1 ≤ w.2.length := List.length_pos_iff.mpr h.2.2.1
  rw [count_ints h.2.2.2.2, List.length_map, decide_eq_true h.1, decide_eq_true l1, decide_eq_true h.2.2.2.1]
  rfl
theorem let_isD {l : Lt} (h : LetP l) : letterD (ltD l) = true := by
  obtain ⟨a, ns, o⟩ := l
  rcases h.1 with ⟨hw, h2⟩ | ⟨hw, h0, hn⟩
  · match ns, h2, h with
    | [i, j], _, h =>
    have hi := h.2.1 i (by simp)
    have hj := h.2.1 j (by simp)
    show (if (4 : Nat) = 2 then (strIs "word" (PyData.str a) && wishD (PyData.int i)) else decide ((4 : Nat) = 4) && ((decide (a = "ask") || decide (a = "leave")) && ((decide (0 ≤ i) && decide (0 ≤ j)) && (noneD (wiD o) || wishD (wiD o))))) = true
    rw [if_neg (by decide), decide_eq_true hi.1, decide_eq_true hj.1]
    have ho : (noneD (wiD o) || wishD (wiD o)) = true := by
      cases o with
      | none => rfl
      | some w => rw [wish_isD (h.2.2 w rfl), Bool.or_true]
    rw [ho]
    rcases hw with e | e
    · have e' : a = "ask" := e
      rw [e']; decide +kernel
    · have e' : a = "leave" := e
      rw [e']; decide +kernel
  · have e0 : ns = [] := h0
    subst e0
    have ea : a = "word" := hw
    cases o with
    | none => exact absurd rfl hn
    | some w =>
      show (decide (a = "word") && wishD (wiD (some w))) = true
      rw [wish_isD (h.2.2 w rfl), decide_eq_true ea]
      rfl
theorem dp_app {K : PySem.W.Frag} {H : Hp} : ∀ {xs : List V} {ds : List PyData} {v : V} {d : PyData}, DpAll K H xs ds → Dp K H v d → DpAll K H (xs ++ [v]) (ds ++ [d])
  | [], _, _, _, .nil, h => .cons h .nil
  | _ :: _, _, _, _, .cons h1 h2, h => .cons h1 (dp_app h2 h)
theorem dp_wish {K : PySem.W.Frag} {H : Hp} {v : V} : ∀ {o : Option Wi}, WV H v o → Dp K H v (wiD o)
  | none, h => by
    have e : v = .non := h
    rw [e]
    exact .non
  | some w, ⟨p, q, e, e1, e2⟩ => by
    rw [e]
    exact .tup (.inl (.inl e1)) (.cons (.int _) (.cons (.tup (.inl (.inl e2)) (dp_ints _)) .nil))
theorem dp_let {K : PySem.W.Frag} {H : Hp} {p : Addr} {l : Lt} (h : LetAt H p l) : Dp K H (.ref p) (ltD l) := by
  obtain ⟨v, e, w⟩ := h
  exact .tup (.inl (.inl e)) (dp_app (xs := .str l.1 :: l.2.1.map V.int) (.cons (.str _) (dp_ints _)) (dp_wish w))
end K61

set_option Elab.async false
set_option linter.all false
set_option maxRecDepth 100000
namespace K61
open PySem PySem.Spec PyProof.Rows L2 NB

/-! ### rules of a hand -/
def shrd (q : Rl) : Bool := decide (q.1.1 ≠ q.2.1)
def ownS (q : Rl) (i : Nat) : Sd := if q.1.1 = i then q.1 else q.2
def othT (q : Rl) (i : Nat) : Nat := if q.1.1 = i then q.2.1 else q.1.1
def outS (s : Sd) (lo hi : Int) : Int × Int := if s.2.1 then (lo, if s.2.2 - 1 < hi then s.2.2 - 1 else hi) else (if s.2.2 + 1 > lo then s.2.2 + 1 else lo, hi)
def outB (s : Sd) (p : Int) : Bool := decide ((outS s p p).1 ≤ (outS s p p).2)
def wishN (o : Option Wi) : Int := match o with
  | none => 0
  | some w => w.1
def spShrd : Sp := fun vs H Q _ => ∃ (r : Addr) (rl : Rl), vs = [.ref r] ∧ RuleAt H r rl ∧ Q (.bl (shrd rl)) H
def spOwnS : Sp := fun vs H Q _ => ∃ (r : Addr) (rl : Rl) (i : Nat), vs = [.ref r, .int (i : Int)] ∧ RuleAt H r rl ∧ ∀ p, SideAt H p (ownS rl i) → Q (.ref p) H
def spOthT : Sp := fun vs H Q _ => ∃ (r : Addr) (rl : Rl) (i : Nat), vs = [.ref r, .int (i : Int)] ∧ RuleAt H r rl ∧ Q (.int (othT rl i : Nat)) H
def spOutS : Sp := fun vs H Q _ => ∃ (p : Addr) (sd : Sd) (lo hi : Int), vs = [.ref p, .int lo, .int hi] ∧ SideAt H p sd ∧ ∀ H' g, Same H H' → H' g = some (.tup [.int (outS sd lo hi).1, .int (outS sd lo hi).2]) → Q (.ref g) H'
def spOutB : Sp := fun vs H Q _ => ∃ (p : Addr) (sd : Sd) (pl : Int), vs = [.ref p, .int pl] ∧ SideAt H p sd ∧ ∀ H', Same H H' → Q (.bl (outB sd pl)) H'
def spWishN : Sp := fun vs H Q _ => ∃ (v : V) (o : Option Wi), vs = [v] ∧ WV H v o ∧ Q (.int (wishN o)) H
section
variable {P : Program} {w : World} {K : PySem.W.Frag} {mg : Str → Option Value} {base : Heap}
abbrev a_wish_number : Stmt := topS 13
abbrev n_wish_number : List Str := ["wish"]
theorem sc_wish_number : FnScope n_wish_number ["wish"] (defScope a_wish_number) := ⟨rfl, rfl, rfl, by decide +kernel, rfl, by decide +kernel, by decide +kernel⟩
set_option maxHeartbeats 8000000 in
theorem ok_wish_number {f  : Addr} {fd  : FuncData} {k : Nat}  (F : Fun K "wish_number" "wish_number" a_wish_number f fd)    : FnOk P w K mg base CX0 (k + 1) f fd ["wish"] spWishN := by
  refine F.ok sc_wish_number (fun vs H Q E h => ?_) (fun cdv A outer s H vs Q E hr h => ?_)
  · obtain ⟨v, o, rfl, _⟩ := h
    rfl
  · obtain ⟨v, o, rfl, hv, q⟩ := h
    refine ⟨_, (pss_one (ps_ret (pe_ifExp (pt_cmpR op_isN (pv 0) pe_non (nomark _)) pe_int (pe_ix ix_tup (pv 0) pe_int (fun _ _ => rfl))))), ?_⟩
    cases o with
    | none =>
      obtain rfl : v = .non := hv
      exact ⟨_, rfl, rfl, true, congrArg V.bl (decide_eq_true rfl), iteT q⟩
    | some w =>
      obtain ⟨p, g, rfl, ep, eg⟩ := hv
      exact ⟨_, rfl, rfl, false, congrArg V.bl (decide_eq_false (fun z => by cases z)), iteF ⟨.ref p, rfl, p, _, 0, _, rfl, rfl, .inl (.inl ep), atI_nat (j := 0) rfl, q⟩⟩
abbrev a_is_shared : Stmt := topS 15
abbrev n_is_shared : List Str := ["rule"]
theorem sc_is_shared : FnScope n_is_shared ["rule"] (defScope a_is_shared) := ⟨rfl, rfl, rfl, by decide +kernel, rfl, by decide +kernel, by decide +kernel⟩
set_option maxHeartbeats 8000000 in
theorem ok_is_shared {f  : Addr} {fd  : FuncData} {k : Nat}  (F : Fun K "is_shared" "is_shared" a_is_shared f fd)    : FnOk P w K mg base CX0 (k + 1) f fd ["rule"] spShrd := by
  refine F.ok sc_is_shared (fun vs H Q E h => ?_) (fun cdv A outer s H vs Q E hr h => ?_)
  · obtain ⟨r, rl, rfl, _⟩ := h
    rfl
  · obtain ⟨r, rl, rfl, hr1, q⟩ := h
    refine ⟨_, (pss_one (ps_ret (pe_cmpR op_ne (pe_ix ix_tup (pe_ix ix_tup (pv 0) pe_int (fun _ _ => rfl)) pe_int (fun _ _ => rfl)) (pe_ix ix_tup (pe_ix ix_tup (pv 0) pe_int (fun _ _ => rfl)) pe_int (fun _ _ => rfl)) (nomark _)))), ?_⟩
    obtain ⟨p1, p2, er, s1, s2⟩ := hr1
    have s1' : H p1 = some (.tup [.int (rl.1.1 : Int), .str (word rl.1.2.1), .int rl.1.2.2]) := s1
    have s2' : H p2 = some (.tup [.int (rl.2.1 : Int), .str (word rl.2.2.1), .int rl.2.2.2]) := s2
    refine ⟨.ref r, rfl, r, _, 0, .ref p1, rfl, rfl, .inl (.inl er), atI_nat (j := 0) rfl, p1, _, 0, _, rfl, rfl, .inl (.inl s1'), atI_nat (j := 0) rfl, .ref r, rfl, r, _, 1, .ref p2, rfl, rfl, .inl (.inl er), atI_nat (j := 1) rfl, p2, _, 0, _, rfl, rfl, .inl (.inl s2'), atI_nat (j := 0) rfl, rfl, ?_⟩
    have e : (!decide (V.int (rl.1.1 : Int) = V.int (rl.2.1 : Int))) = shrd rl := by
      unfold shrd
      by_cases h : rl.1.1 = rl.2.1
      · rw [h]; simp
      · have : ¬ V.int (rl.1.1 : Int) = V.int (rl.2.1 : Int) := fun z => h (by injection z with z; omega)
        simp [this, h]
    rw [e]
    exact q
abbrev a_own_side : Stmt := topS 16
abbrev n_own_side : List Str := ["rule", "thing"]
theorem sc_own_side : FnScope n_own_side ["rule", "thing"] (defScope a_own_side) := ⟨rfl, rfl, rfl, by decide +kernel, rfl, by decide +kernel, by decide +kernel⟩
set_option maxHeartbeats 8000000 in
theorem ok_own_side {f  : Addr} {fd  : FuncData} {k : Nat}  (F : Fun K "own_side" "own_side" a_own_side f fd)    : FnOk P w K mg base CX0 (k + 1) f fd ["rule", "thing"] spOwnS := by
  refine F.ok sc_own_side (fun vs H Q E h => ?_) (fun cdv A outer s H vs Q E hr h => ?_)
  · obtain ⟨r, rl, i, rfl, _⟩ := h
    rfl
  · obtain ⟨r, rl, i, rfl, hr1, q⟩ := h
    refine ⟨_, (pss_one (ps_ret (pe_ifExp (pt_cmpR op_eq (pe_ix ix_tup (pe_ix ix_tup (pv 0) pe_int (fun _ _ => rfl)) pe_int (fun _ _ => rfl)) (pv 1) (nomark _)) (pe_ix ix_tup (pv 0) pe_int (fun _ _ => rfl)) (pe_ix ix_tup (pv 0) pe_int (fun _ _ => rfl))))), ?_⟩
    obtain ⟨p1, p2, er, s1, s2⟩ := hr1
    have s1' : H p1 = some (.tup [.int (rl.1.1 : Int), .str (word rl.1.2.1), .int rl.1.2.2]) := s1
    refine ⟨.ref r, rfl, r, _, 0, .ref p1, rfl, rfl, .inl (.inl er), atI_nat (j := 0) rfl, p1, _, 0, _, rfl, rfl, .inl (.inl s1'), atI_nat (j := 0) rfl, _, rfl, rfl, ?_⟩
    by_cases h : rl.1.1 = i
    · have o := q p1 (by unfold ownS; rw [if_pos h]; exact s1)
      exact ⟨true, congrArg V.bl (decide_eq_true (by rw [h])), iteT ⟨.ref r, rfl, r, _, 0, .ref p1, rfl, rfl, .inl (.inl er), atI_nat (j := 0) rfl, o⟩⟩
    · have o := q p2 (by unfold ownS; rw [if_neg h]; exact s2)
      exact ⟨false, congrArg V.bl (decide_eq_false (fun z => h (by injection z with z; omega))), iteF ⟨.ref r, rfl, r, _, 1, .ref p2, rfl, rfl, .inl (.inl er), atI_nat (j := 1) rfl, o⟩⟩
abbrev a_other_thing : Stmt := topS 17
abbrev n_other_thing : List Str := ["rule", "thing"]
theorem sc_other_thing : FnScope n_other_thing ["rule", "thing"] (defScope a_other_thing) := ⟨rfl, rfl, rfl, by decide +kernel, rfl, by decide +kernel, by decide +kernel⟩
set_option maxHeartbeats 8000000 in
theorem ok_other_thing {f  : Addr} {fd  : FuncData} {k : Nat}  (F : Fun K "other_thing" "other_thing" a_other_thing f fd)    : FnOk P w K mg base CX0 (k + 1) f fd ["rule", "thing"] spOthT := by
  refine F.ok sc_other_thing (fun vs H Q E h => ?_) (fun cdv A outer s H vs Q E hr h => ?_)
  · obtain ⟨r, rl, i, rfl, _⟩ := h
    rfl
  · obtain ⟨r, rl, i, rfl, hr1, q⟩ := h
    refine ⟨_, (pss_one (ps_ret (pe_ifExp (pt_cmpR op_eq (pe_ix ix_tup (pe_ix ix_tup (pv 0) pe_int (fun _ _ => rfl)) pe_int (fun _ _ => rfl)) (pv 1) (nomark _)) (pe_ix ix_tup (pe_ix ix_tup (pv 0) pe_int (fun _ _ => rfl)) pe_int (fun _ _ => rfl)) (pe_ix ix_tup (pe_ix ix_tup (pv 0) pe_int (fun _ _ => rfl)) pe_int (fun _ _ => rfl))))), ?_⟩
    obtain ⟨p1, p2, er, s1, s2⟩ := hr1
    have s1' : H p1 = some (.tup [.int (rl.1.1 : Int), .str (word rl.1.2.1), .int rl.1.2.2]) := s1
    have s2' : H p2 = some (.tup [.int (rl.2.1 : Int), .str (word rl.2.2.1), .int rl.2.2.2]) := s2
    refine ⟨.ref r, rfl, r, _, 0, .ref p1, rfl, rfl, .inl (.inl er), atI_nat (j := 0) rfl, p1, _, 0, _, rfl, rfl, .inl (.inl s1'), atI_nat (j := 0) rfl, _, rfl, rfl, ?_⟩
    unfold othT at q
    by_cases h : rl.1.1 = i
    · rw [if_pos h] at q
      exact ⟨true, congrArg V.bl (decide_eq_true (by rw [h])), iteT ⟨.ref r, rfl, r, _, 1, .ref p2, rfl, rfl, .inl (.inl er), atI_nat (j := 1) rfl, p2, _, 0, _, rfl, rfl, .inl (.inl s2'), atI_nat (j := 0) rfl, q⟩⟩
    · rw [if_neg h] at q
      exact ⟨false, congrArg V.bl (decide_eq_false (fun z => h (by injection z with z; omega))), iteF ⟨.ref r, rfl, r, _, 0, .ref p1, rfl, rfl, .inl (.inl er), atI_nat (j := 0) rfl, p1, _, 0, _, rfl, rfl, .inl (.inl s1'), atI_nat (j := 0) rfl, q⟩⟩
abbrev a_out_span : Stmt := topS 18
abbrev n_out_span : List Str := ["side", "low", "high", "word", "place"]
theorem sc_out_span : FnScope n_out_span ["side", "low", "high"] (defScope a_out_span) := ⟨rfl, rfl, rfl, by decide +kernel, rfl, by decide +kernel, by decide +kernel⟩
set_option maxHeartbeats 8000000 in
theorem ok_out_span {f  : Addr} {fd  : FuncData} {k : Nat}  (F : Fun K "out_span" "out_span" a_out_span f fd)   (m_max : mg "max" = none) (m_min : mg "min" = none) : FnOk P w K mg base CX0 (k + 1) f fd ["side", "low", "high"] spOutS := by
  refine F.ok sc_out_span (fun vs H Q E h => ?_) (fun cdv A outer s H vs Q E hr h => ?_)
  · obtain ⟨p, sd, lo, hi, rfl, _⟩ := h
    rfl
  · obtain ⟨p, sd, lo, hi, rfl, es, q⟩ := h
    refine ⟨_, (pss_cons (ps_par (i := 3) (j := 4) (by rfl) sc_out_span.nd rfl rfl (by decide) rfl rfl (pa_cons (pe_ix ix_tup (pv 0) pe_int (fun _ _ => rfl)) (pa_cons (pe_ix ix_tup (pv 0) pe_int (fun _ _ => rfl)) pa_nil)) (by rfl))
      (pss_cons (ps_if (pt_cmpR op_eq (pv 3) pe_str (nomark _)) (pss_one (ps_ret (pe_tup (pa_cons (pv 1) (pa_cons (pe_callB (call_min2 rfl) (by rfl) m_min (by decide +kernel) (pa_cons (pv 2) (pa_cons (pe_op op_sub (pv 4) pe_int) pa_nil))) pa_nil))))) pss_nil)
      (pss_one (ps_ret (pe_tup (pa_cons (pe_callB (call_max2 rfl) (by rfl) m_max (by decide +kernel) (pa_cons (pv 1) (pa_cons (pe_op op_add (pv 4) pe_int) pa_nil))) (pa_cons (pv 2) pa_nil))))))), ?_⟩
    have es' : H p = some (.tup [.int (sd.1 : Int), .str (word sd.2.1), .int sd.2.2]) := es
    unfold outS at q
    refine ⟨.ref p, rfl, p, _, 1, _, rfl, rfl, .inl (.inl es'), atI_nat (j := 1) rfl, .ref p, rfl, p, _, 2, _, rfl, rfl, .inl (.inl es'), atI_nat (j := 2) rfl, _, _, rfl, ?_⟩
    dsimp only [List.set]
    obtain ⟨n, b, pl⟩ := sd
    refine ⟨_, rfl, rfl, b, ?_, ?_⟩
    · show V.bl (decide (V.str (word b) = V.str "from")) = V.bl b
      cases b <;> decide +kernel
    · cases b with
      | true =>
        refine iteT ⟨_, rfl, _, rfl, _, rfl, pl, 1, rfl, rfl, hi, pl - 1, rfl, (show 2 ≤ sizeLine by decide), fun g ng => ?_⟩
        exact q _ g (same_new ng) upd_same
      | false =>
        refine iteF ⟨_, rfl, _, rfl, pl, 1, rfl, rfl, lo, pl + 1, rfl, _, rfl, (show 2 ≤ sizeLine by decide), fun g ng => ?_⟩
        exact q _ g (same_new ng) upd_same
abbrev a_is_out_at : Stmt := topS 19
abbrev n_is_out_at : List Str := ["side", "place", "least", "most"]
theorem sc_is_out_at : FnScope n_is_out_at ["side", "place"] (defScope a_is_out_at) := ⟨rfl, rfl, rfl, by decide +kernel, rfl, by decide +kernel, by decide +kernel⟩
set_option maxHeartbeats 8000000 in
theorem ok_is_out_at {f fOs : Addr} {fd fdOs : FuncData} {k : Nat}  (F : Fun K "is_out_at" "is_out_at" a_is_out_at f fd) (Os : Kn P w K mg base 1 "out_span" ["side", "low", "high"] spOutS fOs fdOs)   : FnOk P w K mg base CX0 (k + 2) f fd ["side", "place"] spOutB := by
  refine F.ok sc_is_out_at (fun vs H Q E h => ?_) (fun cdv A outer s H vs Q E hr h => ?_)
  · obtain ⟨p, sd, pl, rfl, _⟩ := h
    rfl
  · obtain ⟨p, sd, pl, rfl, es, q⟩ := h
    refine ⟨_, (pss_cons (ps_asg (pe_kn Os hr (by omega) (pa_cons (pv 0) (pa_cons (pv 1) (pa_cons (pv 1) pa_nil)))) (pg_tup rfl (pgs_cons (pg_name (i := 2) sc_is_out_at.nd rfl (.inl rfl)) (pgs_cons (pg_name (i := 3) sc_is_out_at.nd rfl (.inl rfl)) pgs_nil))))
      (pss_one (ps_ret (pe_cmpR op_le (pv 2) (pv 3) (nomark _))))), ?_⟩
    refine ⟨_, rfl, _, rfl, _, rfl, p, sd, pl, pl, rfl, es, fun H1 g s1 eg => ?_⟩
    refine ⟨g, _, rfl, .inl (.inl eg), rfl, _, _, rfl, _, _, rfl, rfl, ?_⟩
    exact ⟨_, rfl, _, rfl, _, _, rfl, rfl, q H1 s1⟩
end
end K61

set_option Elab.async false
set_option linter.all false
set_option maxRecDepth 100000
/-! d[k] op= v: what is read. -/
namespace NB
open PySem PySem.Spec PyProof.Rows L2
theorem get_dictK {X : Cx} (hu : X.A.units + 1 < cLine) : PGet X (fun x y H Q => ∃ a v, x = .ref a ∧ DGet H a y (some v) ∧ Q v H) := by
  intro pins s σ H o i ov iv Q I ro ri h
  obtain ⟨a, v, rfl, g, q⟩ := h
  cases ro
  exact d_getItem hu I g ri fun w' s' I' r => ⟨v, H, I', r, q⟩
end NB

set_option Elab.async false
set_option linter.all false
set_option maxRecDepth 100000
namespace K61
open PySem PySem.Spec PyProof.Rows L2 NB

/-! ### a hand -/
structure Hd where
  thing : Nat
  place : Int
  wish : Option Wi
  rows : List (Int × Rl × Int)
def look (rows : List (Int × Rl × Int)) (n : Int) : Option (Rl × Int) := (rows.find? fun r => decide (r.1 = n)).map (·.2)
def kvT (rows : List (Int × Rl × Int)) : List (Key × V) := rows.map fun r => (Sum.inl r.1, V.int r.2.2)
def kvH (hs : List (Int × Addr)) : List (Key × V) := hs.map fun z => (Sum.inl z.1, V.ref z.2)
def Held (H : Hp) : List (Int × Addr) → List (Int × Rl × Int) → Prop
  | [], [] => True
  | z :: hs, r :: rows => z.1 = r.1 ∧ RuleAt H z.2 r.2.1 ∧ Held H hs rows
  | _, _ => False
theorem Held.keep {H H' : Hp} (k : Keep H H') : ∀ {hs : List (Int × Addr)} {rows : List (Int × Rl × Int)}, Held H hs rows → Held H' hs rows
  | [], [], _ => trivial
  | _ :: _, _ :: _, ⟨a, b, c⟩ => ⟨a, b.keep k, c.keep k⟩
  | [], _ :: _, h => h.elim
  | _ :: _, [], h => h.elim
theorem Held.keys {H : Hp} : ∀ {hs : List (Int × Addr)} {rows : List (Int × Rl × Int)}, Held H hs rows → hs.map (·.1) = rows.map (·.1)
  | [], [], _ => rfl
  | z :: hs, r :: rows, ⟨a, _, c⟩ => by rw [List.map_cons, List.map_cons, a, c.keys]
  | [], _ :: _, h => h.elim
  | _ :: _, [], h => h.elim
theorem look_cons (r : Int × Rl × Int) (rows : List (Int × Rl × Int)) (n : Int) : look (r :: rows) n = if r.1 = n then some r.2 else look rows n := by
  unfold look
  rw [List.find?_cons]
  by_cases h : r.1 = n
  · simp [h]
  · simp [h]
theorem valT (rows : List (Int × Rl × Int)) (n : Int) : valV (kvT rows) (Sum.inl n) = (look rows n).map fun z => V.int z.2 := by
  induction rows with
  | nil => rfl
  | cons r rows ih =>
    rw [look_cons]
    unfold kvT valV at ih ⊢
    rw [List.map_cons, List.find?_cons]
    by_cases h : r.1 = n
    · simp [h]
    · have : ¬ ((Sum.inl r.1 : Key) = Sum.inl n) := fun z => h (Sum.inl.inj z)
      simp only [this, h, decide_false, if_false]
      exact ih
theorem valH {H : Hp} (n : Int) : ∀ {hs : List (Int × Addr)} {rows : List (Int × Rl × Int)}, Held H hs rows →
    (look rows n = none ∧ valV (kvH hs) (Sum.inl n) = none) ∨ ∃ q c a, look rows n = some (q, c) ∧ valV (kvH hs) (Sum.inl n) = some (V.ref a) ∧ RuleAt H a q
  | [], [], _ => .inl ⟨rfl, rfl⟩
  | z :: hs, r :: rows, ⟨a, b, c⟩ => by
    have ih := valH n c
    have e : valV (kvH (z :: hs)) (Sum.inl n) = if r.1 = n then some (V.ref z.2) else valV (kvH hs) (Sum.inl n) := by
      unfold kvH valV
      rw [List.map_cons, List.find?_cons]
      by_cases h : r.1 = n
      · simp [h, a]
      · have : ¬ ((Sum.inl z.1 : Key) = Sum.inl n) := fun w => h (a ▸ Sum.inl.inj w)
        simp only [this, h, decide_false, if_false]
    rw [look_cons, e]
    by_cases h : r.1 = n
    · rw [if_pos h, if_pos h]
      exact .inr ⟨r.2.1, r.2.2, z.2, rfl, rfl, b⟩
    · rw [if_neg h, if_neg h]
      exact ih
  | [], _ :: _, h => h.elim
  | _ :: _, [], h => h.elim
theorem rs {H H' : Hp} {a : Addr} {u : HO} (s : Same H H') (e : Rd H a u) : Rd H' a u := by
  rcases e with e | ⟨od, e⟩
  · exact .inl (s _ _ e)
  · exact .inr ⟨od, s _ _ e⟩
theorem DGr {H : Hp} {a : Addr} {kvs : List (Key × V)} {k : Key} (e : Rd H a (.dK kvs)) : DGet H a (kV k) (valV kvs k) := .inl ⟨kvs, k, e, rfl, rfl⟩
theorem ru {H : Hp} {a b : Addr} {u o : HO} (n : a ≠ b) (e : Rd H a u) : Rd (upd H b o) a u := by
  rcases e with e | ⟨od, e⟩
  · exact .inl ((upd_ne n).trans e)
  · exact .inr ⟨od, (upd_ne n).trans e⟩
theorem rn {H : Hp} {a b C dx : Addr} {kvs : List (Key × V)} {fs : List (Str × V)} (e : Rd H a (.dK kvs)) (i : H b = some (.ins C dx fs)) : a ≠ b := fun z => by
  rcases e with e | ⟨od, e⟩ <;> (rw [z, i] at e; cases e)
def HandF (C : Addr) (H : Hp) (x dx : Addr) (v : V) (D T : Addr) (h : Hd) : Prop := H x = some (.ins C dx [("thing", .int (h.thing : Int)), ("place", .int h.place), ("wish", v), ("held", .ref D), ("tally", .ref T)])
def HandAt (C : Addr) (H : Hp) (x D T : Addr) (h : Hd) : Prop := ∃ dx v hs, HandF C H x dx v D T h ∧ WV H v h.wish ∧ Rd H D (.dK (kvH hs)) ∧ H T = some (.dK (kvT h.rows)) ∧ Held H hs h.rows
theorem HandAt.same {C : Addr} {H H' : Hp} {x D T : Addr} {h : Hd} (a : HandAt C H x D T h) (s : Same H H') : HandAt C H' x D T h := by
  obtain ⟨dx, v, hs, e, w, d, t, l⟩ := a
  exact ⟨dx, v, hs, s _ _ e, w.keep (.same s), rs s d, s _ _ t, l.keep (.same s)⟩
structure HandTxt (K : PySem.W.Frag) (C : Addr) : Prop where
  cl : Cls K C
  n1 : NoAttr K C "thing"
  n2 : NoAttr K C "place"
  n3 : NoAttr K C "wish"
  n4 : NoAttr K C "held"
  n5 : NoAttr K C "tally"
section
variable {i p v d t : V}
theorem lk1 : ([("thing", i), ("place", p), ("wish", v), ("held", d), ("tally", t)] : List (Str × V)).lookup ("thing" : Str) = some i := by
  simp [List.lookup]
theorem lk2 : ([("thing", i), ("place", p), ("wish", v), ("held", d), ("tally", t)] : List (Str × V)).lookup ("place" : Str) = some p := by
  have n1 : (("place" : Str) == "thing") = false := by decide +kernel
  simp [List.lookup, n1]
theorem lk3 : ([("thing", i), ("place", p), ("wish", v), ("held", d), ("tally", t)] : List (Str × V)).lookup ("wish" : Str) = some v := by
  have n1 : (("wish" : Str) == "thing") = false := by decide +kernel
  have n2 : (("wish" : Str) == "place") = false := by decide +kernel
  simp [List.lookup, n1, n2]
theorem lk4 : ([("thing", i), ("place", p), ("wish", v), ("held", d), ("tally", t)] : List (Str × V)).lookup ("held" : Str) = some d := by
  have n1 : (("held" : Str) == "thing") = false := by decide +kernel
  have n2 : (("held" : Str) == "place") = false := by decide +kernel
  have n3 : (("held" : Str) == "wish") = false := by decide +kernel
  simp [List.lookup, n1, n2, n3]
theorem lk5 : ([("thing", i), ("place", p), ("wish", v), ("held", d), ("tally", t)] : List (Str × V)).lookup ("tally" : Str) = some t := by
  have n1 : (("tally" : Str) == "thing") = false := by decide +kernel
  have n2 : (("tally" : Str) == "place") = false := by decide +kernel
  have n3 : (("tally" : Str) == "wish") = false := by decide +kernel
  have n4 : (("tally" : Str) == "held") = false := by decide +kernel
  simp [List.lookup, n1, n2, n3, n4]
theorem lkm {m : Str} (h1 : (m == "thing") = false := by decide +kernel) (h2 : (m == "place") = false := by decide +kernel) (h3 : (m == "wish") = false := by decide +kernel) (h4 : (m == "held") = false := by decide +kernel) (h5 : (m == "tally") = false := by decide +kernel) :
    ([("thing", i), ("place", p), ("wish", v), ("held", d), ("tally", t)] : List (Str × V)).lookup m = none := by
  simp [List.lookup, h1, h2, h3, h4, h5]
end
def Hd.shares (h : Hd) (n : Int) : Bool := match look h.rows n with
  | some z => shrd z.1
  | none => false
def leaveB (i : Nat) (q : Rl) (c : Int) : Bool := decide (c % 2 = 0) == decide (q.1.1 = i)
def Hd.goal (h : Hd) : Int := match h.wish with
  | none => h.place
  | some w => w.2.getD h.thing 0
def spShares (C : Addr) : Sp := fun vs H Q _ => ∃ (x D T : Addr) (h : Hd) (n : Int), vs = [.ref x, .int n] ∧ HandAt C H x D T h ∧ ∀ H', Same H H' → Q (.bl (h.shares n)) H'
def spCount (C : Addr) : Sp := fun vs H Q _ => ∃ (x D T : Addr) (h : Hd) (n : Int) (rl : Rl) (c : Int), vs = [.ref x, .int n] ∧ HandAt C H x D T h ∧ look h.rows n = some (rl, c) ∧ shrd rl = true ∧ ∀ H', Same H H' → Q (.int c) H'
def spLeave (C : Addr) : Sp := fun vs H Q _ => ∃ (x D T : Addr) (h : Hd) (n : Int) (rl : Rl) (c : Int), vs = [.ref x, .int n] ∧ HandAt C H x D T h ∧ look h.rows n = some (rl, c) ∧ shrd rl = true ∧ ∀ H', Same H H' → Q (.bl (leaveB h.thing rl c)) H'
def spGoal (C : Addr) : Sp := fun vs H Q _ => ∃ (x D T : Addr) (h : Hd), vs = [.ref x] ∧ HandAt C H x D T h ∧ (∀ w, h.wish = some w → h.thing < w.2.length) ∧ Q (.int h.goal) H
def spHasPl (C : Addr) : Sp := fun vs H Q _ => ∃ (x D T : Addr) (h : Hd) (v : V) (o : Option Wi), vs = [.ref x, v] ∧ HandAt C H x D T h ∧ WV H v o ∧ Q (.bl (match o with | none => true | some w => decide (h.thing < w.2.length))) H
section
variable {P : Program} {w : World} {K : PySem.W.Frag} {mg : Str → Option Value} {base : Heap}
abbrev a_Hand_shares : Stmt := inClass (topS 20) 1
abbrev n_Hand_shares : List Str := ["self", "number"]
theorem sc_Hand_shares : FnScope n_Hand_shares ["self", "number"] (defScope a_Hand_shares) := ⟨rfl, rfl, rfl, by decide +kernel, rfl, by decide +kernel, by decide +kernel⟩
set_option maxHeartbeats 8000000 in
theorem ok_Hand_shares {f fWh fIs : Addr} {fd fdWh fdIs : FuncData} {k : Nat} {C : Addr} (F : Fun K "shares" "Hand.shares" a_Hand_shares f fd) (Wh : Kn P w K mg base 1 "is_whole" ["thing"] (spLook wholeD) fWh fdWh) (Is : Kn P w K mg base 1 "is_shared" ["rule"] spShrd fIs fdIs) (X : HandTxt K C)  : FnOk P w K mg base CX0 (k + 3) f fd ["self", "number"] (spShares C) := by
  refine F.ok sc_Hand_shares (fun vs H Q E h => ?_) (fun cdv A outer s H vs Q E hr h => ?_)
  · obtain ⟨x, D, T, h, n, rfl, _⟩ := h
    rfl
  · obtain ⟨x, D, T, h, n, rfl, ha, q⟩ := h
    refine ⟨_, (pss_one (ps_ret (pe_and (pe_kn Wh hr (by omega) (pa_cons (pv 1) pa_nil)) (pe_and (pe_cmp (pc_din (hu_of hr) (pv 1) (pe_fld (pv 0) rfl))) (pe_one (pe_kn Is hr (by omega) (pa_cons (pe_dget (hu_of hr) (pe_fld (pv 0) rfl) (pv 1) (fun _ _ => rfl)) pa_nil))))))), ?_⟩
    obtain ⟨dx, v, hs, e, w1, d, t, l⟩ := ha
    have e' : H x = some (.ins C dx [("thing", .int (h.thing : Int)), ("place", .int h.place), ("wish", v), ("held", .ref D), ("tally", .ref T)]) := e
    refine ⟨_, rfl, 0, .int n, _, rfl, .int n, fun H1 s1 => ⟨true, rfl, iteT ?_⟩⟩
    have e1 := s1 _ _ e'
    have d1 := rs s1 d
    have l1 := l.keep (.same s1)
    have q1 := q H1 s1
    unfold Hd.shares at q1
    refine ⟨_, rfl, .ref x, rfl, x, C, dx, _, _, rfl, e1, X.cl, X.n4, lk4, D, valV (kvH hs) (.inl n), rfl, DGr (k := .inl n) d1, _, rfl, ?_⟩
    rcases valH n l1 with ⟨a1, a2⟩ | ⟨q', c, a, a1, a2, a3⟩
    · rw [a1] at q1
      rw [a2]
      exact iteF q1
    · rw [a1] at q1
      rw [a2]
      exact iteT ⟨.ref x, rfl, x, C, dx, _, _, rfl, e1, X.cl, X.n4, lk4, _, rfl, D, .ref a, rfl, a2 ▸ DGr (k := .inl n) d1, a, q', rfl, a3, q1⟩
abbrev a_Hand_count_of : Stmt := inClass (topS 20) 3
abbrev n_Hand_count_of : List Str := ["self", "number"]
theorem sc_Hand_count_of : FnScope n_Hand_count_of ["self", "number"] (defScope a_Hand_count_of) := ⟨rfl, rfl, rfl, by decide +kernel, rfl, by decide +kernel, by decide +kernel⟩
set_option maxHeartbeats 8000000 in
theorem ok_Hand_count_of {f  : Addr} {fd  : FuncData} {k : Nat} {C : Addr} (F : Fun K "count_of" "Hand.count_of" a_Hand_count_of f fd) (Sh : C8.Met P w K mg base 3 C "shares" (spShares C) []) (X : HandTxt K C)  : FnOk P w K mg base CX0 (k + 4) f fd ["self", "number"] (spCount C) := by
  refine F.ok sc_Hand_count_of (fun vs H Q E h => ?_) (fun cdv A outer s H vs Q E hr h => ?_)
  · obtain ⟨x, D, T, h, n, rl, c, rfl, _⟩ := h
    rfl
  · obtain ⟨x, D, T, h, n, rl, c, rfl, ha, hl, hs0, q⟩ := h
    refine ⟨_, (pss_cons (ps_if (pt_not (pt_val (C8.pe_mt Sh hr (by omega) (pv 0) (pa_cons (pv 1) pa_nil)))) (pss_one (ps_never)) pss_nil)
      (pss_one (ps_ret (pe_dget (hu_of hr) (pe_fld (pv 0) rfl) (pv 1) (fun _ _ => rfl))))), ?_⟩
    have sh : h.shares n = true := by
      unfold Hd.shares
      rw [hl]
      exact hs0
    have ha0 := ha
    obtain ⟨dx, v, hs, e, w1, d, t, l⟩ := ha
    refine ⟨.ref x, rfl, x, dx, _, rfl, e, lkm, .int n, rfl, x, D, T, h, n, rfl, ha0, fun H1 s1 => ⟨true, congrArg V.bl sh, iteF ?_⟩⟩
    have vt : valV (kvT h.rows) (Sum.inl n) = some (V.int c) := by
      rw [valT, hl]
      rfl
    exact ⟨.ref x, rfl, x, C, dx, _, _, rfl, s1 _ _ e, X.cl, X.n5, lk5, .int n, rfl, T, .int c, rfl, vt ▸ DGet.k (k := .inl n) (s1 _ _ t), q H1 s1⟩
abbrev a_Hand_has_leave : Stmt := inClass (topS 20) 4
abbrev n_Hand_has_leave : List Str := ["self", "number", "even"]
theorem sc_Hand_has_leave : FnScope n_Hand_has_leave ["self", "number"] (defScope a_Hand_has_leave) := ⟨rfl, rfl, rfl, by decide +kernel, rfl, by decide +kernel, by decide +kernel⟩
set_option maxHeartbeats 8000000 in
theorem ok_Hand_has_leave {f  : Addr} {fd  : FuncData} {k : Nat} {C : Addr} (F : Fun K "has_leave" "Hand.has_leave" a_Hand_has_leave f fd) (Co : C8.Met P w K mg base 4 C "count_of" (spCount C) []) (X : HandTxt K C)  : FnOk P w K mg base CX0 (k + 5) f fd ["self", "number"] (spLeave C) := by
  refine F.ok sc_Hand_has_leave (fun vs H Q E h => ?_) (fun cdv A outer s H vs Q E hr h => ?_)
  · obtain ⟨x, D, T, h, n, rl, c, rfl, _⟩ := h
    rfl
  · obtain ⟨x, D, T, h, n, rl, c, rfl, ha, hl, hs0, q⟩ := h
    refine ⟨_, (pss_cons (ps_set (i := 2) sc_Hand_has_leave.nd rfl (.inl rfl) (pe_cmpR op_eq (pe_op op_mod (C8.pe_mt Co hr (by omega) (pv 0) (pa_cons (pv 1) pa_nil)) pe_int) pe_int (nomark _)))
      (pss_one (ps_ret (pe_cmpR op_eq (pv 2) (pe_cmpR op_eq (pe_ix ix_tup (pe_ix ix_tup (pe_dget (hu_of hr) (pe_fld (pv 0) rfl) (pv 1) (fun _ _ => rfl)) pe_int (fun _ _ => rfl)) pe_int (fun _ _ => rfl)) (pe_fld (pv 0) rfl) (nomark _)) (nomark _))))), ?_⟩
    have ha0 := ha
    obtain ⟨dx, v, hs, e, w1, d, t, l⟩ := ha
    refine ⟨.ref x, rfl, x, dx, _, rfl, e, lkm, .int n, rfl, x, D, T, h, n, rl, c, rfl, ha0, hl, hs0, fun H1 s1 => ?_⟩
    refine ⟨c, 2, rfl, rfl, (show (0 : Int) < 2 by decide), rfl, ?_⟩
    have l1 := l.keep (.same s1)
    rcases valH n l1 with ⟨a1, a2⟩ | ⟨q', c', a, a1, a2, a3⟩
    · rw [hl] at a1
      cases a1
    rw [hl] at a1
    cases a1
    obtain ⟨p1, p2, er, g1, g2⟩ := a3
    have g1' : H1 p1 = some (.tup [.int (rl.1.1 : Int), .str (word rl.1.2.1), .int rl.1.2.2]) := g1
    dsimp only [List.set]
    refine ⟨_, rfl, .ref x, rfl, x, C, dx, _, _, rfl, s1 _ _ e, X.cl, X.n4, lk4, .int n, rfl, D, .ref a, rfl, a2 ▸ DGr (k := .inl n) (rs s1 d), a, _, 0, .ref p1, rfl, rfl, .inl (.inl er), atI_nat (j := 0) rfl, p1, _, 0, _, rfl, rfl, .inl (.inl g1'), atI_nat (j := 0) rfl, .ref x, rfl, x, C, dx, _, _, rfl, s1 _ _ e, X.cl, X.n1, lk1, rfl, rfl, ?_⟩
    have e2 : decide (V.bl (decide (V.int (c % 2) = V.int 0)) = V.bl (decide (V.int (rl.1.1 : Int) = V.int (h.thing : Int)))) = leaveB h.thing rl c := by
      unfold leaveB
      have f1 : decide (V.int (c % 2) = V.int 0) = decide (c % 2 = 0) := decide_eq_decide.mpr ⟨fun z => by injection z, fun z => by rw [z]⟩
      have f2 : decide (V.int (rl.1.1 : Int) = V.int (h.thing : Int)) = decide (rl.1.1 = h.thing) := decide_eq_decide.mpr ⟨fun z => by injection z with z; omega, fun z => by rw [z]⟩
      rw [f1, f2, dec_bl]
    rw [e2]
    exact q H1 s1
abbrev a_Hand_wished_place : Stmt := inClass (topS 20) 7
abbrev n_Hand_wished_place : List Str := ["self"]
theorem sc_Hand_wished_place : FnScope n_Hand_wished_place ["self"] (defScope a_Hand_wished_place) := ⟨rfl, rfl, rfl, by decide +kernel, rfl, by decide +kernel, by decide +kernel⟩
set_option maxHeartbeats 8000000 in
theorem ok_Hand_wished_place {f  : Addr} {fd  : FuncData} {k : Nat} {C : Addr} (F : Fun K "wished_place" "Hand.wished_place" a_Hand_wished_place f fd)  (X : HandTxt K C)  : FnOk P w K mg base CX0 (k + 1) f fd ["self"] (spGoal C) := by
  refine F.ok sc_Hand_wished_place (fun vs H Q E h => ?_) (fun cdv A outer s H vs Q E hr h => ?_)
  · obtain ⟨x, D, T, h, rfl, _⟩ := h
    rfl
  · obtain ⟨x, D, T, h, rfl, ha, hw, q⟩ := h
    refine ⟨_, (pss_one (ps_ret (pe_ifExp (pt_cmpR op_isN (pe_fld (pv 0) rfl) pe_non (nomark _)) (pe_fld (pv 0) rfl) (pe_ix ix_tup (pe_ix ix_tup (pe_fld (pv 0) rfl) pe_int (fun _ _ => rfl)) (pe_fld (pv 0) rfl) (fun _ _ => rfl))))), ?_⟩
    obtain ⟨dx, v, hs, e, w1, d, t, l⟩ := ha
    unfold Hd.goal at q
    cases hh : h.wish with
    | none =>
      rw [hh] at w1 q
      obtain rfl : v = .non := w1
      exact ⟨.ref x, rfl, x, C, dx, _, _, rfl, e, X.cl, X.n3, lk3, rfl, true, congrArg V.bl (decide_eq_true rfl), iteT ⟨.ref x, rfl, x, C, dx, _, _, rfl, e, X.cl, X.n2, lk2, q⟩⟩
    | some w =>
      have hl := hw w hh
      rw [hh] at w1 q
      obtain ⟨p, g, rfl, ep, eg⟩ := w1
      refine ⟨.ref x, rfl, x, C, dx, _, _, rfl, e, X.cl, X.n3, lk3, rfl, false, congrArg V.bl (decide_eq_false (fun z => by cases z)), iteF ?_⟩
      refine ⟨.ref x, rfl, x, C, dx, _, _, rfl, e, X.cl, X.n3, lk3, p, _, 1, _, rfl, rfl, .inl (.inl ep), atI_nat (j := 1) rfl, .ref x, rfl, x, C, dx, _, _, rfl, e, X.cl, X.n1, lk1, g, _, (h.thing : Int), .int (w.2.getD h.thing 0), rfl, rfl, .inl (.inl eg), atI_nat ?_, q⟩
      rw [List.getElem?_map, List.getElem?_eq_getElem hl, List.getD_eq_getElem?_getD, List.getElem?_eq_getElem hl]
      rfl
abbrev a_Hand_has_place : Stmt := inClass (topS 20) 12
abbrev n_Hand_has_place : List Str := ["self", "wish"]
theorem sc_Hand_has_place : FnScope n_Hand_has_place ["self", "wish"] (defScope a_Hand_has_place) := ⟨rfl, rfl, rfl, by decide +kernel, rfl, by decide +kernel, by decide +kernel⟩
set_option maxHeartbeats 8000000 in
theorem ok_Hand_has_place {f  : Addr} {fd  : FuncData} {k : Nat} {C : Addr} (F : Fun K "has_place" "Hand.has_place" a_Hand_has_place f fd)  (X : HandTxt K C) (m_len : mg "len" = none) : FnOk P w K mg base CX0 (k + 1) f fd ["self", "wish"] (spHasPl C) := by
  refine F.ok sc_Hand_has_place (fun vs H Q E h => ?_) (fun cdv A outer s H vs Q E hr h => ?_)
  · obtain ⟨x, D, T, h, v, o, rfl, _⟩ := h
    rfl
  · obtain ⟨x, D, T, h, v, o, rfl, ha, hv, q⟩ := h
    refine ⟨_, (pss_one (ps_ret (pe_or (pe_cmpR op_isN (pv 1) pe_non (nomark _)) (pe_one (pe_cmpR op_lt (pe_fld (pv 0) rfl) (pe_callB call_len_seq (by rfl) m_len (by decide +kernel) (pa_cons (pe_ix ix_tup (pv 1) pe_int (fun _ _ => rfl)) pa_nil)) (nomark _)))))), ?_⟩
    obtain ⟨dx, v', hs, e, w1, d, t, l⟩ := ha
    cases o with
    | none =>
      obtain rfl : v = .non := hv
      exact ⟨_, rfl, rfl, true, congrArg V.bl (decide_eq_true rfl), iteT q⟩
    | some w =>
      obtain ⟨p, g, rfl, ep, eg⟩ := hv
      refine ⟨_, rfl, rfl, false, congrArg V.bl (decide_eq_false (fun z => by cases z)), iteF ?_⟩
      refine ⟨.ref x, rfl, x, C, dx, _, _, rfl, e, X.cl, X.n1, lk1, _, rfl, p, _, 1, _, rfl, rfl, .inl (.inl ep), atI_nat (j := 1) rfl, g, _, rfl, .inr (.inl (.inl eg)), _, _, rfl, rfl, ?_⟩
      rw [List.length_map]
      have e2 : decide ((h.thing : Int) < (w.2.length : Int)) = decide (h.thing < w.2.length) := decide_eq_decide.mpr ⟨fun z => by omega, fun z => by omega⟩
      show Q (.bl (decide ((h.thing : Int) < (w.2.length : Int)))) H
      rw [e2]
      exact q
end
end K61

set_option Elab.async false
set_option linter.all false
set_option maxRecDepth 100000
namespace K61
open PySem PySem.Spec PyProof.Rows L2 NB

theorem tif_join {c : Bool} {v : V} {ta tb : TE} {σ : L2.St} {H : Hp} {K : VK} (ha : c = true → ∀ Q : VK, Q v H → ta σ H Q) (hb : ¬ c = true → ∀ Q : VK, Q v H → tb σ H Q) (q : K v H) : if c = true then ta σ H K else tb σ H K := by
  cases c with
  | true => exact ha rfl K q
  | false => exact hb (by simp) K q

/-! ### what a hand lacks -/
def ShL (h : Hd) (ys : List Int) : Prop := ∃ zs : List Int, zs.Perm (h.rows.map (·.1)) ∧ zs.Pairwise (· ≤ ·) ∧ ys = zs.filter h.shares
def Hd.lv (h : Hd) (n : Int) : Bool := match look h.rows n with
  | some z => leaveB h.thing z.1 z.2
  | none => true
def Hd.there (h : Hd) : Int := if h.place < h.goal then h.place + 1 else h.place - 1
def Hd.ou (h : Hd) (n : Int) : Bool := match look h.rows n with
  | some z => outB (ownS z.1 h.thing) h.there
  | none => false
def LkL (h : Hd) (ys : List Int) : Prop := (h.goal = h.place ∧ ys = []) ∨ (h.goal ≠ h.place ∧ ∃ ss, ShL h ss ∧ ys = (ss.filter fun n => !h.lv n).filter h.ou)
theorem filter_take {f : Int → Bool} {zs : List Int} {i : Nat} {z : Int} (e : zs[i]? = some z) : (zs.take (i + 1)).filter f = (zs.take i).filter f ++ if f z = true then [z] else [] := by
  rw [List.take_add_one, e, List.filter_append]
  congr 1
  show [z].filter f = _
  cases h : f z <;> simp [h]
theorem look_of {rows : List (Int × Rl × Int)} {n : Int} (h : n ∈ rows.map (·.1)) : ∃ q c, look rows n = some (q, c) := by
  induction rows with
  | nil => cases h
  | cons r rows ih =>
    rw [look_cons]
    by_cases e : r.1 = n
    · rw [if_pos e]; exact ⟨_, _, rfl⟩
    · rw [if_neg e]
      rw [List.map_cons] at h
      rcases List.mem_cons.mp h with h | h
      · exact absurd h.symm e
      · exact ih h
theorem ShL.mem {h : Hd} {ys : List Int} (s : ShL h ys) {n : Int} (hn : n ∈ ys) : ∃ q c, look h.rows n = some (q, c) ∧ shrd q = true := by
  obtain ⟨zs, p, _, rfl⟩ := s
  obtain ⟨h1, h2⟩ := List.mem_filter.mp hn
  obtain ⟨q, c, e⟩ := look_of ((p.mem_iff).mp h1)
  refine ⟨q, c, e, ?_⟩
  unfold Hd.shares at h2
  rw [e] at h2
  exact h2
theorem ShL.len {h : Hd} {ys : List Int} (s : ShL h ys) : ys.length ≤ h.rows.length := by
  obtain ⟨zs, p, _, rfl⟩ := s
  have := List.length_filter_le h.shares zs
  have := p.length_eq
  rw [List.length_map] at this
  omega
theorem LkL.len {h : Hd} {ys : List Int} (s : LkL h ys) : ys.length ≤ h.rows.length := by
  rcases s with ⟨_, rfl⟩ | ⟨_, ss, s, rfl⟩
  · exact Nat.zero_le _
  · have := s.len
    have := List.length_filter_le h.ou (ss.filter fun n => !h.lv n)
    have := List.length_filter_le (fun n => !h.lv n) ss
    omega
theorem LkL.mem {h : Hd} {ys : List Int} (s : LkL h ys) {n : Int} (hn : n ∈ ys) : ∃ q c, look h.rows n = some (q, c) ∧ shrd q = true := by
  rcases s with ⟨_, rfl⟩ | ⟨_, ss, s, rfl⟩
  · cases hn
  · exact s.mem (List.mem_filter.mp (List.mem_filter.mp hn).1).1
def spShL (C : Addr) : Sp := fun vs H Q _ => ∃ (x D T : Addr) (h : Hd), vs = [.ref x] ∧ HandAt C H x D T h ∧ h.rows.length ≤ 40 ∧ ∀ H' g ys, Same H H' → H' g = some (.lst (ys.map V.int)) → ShL h ys → Q (.ref g) H'
def spLkL (C : Addr) : Sp := fun vs H Q _ => ∃ (x D T : Addr) (h : Hd), vs = [.ref x] ∧ HandAt C H x D T h ∧ h.rows.length ≤ 40 ∧ (∀ w, h.wish = some w → h.thing < w.2.length) ∧ ∀ H' g ys, Same H H' → H' g = some (.tup (ys.map V.int)) → LkL h ys → Q (.ref g) H'
section
variable {P : Program} {w : World} {K : PySem.W.Frag} {mg : Str → Option Value} {base : Heap}
abbrev a_Hand_shared : Stmt := inClass (topS 20) 2
abbrev n_Hand_shared : List Str := ["self", "number"]
theorem sc_Hand_shared : FnScope n_Hand_shared ["self"] (defScope a_Hand_shared) := ⟨rfl, rfl, rfl, by decide +kernel, rfl, by decide +kernel, by decide +kernel⟩
set_option maxHeartbeats 8000000 in
theorem ok_Hand_shared {f fIs : Addr} {fd fdIs : FuncData} {k : Nat} {C : Addr} (F : Fun K "shared" "Hand.shared" a_Hand_shared f fd) (Is : Kn P w K mg base 1 "is_shared" ["rule"] spShrd fIs fdIs) (X : HandTxt K C) (m_sorted : mg "sorted" = none) : FnOk P w K mg base CX0 (k + 2) f fd ["self"] (spShL C) := by
  refine F.ok sc_Hand_shared (fun vs H Q E h => ?_) (fun cdv A outer s H vs Q E hr h => ?_)
  · obtain ⟨x, D, T, h, rfl, _⟩ := h
    rfl
  · obtain ⟨x, D, T, h, rfl, ha, l40, q⟩ := h
    refine ⟨_, (pss_one (ps_ret (
        pe_lc (own := [("number", 1)]) (g := (gName 1)) (tt := (tB (tCall spShrd [] E0 (tCons (tDGet (tFld K (tVar 0) "held") (tVar 1)) tNil)))) (te := (tVar 1)) rfl sc_Hand_shared.nd (pi_list (pe_callB (call_sortedDI rfl) (by rfl) m_sorted (by decide +kernel) (pa_cons (pe_fld (pv 0) rfl) pa_nil))) (blkOk_by (N := n_Hand_shared) (sc := defScope a_Hand_shared) (by decide +kernel))
          (fun _ _ _ _ _ => (pg_name (i := 1) sc_Hand_shared.nd rfl (.inl rfl) (hf := .inr rfl))) (fun _ _ _ _ _ => pts_one (pt_val (pe_kn Is hr (by omega) (pa_cons (pe_dget (hu_of hr) (pe_fld (pv 0) rfl) (pv 1) (fun _ _ => rfl)) pa_nil)))) (fun _ _ _ _ _ => (pv 1))))), ?_⟩
    obtain ⟨dx, v, hs, e, w1, d, t, l⟩ := ha
    have ky : (kvH hs).map (·.1) = (h.rows.map (·.1)).map Sum.inl := by
      rw [← l.keys]
      unfold kvH
      rw [List.map_map, List.map_map]
      rfl
    refine ⟨.ref x, rfl, x, C, dx, _, _, rfl, e, X.cl, X.n4, lk4, D, kvH hs, h.rows.map (·.1), rfl, d, ky, by rw [List.length_map]; omega, fun zs L pm pw nL => ?_⟩
    have s1 := same_new (o := .lst (zs.map V.int)) nL
    have eL : (upd H L (.lst (zs.map V.int))) L = some (.lst (zs.map V.int)) := upd_same
    generalize upd H L (.lst (zs.map V.int)) = H1 at s1 eL ⊢
    have lz : zs.length ≤ 40 := by
      have := pm.length_eq
      rw [List.length_map] at this
      omega
    refine ⟨L, rfl, ⟨_, .inl (.inl eL)⟩, fun G nG => lc_it (walk_list (xs := zs.map V.int)) (fun i H' => Same H1 H' ∧ H' G = some (.lst (((zs.take i).filter h.shares).map V.int))) ⟨same_new nG, upd_same⟩ (fun i H' _ p => .inl (.inl (p.1 _ _ eL))) (fun i u H2 H3 hi p y => ?_) (fun H' p => ?_)⟩
    · obtain ⟨sm, eG⟩ := p
      obtain ⟨rfl, gv⟩ := y
      obtain ⟨n, en, rfl⟩ := mapGet gv
      have s02 := s1.trans sm
      obtain ⟨q0, c0, lk0⟩ := look_of ((pm.mem_iff).mp (List.mem_of_getElem? en))
      have l1 := l.keep (.same s02)
      rcases valH n l1 with ⟨a1, a2⟩ | ⟨q', c', a, a1, a2, a3⟩
      · rw [lk0] at a1
        cases a1
      rw [lk0] at a1
      cases a1
      have shn : h.shares n = shrd q0 := by
        unfold Hd.shares
        rw [lk0]
      refine ⟨rfl, .ref x, rfl, x, C, dx, _, _, rfl, s02 _ _ e, X.cl, X.n4, lk4, .int n, rfl, D, .ref a, rfl, a2 ▸ DGr (k := .inl n) (rs s02 d), a, q0, rfl, a3, shrd q0, rfl, ?_⟩
      cases hq : shrd q0 with
      | false =>
        refine iteF ⟨sm, ?_⟩
        rw [eG, filter_take en, shn, hq]
        simp
      | true =>
        refine iteT ⟨.int n, rfl, _, eG, ?_, same_over sm nG, ?_⟩
        · rw [List.length_map]
          refine small1000 (Nat.le_trans (List.length_filter_le _ _) ?_)
          rw [List.length_take]
          exact Nat.le_trans (Nat.min_le_right _ _) (by omega)
        · rw [upd_same, filter_take en, shn, hq, List.map_append]
          rfl
    · obtain ⟨sm, eG⟩ := p
      rw [List.take_of_length_le (by rw [List.length_map]; exact Nat.le_refl _)] at eG
      exact q H' G _ (s1.trans sm) eG ⟨zs, pm, pw, rfl⟩
abbrev a_Hand_lacks : Stmt := inClass (topS 20) 9
abbrev n_Hand_lacks : List Str := ["self", "here", "goal", "there", "lacked", "number"]
theorem sc_Hand_lacks : FnScope n_Hand_lacks ["self"] (defScope a_Hand_lacks) := ⟨rfl, rfl, rfl, by decide +kernel, rfl, by decide +kernel, by decide +kernel⟩
set_option maxHeartbeats 8000000 in
theorem ok_Hand_lacks {f fOw fIo : Addr} {fd fdOw fdIo : FuncData} {k : Nat} {C : Addr} (F : Fun K "lacks" "Hand.lacks" a_Hand_lacks f fd) (Sd1 : C8.Met P w K mg base 2 C "shared" (spShL C) []) (Le : C8.Met P w K mg base 5 C "has_leave" (spLeave C) []) (Wp : C8.Met P w K mg base 1 C "wished_place" (spGoal C) []) (Ow : Kn P w K mg base 1 "own_side" ["rule", "thing"] spOwnS fOw fdOw) (Io : Kn P w K mg base 2 "is_out_at" ["side", "place"] spOutB fIo fdIo) (X : HandTxt K C) (m_tuple : mg "tuple" = none) : FnOk P w K mg base CX0 (k + 6) f fd ["self"] (spLkL C) := by
  refine F.ok sc_Hand_lacks (fun vs H Q E h => ?_) (fun cdv A outer s H vs Q E hr h => ?_)
  · obtain ⟨x, D, T, h, rfl, _⟩ := h
    rfl
  · obtain ⟨x, D, T, h, rfl, ha, l40, hw, q⟩ := h
    refine ⟨_, (pss_cons (ps_par (i := 1) (j := 2) (by rfl) sc_Hand_lacks.nd rfl rfl (by decide) rfl rfl (pa_cons (pe_fld (pv 0) rfl) (pa_cons (C8.pe_mt0 Wp hr (by omega) (pv 0)) pa_nil)) (by rfl))
      (pss_cons (ps_if (pt_cmpR op_eq (pv 2) (pv 1) (nomark _)) (pss_one (ps_ret (pe_tup pa_nil))) pss_nil)
      (pss_cons (ps_set (i := 3) sc_Hand_lacks.nd rfl (.inr rfl) (pe_ifExp (pt_cmpR op_gt (pv 2) (pv 1) (nomark _)) (pe_op op_add (pv 1) pe_int) (pe_op op_sub (pv 1) pe_int)))
      (pss_cons (ps_setLc (i := 4) (own := [("number", 5)]) (g := (gName 5)) (tt := (tNot (tB (tMeth C "has_leave" (spLeave C) [] E0 (tVar 0) (tCons (tVar 5) tNil))))) (te := (tVar 5)) rfl sc_Hand_lacks.nd rfl rfl (sw_true rfl rfl rfl (by decide +kernel)) (pi_list (C8.pe_mt0 Sd1 hr (by omega) (pv 0))) (blkOk_by (N := n_Hand_lacks) (sc := defScope a_Hand_lacks) (by decide +kernel))
          (fun _ _ _ _ _ => (pg_name (i := 5) sc_Hand_lacks.nd rfl (.inl rfl) (hf := .inr rfl))) (fun _ _ _ _ _ => pts_one (pt_not (pt_val (C8.pe_mt Le hr (by omega) (pv 0) (pa_cons (pv 5) pa_nil))))) (fun _ _ _ _ _ => (pv 5)))
      (pss_one (ps_ret (pe_callTy call_tuple_of (by rfl) m_tuple (by decide +kernel) (pa_cons (
        pe_lc (own := [("number", 5)]) (g := (gName 5)) (tt := (tB (tCall spOutB [] E0 (tCons (tCall spOwnS [] E0 (tCons (tDGet (tFld K (tVar 0) "held") (tVar 5)) (tCons (tFld K (tVar 0) "thing") tNil))) (tCons (tVar 3) tNil))))) (te := (tVar 5)) rfl sc_Hand_lacks.nd (pi_list (pv 4)) (blkOk_by (N := n_Hand_lacks) (sc := defScope a_Hand_lacks) (by decide +kernel))
          (fun _ _ _ _ _ => (pg_name (i := 5) sc_Hand_lacks.nd rfl (.inl rfl) (hf := .inr rfl))) (fun _ _ _ _ _ => pts_one (pt_val (pe_kn Io hr (by omega) (pa_cons (pe_kn Ow hr (by omega) (pa_cons (pe_dget (hu_of hr) (pe_fld (pv 0) rfl) (pv 5) (fun _ _ => rfl)) (pa_cons (pe_fld (pv 0) rfl) pa_nil))) (pa_cons (pv 3) pa_nil))))) (fun _ _ _ _ _ => (pv 5))) pa_nil)))))))), ?_⟩
    have ha0 := ha
    obtain ⟨dx, v, hs, e, w1, d, t, l⟩ := ha
    refine ⟨.ref x, rfl, x, C, dx, _, _, rfl, e, X.cl, X.n2, lk2, .ref x, rfl, x, dx, _, rfl, e, lkm, x, D, T, h, rfl, ha0, hw, _, _, rfl, ?_⟩
    dsimp only [List.set]
    refine ⟨_, rfl, _, rfl, rfl, decide (h.goal = h.place), congrArg V.bl (decide_eq_decide.mpr ⟨fun z => by injection z, fun z => by rw [z]⟩), ?_⟩
    by_cases hg : h.goal = h.place
    · rw [decide_eq_true hg]
      exact iteT ⟨(show 0 ≤ sizeLine by decide), fun g ng => q _ g [] (same_new ng) upd_same (.inl ⟨hg, rfl⟩)⟩
    rw [decide_eq_false hg]
    refine iteF ⟨_, rfl, _, rfl, _, _, rfl, rfl, _, rfl, tif_join (v := .int h.there) (fun c' Q qq => ?_) (fun c' Q qq => ?_) ?_⟩
    · have c2 := of_decide_eq_true c'
      refine ⟨_, rfl, _, 1, rfl, rfl, ?_⟩
      show Q (.int (h.place + 1)) H
      rw [show h.place + 1 = h.there by unfold Hd.there; rw [if_pos c2]]
      exact qq
    · have c2 := of_decide_eq_false (Bool.eq_false_iff.mpr c')
      refine ⟨_, rfl, _, 1, rfl, rfl, ?_⟩
      show Q (.int (h.place - 1)) H
      rw [show h.place - 1 = h.there by unfold Hd.there; rw [if_neg c2]]
      exact qq
    dsimp only [List.set]
    refine ⟨.ref x, rfl, x, dx, _, rfl, e, lkm, x, D, T, h, rfl, ha0, l40, fun H1 S ss s1 eS sL => ?_⟩
    have lS := sL.len
    refine ⟨S, rfl, ⟨_, .inl (.inl eS)⟩, fun G nG => lc_it (walk_list (xs := ss.map V.int)) (fun i H' => Same H1 H' ∧ H' G = some (.lst (((ss.take i).filter fun n => !h.lv n).map V.int))) ⟨same_new nG, upd_same⟩ (fun i H' _ p => .inl (.inl (p.1 _ _ eS))) (fun i u H2 H3 hi p y => ?_) (fun H2 p => ?_)⟩
    · obtain ⟨sm, eG⟩ := p
      obtain ⟨rfl, gv⟩ := y
      obtain ⟨n, en, rfl⟩ := mapGet gv
      have s02 := s1.trans sm
      obtain ⟨q0, c0, lk0, sh0⟩ := sL.mem (List.mem_of_getElem? en)
      have lvn : h.lv n = leaveB h.thing q0 c0 := by
        unfold Hd.lv
        rw [lk0]
      refine ⟨rfl, .ref x, rfl, x, dx, _, rfl, s02 _ _ e, lkm, .int n, rfl, x, D, T, h, n, q0, c0, rfl, ha0.same s02, lk0, sh0, fun H4 s4 => ⟨leaveB h.thing q0 c0, rfl, ?_⟩⟩
      have eG4 := s4 _ _ eG
      cases hq : leaveB h.thing q0 c0 with
      | true =>
        refine iteF ⟨sm.trans s4, ?_⟩
        rw [eG4, filter_take (f := fun n => !h.lv n) en, lvn, hq]
        simp
      | false =>
        refine iteT ⟨.int n, rfl, _, eG4, ?_, same_over (sm.trans s4) nG, ?_⟩
        · rw [List.length_map]
          refine small1000 (Nat.le_trans (List.length_filter_le _ _) ?_)
          rw [List.length_take]
          exact Nat.le_trans (Nat.min_le_right _ _) (by omega)
        · rw [upd_same, filter_take (f := fun n => !h.lv n) en, lvn, hq, List.map_append]
          rfl
    obtain ⟨sm, eG⟩ := p
    rw [List.take_of_length_le (by rw [List.length_map]; exact Nat.le_refl _)] at eG
    have s02 := s1.trans sm
    dsimp only [List.set]
    have lF : (ss.filter fun n => !h.lv n).length ≤ 40 := Nat.le_trans (List.length_filter_le _ _) (by omega)
    have mF : ∀ n ∈ ss.filter fun n => !h.lv n, ∃ q c, look h.rows n = some (q, c) ∧ shrd q = true := fun n hn => sL.mem (List.mem_filter.mp hn).1
    refine ⟨.ref G, rfl, G, rfl, ⟨_, .inl (.inl eG)⟩, fun W nW => lc_it (walk_list (xs := (ss.filter fun n => !h.lv n).map V.int)) (fun i H' => Same H2 H' ∧ H' W = some (.lst ((((ss.filter fun n => !h.lv n).take i).filter h.ou).map V.int))) ⟨same_new nW, upd_same⟩ (fun i H' _ p => .inl (.inl (p.1 _ _ eG))) (fun i u H3 H4 hi p y => ?_) (fun H3 p => ?_)⟩
    · obtain ⟨sm3, eW⟩ := p
      obtain ⟨rfl, gv⟩ := y
      obtain ⟨n, en, rfl⟩ := mapGet gv
      have s03 := s02.trans sm3
      obtain ⟨q0, c0, lk0, sh0⟩ := mF n (List.mem_of_getElem? en)
      have oun : h.ou n = outB (ownS q0 h.thing) h.there := by
        unfold Hd.ou
        rw [lk0]
      rcases valH n (l.keep (.same s03)) with ⟨a1, a2⟩ | ⟨q', c', a, a1, a2, a3⟩
      · rw [lk0] at a1
        cases a1
      rw [lk0] at a1
      cases a1
      refine ⟨rfl, .ref x, rfl, x, C, dx, _, _, rfl, s03 _ _ e, X.cl, X.n4, lk4, .int n, rfl, D, .ref a, rfl, a2 ▸ DGr (k := .inl n) (rs s03 d), .ref x, rfl, x, C, dx, _, _, rfl, s03 _ _ e, X.cl, X.n1, lk1, a, q0, h.thing, rfl, a3, fun p1 e1 => ⟨_, rfl, p1, _, h.there, rfl, e1, fun H5 s5 => ⟨outB (ownS q0 h.thing) h.there, rfl, ?_⟩⟩⟩
      have eW5 := s5 _ _ eW
      cases hq : outB (ownS q0 h.thing) h.there with
      | false =>
        refine iteF ⟨sm3.trans s5, ?_⟩
        rw [eW5, filter_take (f := h.ou) en, oun, hq]
        simp
      | true =>
        refine iteT ⟨.int n, rfl, _, eW5, ?_, same_over (sm3.trans s5) nW, ?_⟩
        · rw [List.length_map]
          refine small1000 (Nat.le_trans (List.length_filter_le _ _) ?_)
          rw [List.length_take]
          exact Nat.le_trans (Nat.min_le_right _ _) (by omega)
        · rw [upd_same, filter_take (f := h.ou) en, oun, hq, List.map_append]
          rfl
    · obtain ⟨sm3, eW⟩ := p
      rw [List.take_of_length_le (by rw [List.length_map]; exact Nat.le_refl _)] at eW
      exact ⟨W, _, rfl, .inl ⟨.inl (.inl eW), fun g ng => q _ g _ ((s02.trans sm3).trans (same_new ng)) upd_same (.inr ⟨hg, ss, sL, rfl⟩)⟩⟩
end
end K61

set_option Elab.async false
set_option linter.all false
set_option maxRecDepth 100000
namespace K61
open PySem PySem.Spec PyProof.Rows L2 NB

/-! ### what a hand answers and hears -/
def TupK (H H' : Hp) : Prop := ∀ b xs, H b = some (.tup xs) → H' b = some (.tup xs)
theorem SideAt.tk {H H' : Hp} {p : Addr} {s : Sd} (h : SideAt H p s) (k : TupK H H') : SideAt H' p s := k _ _ h
theorem RuleAt.tk {H H' : Hp} {p : Addr} {q : Rl} (h : RuleAt H p q) (k : TupK H H') : RuleAt H' p q := by
  obtain ⟨p1, p2, e, h1, h2⟩ := h
  exact ⟨p1, p2, k _ _ e, h1.tk k, h2.tk k⟩
theorem WV.tk {H H' : Hp} {v : V} : ∀ {o : Option Wi}, WV H v o → TupK H H' → WV H' v o
  | none, h, _ => h
  | some w, ⟨p, q, e, e1, e2⟩, k => ⟨p, q, e, k _ _ e1, k _ _ e2⟩
theorem LetAt.tk {H H' : Hp} {p : Addr} {l : Lt} (h : LetAt H p l) (k : TupK H H') : LetAt H' p l := by
  obtain ⟨v, e, w⟩ := h
  exact ⟨v, k _ _ e, w.tk k⟩
theorem Held.tk {H H' : Hp} (k : TupK H H') : ∀ {hs : List (Int × Addr)} {rows : List (Int × Rl × Int)}, Held H hs rows → Held H' hs rows
  | [], [], _ => trivial
  | _ :: _, _ :: _, ⟨a, b, c⟩ => ⟨a, b.tk k, c.tk k⟩
  | [], _ :: _, h => h.elim
  | _ :: _, [], h => h.elim
/-- all but a hand and its tally stands -/
def ButH (x T : Addr) (H H' : Hp) : Prop := ∀ b o, b ≠ x → b ≠ T → H b = some o → H' b = some o
theorem ButH.of {x T : Addr} {H H' : Hp} (s : Same H H') : ButH x T H H' := fun b o _ _ e => s b o e
theorem ButH.trans {x T : Addr} {H H1 H2 : Hp} (a : ButH x T H H1) (b : ButH x T H1 H2) : ButH x T H H2 := fun c o n m e => b c o n m (a c o n m e)
theorem ButH.tk {C : Addr} {x D T : Addr} {h : Hd} {H H' : Hp} (b : ButH x T H H') (a : HandAt C H x D T h) : TupK H H' := fun c xs e => by
  obtain ⟨dx, v, hs, e1, _, _, t, _⟩ := a
  refine b c _ (fun z => ?_) (fun z => ?_) e
  · rw [z, show H x = _ from e1] at e
    cases e
  · rw [z, t] at e
    cases e
/-- letters to things, in a tuple -/
abbrev Bt := Int × Lt
def PrAt (H : Hp) (a : Addr) (b : Bt) : Prop := ∃ l, H a = some (.tup [.int b.1, .ref l]) ∧ LetAt H l b.2
def BtAt (H : Hp) : List Addr → List Bt → Prop
  | [], [] => True
  | a :: as, b :: bs => PrAt H a b ∧ BtAt H as bs
  | _, _ => False
def BAt (H : Hp) (g : Addr) (bs : List Bt) : Prop := ∃ as : List Addr, H g = some (.tup (as.map V.ref)) ∧ BtAt H as bs
theorem PrAt.tk {H H' : Hp} {a : Addr} {b : Bt} (h : PrAt H a b) (k : TupK H H') : PrAt H' a b := by
  obtain ⟨l, e, w⟩ := h
  exact ⟨l, k _ _ e, w.tk k⟩
theorem BtAt.tk {H H' : Hp} (k : TupK H H') : ∀ {as : List Addr} {bs : List Bt}, BtAt H as bs → BtAt H' as bs
  | [], [], _ => trivial
  | _ :: _, _ :: _, ⟨a, c⟩ => ⟨a.tk k, c.tk k⟩
  | [], _ :: _, h => h.elim
  | _ :: _, [], h => h.elim
theorem BAt.tk {H H' : Hp} {g : Addr} {bs : List Bt} (h : BAt H g bs) (k : TupK H H') : BAt H' g bs := by
  obtain ⟨as, e, w⟩ := h
  exact ⟨as, k _ _ e, w.tk k⟩
theorem tk_same {H H' : Hp} (s : Same H H') : TupK H H' := fun b xs e => s _ _ e
def putC (rows : List (Int × Rl × Int)) (n c : Int) : List (Int × Rl × Int) := rows.map fun r => if r.1 = n then (r.1, r.2.1, c) else r
theorem putC_keys (rows : List (Int × Rl × Int)) (n c : Int) : (putC rows n c).map (·.1) = rows.map (·.1) := by
  unfold putC
  rw [List.map_map]
  refine List.map_congr_left fun r _ => ?_
  show (if r.1 = n then (r.1, r.2.1, c) else r).1 = r.1
  split <;> rfl
theorem look_put (rows : List (Int × Rl × Int)) (n c m : Int) : look (putC rows n c) m = (look rows m).map fun z => if m = n then (z.1, c) else z := by
  induction rows with
  | nil => rfl
  | cons r rows ih =>
    have e : putC (r :: rows) n c = (if r.1 = n then (r.1, r.2.1, c) else r) :: putC rows n c := rfl
    rw [e, look_cons, look_cons, ih]
    have e1 : (if r.1 = n then (r.1, r.2.1, c) else r).1 = r.1 := by split <;> rfl
    rw [e1]
    by_cases h : r.1 = m
    · rw [if_pos h, if_pos h]
      by_cases k : r.1 = n
      · rw [if_pos k]
        simp [← h, k]
      · rw [if_neg k]
        have : ¬ m = n := fun z => k (h.trans z)
        simp [this]
    · rw [if_neg h, if_neg h]
theorem put_kvT {rows : List (Int × Rl × Int)} {n c : Int} {z : Rl × Int} (h : look rows n = some z) : putK (kvT rows) (Sum.inl n) (V.int c) = kvT (putC rows n c) := by
  have hany : ((kvT rows).any fun kv => decide (kv.1 = (Sum.inl n : Key))) = true := by
    have hv := valT rows n
    rw [h] at hv
    unfold valV at hv
    cases hf : (kvT rows).find? fun kv => decide (kv.1 = (Sum.inl n : Key)) with
    | none =>
      rw [hf] at hv
      cases hv
    | some kv =>
      have hk := List.find?_some hf
      exact List.any_eq_true.mpr ⟨kv, List.mem_of_find?_eq_some hf, hk⟩
  unfold putK
  rw [if_pos hany]
  unfold kvT putC
  rw [List.map_map, List.map_map]
  refine List.map_congr_left fun r _ => ?_
  show (if (Sum.inl r.1 : Key) = Sum.inl n then ((Sum.inl r.1 : Key), V.int c) else (Sum.inl r.1, V.int r.2.2)) = (Sum.inl (if r.1 = n then (r.1, r.2.1, c) else r).1, V.int (if r.1 = n then (r.1, r.2.1, c) else r).2.2)
  by_cases k : r.1 = n
  · rw [if_pos (by rw [k]), if_pos k]
  · rw [if_neg (fun z => k (Sum.inl.inj z)), if_neg k]
theorem Held.put {H : Hp} (n c : Int) : ∀ {hs : List (Int × Addr)} {rows : List (Int × Rl × Int)}, Held H hs rows → Held H hs (putC rows n c)
  | [], [], _ => trivial
  | z :: hs, r :: rows, ⟨a, b, l⟩ => by
    have e : putC (r :: rows) n c = (if r.1 = n then (r.1, r.2.1, c) else r) :: putC rows n c := rfl
    rw [e]
    refine ⟨?_, ?_, l.put n c⟩
    · split
      · exact a
      · exact a
    · split
      · exact b
      · exact b
  | [], _ :: _, h => h.elim
  | _ :: _, [], h => h.elim
def Hd.setc (h : Hd) (n c : Int) : Hd := { h with rows := putC h.rows n c }
def Hd.cnd (h : Hd) (z : Rl × Int) (k : Int) : Bool := decide (z.2 = k) && (leaveB h.thing z.1 z.2 && !outB (ownS z.1 h.thing) h.place)
def Hd.cup (h : Hd) (z : Rl × Int) (k : Int) : Int := if h.cnd z k = true then z.2 + 1 else z.2
def Hd.hup (h : Hd) (n : Int) (z : Rl × Int) (k : Int) : Hd := if h.cnd z k = true then h.setc n (z.2 + 1) else h
def Hd.ans (h : Hd) (n k : Int) : Hd × List Bt := match look h.rows n with
  | none => (h, [])
  | some z => (h.hup n z k, if h.cup z k = k then [] else [((othT z.1 h.thing : Nat), ("leave", [n, h.cup z k], h.wish))])
theorem look_hup {h : Hd} {n k : Int} {z : Rl × Int} (e : look h.rows n = some z) : look (h.hup n z k).rows n = some (z.1, h.cup z k) := by
  unfold Hd.hup Hd.cup
  by_cases c : h.cnd z k = true
  · rw [if_pos c, if_pos c]
    show look (putC h.rows n (z.2 + 1)) n = _
    rw [look_put, e]
    simp
  · rw [if_neg c, if_neg c]
    exact e
theorem ans_of {h : Hd} {n k : Int} {z : Rl × Int} (e : look h.rows n = some z) : h.ans n k = (h.hup n z k, if h.cup z k = k then ([] : List Bt) else [(((othT z.1 h.thing : Nat) : Int), (("leave" : Str), [n, h.cup z k], h.wish))]) := by
  unfold Hd.ans
  rw [e]
theorem hup_thing (h : Hd) (n : Int) (z : Rl × Int) (k : Int) : (h.hup n z k).thing = h.thing := by unfold Hd.hup; split <;> rfl
theorem hup_wish (h : Hd) (n : Int) (z : Rl × Int) (k : Int) : (h.hup n z k).wish = h.wish := by unfold Hd.hup; split <;> rfl
theorem HandAt.setc {C : Addr} {H : Hp} {x D T : Addr} {h : Hd} {n c : Int} {z : Rl × Int} (a : HandAt C H x D T h) (hd : D ≠ T) (e : look h.rows n = some z) :
    H T = some (.dK (kvT h.rows)) ∧ HandAt C (upd H T (.dK (putK (kvT h.rows) (Sum.inl n) (V.int c)))) x D T (h.setc n c) ∧ ButH x T H (upd H T (.dK (putK (kvT h.rows) (Sum.inl n) (V.int c)))) := by
  obtain ⟨dx, v, hs, e1, w1, d, t, l⟩ := a
  have tk : TupK H (upd H T (.dK (putK (kvT h.rows) (Sum.inl n) (V.int c)))) := fun b xs eb => (upd_ne (fun q => by rw [q, t] at eb; cases eb)).trans eb
  refine ⟨t, ⟨dx, v, hs, (upd_ne (fun q => by rw [← q, show H x = _ from e1] at t; cases t)).trans e1, w1.tk tk, ru hd d, ?_, (l.tk tk).put n c⟩, fun b o _ n2 eb => (upd_ne n2).trans eb⟩
  rw [upd_same, put_kvT e]
  rfl
def spAns (C : Addr) : Sp := fun vs H Q _ => ∃ (x D T : Addr) (h : Hd) (n k : Int) (z : Rl × Int), vs = [.ref x, .int n, .int k] ∧ HandAt C H x D T h ∧ D ≠ T ∧ look h.rows n = some z ∧ shrd z.1 = true ∧ h.rows.length ≤ 40 ∧ ∀ H' g, ButH x T H H' → HandAt C H' x D T (h.ans n k).1 → BAt H' g (h.ans n k).2 → Q (.ref g) H'
section
variable {P : Program} {w : World} {K : PySem.W.Frag} {mg : Str → Option Value} {base : Heap}
abbrev a_Hand_answers : Stmt := inClass (topS 20) 13
abbrev n_Hand_answers : List Str := ["self", "number", "count", "leave"]
theorem sc_Hand_answers : FnScope n_Hand_answers ["self", "number", "count"] (defScope a_Hand_answers) := ⟨rfl, rfl, rfl, by decide +kernel, rfl, by decide +kernel, by decide +kernel⟩
set_option maxHeartbeats 8000000 in
theorem ok_Hand_answers {f fOw fIo fOt : Addr} {fd fdOw fdIo fdOt : FuncData} {k : Nat} {C : Addr} (F : Fun K "answers" "Hand.answers" a_Hand_answers f fd) (Le : C8.Met P w K mg base 5 C "has_leave" (spLeave C) []) (Ow : Kn P w K mg base 1 "own_side" ["rule", "thing"] spOwnS fOw fdOw) (Io : Kn P w K mg base 2 "is_out_at" ["side", "place"] spOutB fIo fdIo) (Ot : Kn P w K mg base 1 "other_thing" ["rule", "thing"] spOthT fOt fdOt) (X : HandTxt K C)  : FnOk P w K mg base CX0 (k + 6) f fd ["self", "number", "count"] (spAns C) := by
  refine F.ok sc_Hand_answers (fun vs H Q E h => ?_) (fun cdv A outer s H vs Q E hr h => ?_)
  · obtain ⟨x, D, T, h, n, k, z, rfl, _⟩ := h
    rfl
  · obtain ⟨x, D, T, h, n, k, z, rfl, ha, hd, lk0, sh0, l40, q⟩ := h
    refine ⟨_, (C8.pss_cut (ps_if (PW.pt (pw_and (pt_cmpR op_eq (pe_dget (hu_of hr) (pe_fld (pv 0) rfl) (pv 1) (fun _ _ => rfl)) (pv 2) (nomark _)) (pw_and1 (pt_val (C8.pe_mt Le hr (by omega) (pv 0) (pa_cons (pv 1) pa_nil)))))) (pss_one (ps_if (pt_not (pt_val (pe_kn Io hr (by omega) (pa_cons (pe_kn Ow hr (by omega) (pa_cons (pe_dget (hu_of hr) (pe_fld (pv 0) rfl) (pv 1) (fun _ _ => rfl)) (pa_cons (pe_fld (pv 0) rfl) pa_nil))) (pa_cons (pe_fld (pv 0) rfl) pa_nil))))) (pss_one (ps_augS (pe_fld (pv 0) rfl) (pv 1) (get_dictK (hu_of hr)) pe_int ip_add (set_dict (hu_of hr)))) pss_nil)) pss_nil)
      (pss_cons (ps_if (pt_cmpR op_eq (pe_dget (hu_of hr) (pe_fld (pv 0) rfl) (pv 1) (fun _ _ => rfl)) (pv 2) (nomark _)) (pss_one (ps_ret (pe_tup pa_nil))) pss_nil)
      (pss_cons (ps_set (i := 3) sc_Hand_answers.nd rfl (.inl rfl) (pe_tup (pa_cons pe_str (pa_cons (pv 1) (pa_cons (pe_dget (hu_of hr) (pe_fld (pv 0) rfl) (pv 1) (fun _ _ => rfl)) (pa_cons (pe_fld (pv 0) rfl) pa_nil))))))
      (pss_one (ps_ret (pe_tup (pa_cons (pe_tup (pa_cons (pe_kn Ot hr (by omega) (pa_cons (pe_dget (hu_of hr) (pe_fld (pv 0) rfl) (pv 1) (fun _ _ => rfl)) (pa_cons (pe_fld (pv 0) rfl) pa_nil))) (pa_cons (pv 3) pa_nil))) pa_nil))))))), ?_⟩
    obtain ⟨rl, c⟩ := z
    have ha0 := ha
    obtain ⟨tT, hset, bset⟩ := ha.setc (c := c + 1) hd lk0
    obtain ⟨dx, v, hs, e, w1, d, t, l⟩ := ha
    have vt : valV (kvT h.rows) (Sum.inl n) = some (V.int c) := by
      rw [valT, lk0]
      rfl
    have sz : (kvT h.rows).length < sizeLine := by
      unfold kvT
      rw [List.length_map]
      exact small1000 (by omega)
    refine ⟨fun σ H' => σ = [some (.ref x), some (.int n), some (.int k), none] ∧ ButH x T H H' ∧ HandAt C H' x D T (h.hup n (rl, c) k), ?_, fun σ H1 y => ?_⟩
    · unfold Hd.hup Hd.cnd
      refine ⟨.ref x, rfl, x, C, dx, _, _, rfl, e, X.cl, X.n5, lk5, .int n, rfl, T, .int c, rfl, vt ▸ DGet.k (k := .inl n) t, .int k, rfl, rfl, decide (c = k), congrArg V.bl (decide_eq_decide.mpr ⟨fun z => by injection z, fun z => by rw [z]⟩), ?_⟩
      cases h1 : decide (c = k) with
      | false => exact iteF ⟨rfl, fun _ _ _ _ e => e, ha0⟩
      | true =>
      refine iteT ⟨.ref x, rfl, x, dx, _, rfl, e, lkm, .int n, rfl, x, D, T, h, n, rl, c, rfl, ha0, lk0, sh0, fun H1 s1 => ⟨leaveB h.thing rl c, rfl, ?_⟩⟩
      cases h2 : leaveB h.thing rl c with
      | false => exact iteF ⟨rfl, ButH.of s1, ha0.same s1⟩
      | true =>
      rcases valH n (l.keep (.same s1)) with ⟨a1, a2⟩ | ⟨q', c', a, a1, a2, a3⟩
      · rw [lk0] at a1
        cases a1
      rw [lk0] at a1
      cases a1
      refine iteT ⟨.ref x, rfl, x, C, dx, _, _, rfl, s1 _ _ e, X.cl, X.n4, lk4, .int n, rfl, D, .ref a, rfl, a2 ▸ DGr (k := .inl n) (rs s1 d), .ref x, rfl, x, C, dx, _, _, rfl, s1 _ _ e, X.cl, X.n1, lk1, a, rl, h.thing, rfl, a3, fun p1 e1 => ⟨.ref x, rfl, x, C, dx, _, _, rfl, s1 _ _ e, X.cl, X.n2, lk2, p1, _, h.place, rfl, e1, fun H2 s2 => ⟨outB (ownS rl h.thing) h.place, rfl, ?_⟩⟩⟩
      have s02 := s1.trans s2
      cases h3 : outB (ownS rl h.thing) h.place with
      | true => exact iteF ⟨rfl, ButH.of s02, ha0.same s02⟩
      | false =>
        obtain ⟨tT2, hset2, bset2⟩ := (ha0.same s02).setc (c := c + 1) hd lk0
        refine iteT ⟨.ref x, rfl, x, C, dx, _, _, rfl, s02 _ _ e, X.cl, X.n5, lk5, .int n, rfl, T, .int c, rfl, vt ▸ DGet.k (k := .inl n) tT2, c, 1, rfl, rfl, T, _, rfl, DPut.k (k := .inl n) tT2 sz, rfl, (ButH.of s02).trans bset2, hset2⟩
    · obtain ⟨rfl, b1, ha1⟩ := y
      have ha1' := ha1
      have lk1' := look_hup (k := k) lk0
      have q1 := q
      rw [ans_of lk0] at q1
      dsimp only at q1
      have et := hup_thing h n (rl, c) k
      have ew := hup_wish h n (rl, c) k
      generalize h.hup n (rl, c) k = g at ha1 ha1' lk1' et ew q1
      generalize h.cup (rl, c) k = c' at lk1' q1
      obtain ⟨dx1, v1, hs1, e1, w11, d1, t1, l1⟩ := ha1'
      have vt1 : valV (kvT g.rows) (Sum.inl n) = some (V.int c') := by
        rw [valT, lk1']
        rfl
      refine ⟨.ref x, rfl, x, C, dx1, _, _, rfl, e1, X.cl, X.n5, lk5, .int n, rfl, T, .int c', rfl, vt1 ▸ DGet.k (k := .inl n) t1, .int k, rfl, rfl, decide (c' = k), congrArg V.bl (decide_eq_decide.mpr ⟨fun z => by injection z, fun z => by rw [z]⟩), ?_⟩
      by_cases hk : c' = k
      · rw [decide_eq_true hk]
        refine iteT ⟨(show 0 ≤ sizeLine by decide), fun G nG => ?_⟩
        have s2 := same_new (o := HO.tup []) nG
        refine q1 _ G (b1.trans (ButH.of s2)) (ha1.same s2) ?_
        rw [if_pos hk]
        exact ⟨[], upd_same, trivial⟩
      rw [decide_eq_false hk]
      refine iteF ⟨_, rfl, .ref x, rfl, x, C, dx1, _, _, rfl, e1, X.cl, X.n5, lk5, .int n, rfl, T, .int c', rfl, vt1 ▸ DGet.k (k := .inl n) t1, .ref x, rfl, x, C, dx1, _, _, rfl, e1, X.cl, X.n3, lk3, (show 4 ≤ sizeLine by decide), fun L nL => ?_⟩
      have sL := same_new (o := HO.tup [V.str "leave", V.int n, V.int c', v1]) nL
      have eL : LetAt (upd H1 L (.tup [V.str "leave", V.int n, V.int c', v1])) L ("leave", [n, c'], h.wish) := ⟨v1, upd_same, ew ▸ w11.tk (tk_same sL)⟩
      have ha2 := ha1.same sL
      have b2 := b1.trans (ButH.of (x := x) (T := T) sL)
      have e2 := sL _ _ e1
      have d2 := rs sL d1
      have l2 := l1.tk (tk_same sL)
      generalize upd H1 L (.tup [V.str "leave", V.int n, V.int c', v1]) = H2 at eL ha2 b2 e2 d2 l2 ⊢
      rcases valH n l2 with ⟨a1, a2⟩ | ⟨q', c2, a, a1, a2, a3⟩
      · rw [lk1'] at a1
        cases a1
      rw [lk1'] at a1
      cases a1
      dsimp only [List.set]
      refine ⟨.ref x, rfl, x, C, dx1, _, _, rfl, e2, X.cl, X.n4, lk4, .int n, rfl, D, .ref a, rfl, a2 ▸ DGr (k := .inl n) d2, .ref x, rfl, x, C, dx1, _, _, rfl, e2, X.cl, X.n1, lk1, a, rl, g.thing, rfl, a3, _, rfl, (show 2 ≤ sizeLine by decide), fun M nM => ⟨(show 1 ≤ sizeLine by decide), fun G nG => ?_⟩⟩
      have sM := same_new (o := HO.tup [V.int (othT rl g.thing : Nat), V.ref L]) nM
      have sG := same_new (o := HO.tup [V.ref M]) nG
      have s2 := sM.trans sG
      refine q1 _ G (b2.trans (ButH.of s2)) (ha2.same s2) ?_
      rw [if_neg hk]
      refine ⟨[M], upd_same, ⟨L, ?_, eL.tk (tk_same s2)⟩, trivial⟩
      rw [et] at sG ⊢
      exact sG _ _ upd_same
end
end K61

set_option Elab.async false
set_option linter.all false
set_option maxRecDepth 100000
namespace K61
open PySem PySem.Spec PyProof.Rows L2 NB

theorem cut_to {K : PySem.W.Frag} {H : Hp} {p : Addr} {vs : List V} {c : Nat} {Q : VK} (h : H p = some (.tup vs)) (hc : c ≤ vs.length) (q : ∀ g H', Same H H' → H' g = some (.tup (vs.take c)) → Q (.ref g) H') : rSlA K (.ref p) none (some (c : Int)) H Q := by
  have e1 : HT.sIx vs.length vs.length (some (c : Int)) = c := by
    rw [HT.sIx_nat]
    omega
  refine ⟨p, _, rfl, .inl (.inl h), fun w => ?_, fun w g ng => ?_⟩
  · rw [e1] at w
    refine q p H (Same.refl H) ?_
    rw [List.take_of_length_le (by omega)]
    exact h
  · refine q g _ (same_new ng) ?_
    rw [upd_same]
    unfold cutV
    rw [e1, HT.sIx_none, List.drop_zero]
    rfl
theorem ixN_last (n : Nat) : ixN (n + 1) (-1) = some n := by
  unfold ixN
  rw [if_neg (by omega), if_pos (by omega)]
  congr 1
  omega
theorem at_last {α : Type} (xs : List α) (x : α) : atI (xs ++ [x]) (-1) = some x := by
  unfold atI
  rw [List.length_append]
  show (ixN (xs.length + 1) (-1)).bind _ = _
  rw [ixN_last]
  show (xs ++ [x])[xs.length]? = some x
  rw [List.getElem?_append_right (Nat.le_refl _), Nat.sub_self]
  rfl

/-! ### a hand hears -/
def Hd.hw (h : Hd) (o : Option Wi) : Hd := if wishN o > wishN h.wish then { h with wish := o } else h
def mx (i j : Int) : Int := if j > i then j else i
def Hd.hear2 (h : Hd) (a : Str) (o : Option Wi) (n k : Int) (z : Rl × Int) : Hd × List Bt :=
  if (decide (a = "leave") || decide (wishN o < wishN h.wish)) = true then (h.setc n (mx z.2 k), []) else (h.setc n (mx z.2 k)).ans n k
def Hd.hear (h : Hd) (l : Lt) : Hd × List Bt := match l.2.1 with
  | [n, k] => match look h.rows n with
    | some z => if shrd z.1 = true then (h.hw l.2.2).hear2 l.1 l.2.2 n k z else (h.hw l.2.2, [])
    | none => (h.hw l.2.2, [])
  | _ => (h.hw l.2.2, [])
theorem hw_rows (h : Hd) (o : Option Wi) : (h.hw o).rows = h.rows := by unfold Hd.hw; split <;> rfl
theorem hw_thing (h : Hd) (o : Option Wi) : (h.hw o).thing = h.thing := by unfold Hd.hw; split <;> rfl
theorem put_wish (i p v d t u : V) : putF "wish" u [("thing", i), ("place", p), ("wish", v), ("held", d), ("tally", t)] = ([("thing", i), ("place", p), ("wish", u), ("held", d), ("tally", t)] : List (Str × V)) := by
  have n1 : ¬ (("thing" : Str) = "wish") := by decide +kernel
  have n2 : ¬ (("place" : Str) = "wish") := by decide +kernel
  simp [putF, n1, n2]
theorem HandAt.wish {C : Addr} {H : Hp} {x D T dx : Addr} {h : Hd} {v u : V} {hs : List (Int × Addr)} {o : Option Wi} (e : HandF C H x dx v D T h) (d : Rd H D (.dK (kvH hs))) (t : H T = some (.dK (kvT h.rows))) (l : Held H hs h.rows) (w : WV H u o) :
    HandAt C (upd H x (.ins C dx [("thing", .int (h.thing : Int)), ("place", .int h.place), ("wish", u), ("held", .ref D), ("tally", .ref T)])) x D T { h with wish := o } ∧ ButH x T H (upd H x (.ins C dx [("thing", .int (h.thing : Int)), ("place", .int h.place), ("wish", u), ("held", .ref D), ("tally", .ref T)])) := by
  have e' : H x = some (.ins C dx [("thing", .int (h.thing : Int)), ("place", .int h.place), ("wish", v), ("held", .ref D), ("tally", .ref T)]) := e
  have tk : TupK H (upd H x (.ins C dx [("thing", .int (h.thing : Int)), ("place", .int h.place), ("wish", u), ("held", .ref D), ("tally", .ref T)])) := fun b xs eb => (upd_ne (fun q => by rw [q, e'] at eb; cases eb)).trans eb
  exact ⟨⟨dx, u, hs, upd_same, w.tk tk, ru (rn d e') d, (upd_ne (fun q => by rw [q, e'] at t; cases t)).trans t, l.tk tk⟩, fun b o n1 _ eb => (upd_ne n1).trans eb⟩
theorem dstr {a b : Str} : decide (V.str a = V.str b) = decide (a = b) := decide_eq_decide.mpr ⟨fun h => by injection h, congrArg _⟩
theorem hear_none {h : Hd} {l : Lt} (e : l.2.1 = []) : h.hear l = (h.hw l.2.2, ([] : List Bt)) := by
  unfold Hd.hear
  rw [e]
theorem hear_two {h : Hd} {a : Str} {n k : Int} {o : Option Wi} : h.hear (a, [n, k], o) = (match look h.rows n with
    | some z => if shrd z.1 = true then (h.hw o).hear2 a o n k z else (h.hw o, [])
    | none => (h.hw o, [])) := rfl
def spHear (C : Addr) : Sp := fun vs H Q _ => ∃ (x D T g : Addr) (h : Hd) (l : Lt), vs = [.ref x, .ref g] ∧ HandAt C H x D T h ∧ D ≠ T ∧ LetAt H g l ∧ LetP l ∧ (∀ w, l.2.2 = some w → h.thing < w.2.length) ∧ h.rows.length ≤ 40 ∧ ∀ H' a, ButH x T H H' → HandAt C H' x D T (h.hear l).1 → BAt H' a (h.hear l).2 → Q (.ref a) H'
section
variable {P : Program} {w : World} {K : PySem.W.Frag} {mg : Str → Option Value} {base : Heap}
abbrev a_Hand_hear : Stmt := inClass (topS 20) 11
abbrev n_Hand_hear : List Str := ["self", "letter", "wish", "word", "number", "count"]
theorem sc_Hand_hear : FnScope n_Hand_hear ["self", "letter"] (defScope a_Hand_hear) := ⟨rfl, rfl, rfl, by decide +kernel, rfl, by decide +kernel, by decide +kernel⟩
set_option maxHeartbeats 8000000 in
theorem ok_Hand_hear {f fIl fWn : Addr} {fd fdIl fdWn : FuncData} {k : Nat} {C : Addr} (F : Fun K "hear" "Hand.hear" a_Hand_hear f fd) (Il : Kn P w K mg base 4 "is_letter" ["thing"] (spLook letterD) fIl fdIl) (Hpl : C8.Met P w K mg base 1 C "has_place" (spHasPl C) []) (Wn : Kn P w K mg base 1 "wish_number" ["wish"] spWishN fWn fdWn) (Sh : C8.Met P w K mg base 3 C "shares" (spShares C) []) (An : C8.Met P w K mg base 6 C "answers" (spAns C) []) (X : HandTxt K C) (m_max : mg "max" = none) : FnOk P w K mg base CX0 (k + 7) f fd ["self", "letter"] (spHear C) := by
  refine F.ok sc_Hand_hear (fun vs H Q E h => ?_) (fun cdv A outer s H vs Q E hr h => ?_)
  · obtain ⟨x, D, T, g, h, l, rfl, _⟩ := h
    rfl
  · obtain ⟨x, D, T, g, h, l, rfl, ha, hd, hl, lp, hw, l40, q⟩ := h
    refine ⟨_, (pss_cons (ps_if (PW.pt (pw_or (pt_not (pt_val (pe_kn Il hr (by omega) (pa_cons (pv 1) pa_nil)))) (pw_or1 (pt_not (pt_val (C8.pe_mt Hpl hr (by omega) (pv 0) (pa_cons (pe_ix ix_tup (pv 1) (pe_un un_neg pe_int) (fun _ _ => rfl)) pa_nil))))))) (pss_one (ps_never)) pss_nil)
      (pss_cons (ps_set (i := 2) sc_Hand_hear.nd rfl (.inl rfl) (pe_ix ix_tup (pv 1) (pe_un un_neg pe_int) (fun _ _ => rfl)))
      (C8.pss_cut (ps_if (pt_cmpR op_gt (pe_kn Wn hr (by omega) (pa_cons (pv 2) pa_nil)) (pe_kn Wn hr (by omega) (pa_cons (pe_fld (pv 0) rfl) pa_nil)) (nomark _)) (pss_one (ps_fld (pv 0) (pv 2) rfl)) pss_nil)
      (pss_cons (ps_if (PW.pt (pw_or (pt_cmpR op_eq (pe_ix ix_tup (pv 1) pe_int (fun _ _ => rfl)) pe_str (nomark _)) (pw_or1 (pt_not (pt_val (C8.pe_mt Sh hr (by omega) (pv 0) (pa_cons (pe_ix ix_tup (pv 1) pe_int (fun _ _ => rfl)) pa_nil))))))) (pss_one (ps_ret (pe_tup pa_nil))) pss_nil)
      (pss_cons (ps_asg (pe_slice (r := rSlA K) sl_tupA (pv 1) po_none (po_some pe_int)) (pg_tup rfl (pgs_cons (pg_name (i := 3) sc_Hand_hear.nd rfl (.inl rfl)) (pgs_cons (pg_name (i := 4) sc_Hand_hear.nd rfl (.inl rfl)) (pgs_cons (pg_name (i := 5) sc_Hand_hear.nd rfl (.inl rfl)) pgs_nil)))))
      (pss_cons (ps_asg (pe_callB (call_max2 rfl) (by rfl) m_max (by decide +kernel) (pa_cons (pe_dget (hu_of hr) (pe_fld (pv 0) rfl) (pv 4) (fun _ _ => rfl)) (pa_cons (pv 5) pa_nil))) (pg_sub (pe_fld (pv 0) rfl) (pv 4) (set_dict (hu_of hr))))
      (pss_cons (ps_if (PW.pt (pw_or (pt_cmpR op_eq (pv 3) pe_str (nomark _)) (pw_or1 (pt_cmpR op_lt (pe_kn Wn hr (by omega) (pa_cons (pv 2) pa_nil)) (pe_kn Wn hr (by omega) (pa_cons (pe_fld (pv 0) rfl) pa_nil)) (nomark _))))) (pss_one (ps_ret (pe_tup pa_nil))) pss_nil)
      (pss_one (ps_ret (C8.pe_mt An hr (by omega) (pv 0) (pa_cons (pv 4) (pa_cons (pv 5) pa_nil)))))))))))), ?_⟩
    have ha0 := ha
    have hl0 := hl
    obtain ⟨dx, v, hs, e, w1, d, t, ld⟩ := ha
    obtain ⟨u, eg, wu⟩ := hl
    have hpt : (match l.2.2 with | none => true | some w => decide (h.thing < w.2.length)) = true := by
      cases ho : l.2.2 with
      | none => rfl
      | some w => exact decide_eq_true (hw w ho)
    refine ⟨_, rfl, 0, .ref g, _, rfl, da_let (n := 0) hl0, fun H1 s1 => ⟨true, congrArg V.bl (let_isD lp), iteF ?_⟩⟩
    have e1 := s1 _ _ e
    have eg1 := s1 _ _ eg
    have wu1 := wu.tk (tk_same s1)
    have d1 := rs s1 d
    have t1 := s1 _ _ t
    have ld1 := ld.tk (tk_same s1)
    refine ⟨.ref x, rfl, x, dx, _, rfl, e1, lkm, .ref g, rfl, 1, rfl, g, _, -1, u, rfl, rfl, .inl (.inl eg1), at_last (V.str l.1 :: l.2.1.map V.int) u, x, D, T, h, u, l.2.2, rfl, ha0.same s1, wu1, true, congrArg V.bl hpt, iteF ?_⟩
    refine ⟨.ref g, rfl, 1, rfl, g, _, -1, u, rfl, rfl, .inl (.inl eg1), at_last (V.str l.1 :: l.2.1.map V.int) u, ?_⟩
    dsimp only [List.set]
    refine ⟨fun σ H' => σ = [some (.ref x), some (.ref g), some u, none, none, none] ∧ ButH x T H1 H' ∧ HandAt C H' x D T (h.hw l.2.2), ?_, fun σ H2 y => ?_⟩
    · refine ⟨_, rfl, u, l.2.2, rfl, wu1, .ref x, rfl, x, C, dx, _, _, rfl, e1, X.cl, X.n3, lk3, v, h.wish, rfl, w1.tk (tk_same s1), _, _, rfl, rfl, _, rfl, ite2 (fun c => ?_) (fun c => ?_)⟩
      · have c' := of_decide_eq_true c
        obtain ⟨a1, a2⟩ := HandAt.wish e1 d1 t1 ld1 wu1
        refine ⟨_, rfl, .ref x, rfl, x, C, dx, _, rfl, e1, X.cl, X.n3, (show 5 < 1000 by decide), ?_⟩
        rw [put_wish]
        refine ⟨rfl, a2, ?_⟩
        unfold Hd.hw
        rw [if_pos c']
        exact a1
      · have c' := of_decide_eq_false (Bool.eq_false_iff.mpr c)
        refine ⟨rfl, fun _ _ _ _ e => e, ?_⟩
        unfold Hd.hw
        rw [if_neg c']
        exact ha0.same s1
    obtain ⟨rfl, b2, ha2⟩ := y
    have b02 : ButH x T H H2 := (ButH.of s1).trans b2
    have tk2 := b02.tk ha0
    have eg2 := tk2 _ _ eg
    have wu2 := wu.tk tk2
    obtain ⟨a, ns, o⟩ := l
    rcases lp.1 with ⟨hw2, h2⟩ | ⟨hw2, h0, hn⟩
    · match ns, h2 with
      | [n, k], _ =>
      have hne : ¬ a = "word" := fun z => by
        rcases hw2 with h | h
        · have h' : a = "ask" := h
          rw [z] at h'
          exact absurd h' (by decide +kernel)
        · have h' : a = "leave" := h
          rw [z] at h'
          exact absurd h' (by decide +kernel)
      rw [hear_two] at q
      have hrw := hw_rows h o
      have hth := hw_thing h o
      dsimp only at ha2 wu2 eg2
      generalize h.hw o = g1 at ha2 hrw hth q
      have ha2' := ha2
      obtain ⟨dx2, v2, hs2, e2, w2, d2, t2, l2⟩ := ha2'
      refine ⟨.ref g, rfl, g, _, 0, .str a, rfl, rfl, .inl (.inl eg2), atI_nat (j := 0) rfl, rfl, decide (a = "word"), congrArg V.bl dstr, ?_⟩
      rw [decide_eq_false hne]
      refine iteF ⟨.ref x, rfl, x, dx2, _, rfl, e2, lkm, .ref g, rfl, g, _, 1, .int n, rfl, rfl, .inl (.inl eg2), atI_nat (j := 1) rfl, x, D, T, g1, n, rfl, ha2, fun H3 s3 => ?_⟩
      have b03 := b02.trans (ButH.of (x := x) (T := T) s3)
      have ha3 := ha2.same s3
      cases hsh : g1.shares n with
      | false =>
        refine ⟨false, rfl, iteT ⟨(show 0 ≤ sizeLine by decide), fun G nG => ?_⟩⟩
        have sG := same_new (o := HO.tup []) nG
        have eq0 : (match look h.rows n with | some z => if shrd z.1 = true then g1.hear2 a o n k z else (g1, []) | none => (g1, [])) = (g1, ([] : List Bt)) := by
          unfold Hd.shares at hsh
          rw [hrw] at hsh
          cases hz : look h.rows n with
          | none => rfl
          | some z =>
            rw [hz] at hsh
            show (if shrd z.1 = true then _ else _) = _
            rw [if_neg (by rw [show shrd z.1 = false from hsh]; decide)]
        rw [eq0] at q
        exact q _ G (b03.trans (ButH.of sG)) (ha3.same sG) ⟨[], upd_same, trivial⟩
      | true =>
        refine ⟨true, rfl, iteF ?_⟩
        obtain ⟨z, hz, hzs⟩ : ∃ z, look h.rows n = some z ∧ shrd z.1 = true := by
          unfold Hd.shares at hsh
          rw [hrw] at hsh
          cases hz : look h.rows n with
          | none =>
            rw [hz] at hsh
            cases hsh
          | some z =>
            rw [hz] at hsh
            exact ⟨z, rfl, hsh⟩
        rw [hz] at q
        have q : ∀ (H' : L2.Hp) (b : Addr), ButH x T H H' → HandAt C H' x D T (g1.hear2 a o n k z).1 → BAt H' b (g1.hear2 a o n k z).2 → Q (.ref b) H' := by
          have : (if shrd z.1 = true then g1.hear2 a o n k z else (g1, ([] : List Bt))) = g1.hear2 a o n k z := if_pos hzs
          simp only [this] at q
          exact q
        have hz1 : look g1.rows n = some z := by rw [hrw]; exact hz
        have eg3 := s3 _ _ eg2
        refine ⟨.ref g, rfl, ?_⟩
        show tNoPart _ _ _
        unfold tNoPart
        refine ⟨3, rfl, cut_to (c := 3) eg3 (show 3 ≤ 4 by decide) fun W H4 s4 eW => ?_⟩
        refine ⟨W, _, rfl, .inl (.inl eW), rfl, _, _, rfl, _, _, rfl, _, _, rfl, rfl, ?_⟩
        dsimp only [List.set]
        have ha4 := ha3.same s4
        have b04 := b03.trans (ButH.of (x := x) (T := T) s4)
        have ha4' := ha4
        obtain ⟨dx4, v4, hs4, e4, w4, d4, t4, l4⟩ := ha4'
        have vt4 : valV (kvT g1.rows) (Sum.inl n) = some (V.int z.2) := by
          rw [valT, hz1]
          rfl
        have sz : (kvT g1.rows).length < sizeLine := by
          unfold kvT
          rw [List.length_map, hrw]
          exact small1000 (by omega)
        obtain ⟨tT5, ha5, b5⟩ := ha4.setc (c := mx z.2 k) hd hz1
        refine ⟨.ref x, rfl, x, C, dx4, _, _, rfl, e4, X.cl, X.n5, lk5, .int n, rfl, T, .int z.2, rfl, vt4 ▸ DGet.k (k := .inl n) t4, .int k, rfl, z.2, k, rfl, .ref x, rfl, x, C, dx4, _, _, rfl, e4, X.cl, X.n5, lk5, .int n, rfl, T, _, rfl, DPut.k (k := .inl n) tT5 sz, ?_⟩
        have b05 := b04.trans b5
        have wu5 := wu.tk (b05.tk ha0)
        have e0 : upd H4 T (.dK (putK (kvT g1.rows) (Sum.inl n) (V.int (if k > z.2 then k else z.2)))) = upd H4 T (.dK (putK (kvT g1.rows) (Sum.inl n) (V.int (mx z.2 k)))) := rfl
        rw [e0]
        generalize upd H4 T (.dK (putK (kvT g1.rows) (Sum.inl n) (V.int (mx z.2 k)))) = H5 at ha5 b5 b05 wu5 ⊢
        have hz5 : look (g1.setc n (mx z.2 k)).rows n = some (z.1, mx z.2 k) := by
          show look (putC g1.rows n (mx z.2 k)) n = _
          rw [look_put, hz1]
          simp
        have len5 : (g1.setc n (mx z.2 k)).rows.length ≤ 40 := by
          show (putC g1.rows n (mx z.2 k)).length ≤ 40
          unfold putC
          rw [List.length_map, hrw]
          exact l40
        unfold Hd.hear2 at q
        have ha5' := ha5
        obtain ⟨dx5, v5, hs5, e5, w5, d5, t5, l5⟩ := ha5'
        have stop : (decide (a = "leave") || decide (wishN o < wishN g1.wish)) = true → ∀ G, H5 G = none → Q (.ref G) (upd H5 G (.tup [])) := fun hc G nG => by
          have sG := same_new (o := HO.tup []) nG
          rw [if_pos hc] at q
          exact q _ G (b05.trans (ButH.of sG)) (ha5.same sG) ⟨[], upd_same, trivial⟩
        refine ⟨_, rfl, rfl, decide (a = "leave"), congrArg V.bl dstr, ?_⟩
        cases hlv : decide (a = "leave") with
        | true => exact iteT ⟨(show 0 ≤ sizeLine by decide), stop (by rw [hlv]; rfl)⟩
        | false =>
        refine iteF ⟨_, rfl, u, o, rfl, wu5, .ref x, rfl, x, C, dx5, _, _, rfl, e5, X.cl, X.n3, lk3, v5, g1.wish, rfl, w5, _, _, rfl, rfl, _, rfl, ite2 (fun c => ?_) (fun c => ?_)⟩
        · exact ⟨(show 0 ≤ sizeLine by decide), stop (by rw [hlv, Bool.false_or]; exact c)⟩
        · have c' : decide (wishN o < wishN g1.wish) = false := Bool.eq_false_iff.mpr c
          rw [hlv, c', if_neg (by decide)] at q
          exact ⟨.ref x, rfl, x, dx5, _, rfl, e5, lkm, .int n, rfl, .int k, rfl, x, D, T, g1.setc n (mx z.2 k), n, k, (z.1, mx z.2 k), rfl, ha5, hd, hz5, hzs, len5, fun H6 b b6 h6 t6 => q H6 b (b05.trans b6) h6 t6⟩
    · have h0' : ns = [] := h0
      subst h0'
      have hwd : a = "word" := hw2
      rw [hear_none rfl] at q
      refine ⟨.ref g, rfl, g, _, 0, .str a, rfl, rfl, .inl (.inl eg2), atI_nat (j := 0) rfl, rfl, decide (a = "word"), congrArg V.bl dstr, ?_⟩
      rw [decide_eq_true hwd]
      refine iteT ⟨(show 0 ≤ sizeLine by decide), fun G nG => ?_⟩
      have sG := same_new (o := HO.tup []) nG
      exact q _ G (b02.trans (ButH.of sG)) (ha2.same sG) ⟨[], upd_same, trivial⟩
end
end K61

set_option Elab.async false
set_option linter.all false
set_option maxRecDepth 100000
set_option maxHeartbeats 4000000
/-! set of a list of ints. -/
namespace NB
open PySem PySem.Spec PyProof.Rows L2
section
variable {P : Program} {w : World} {A : Around} {E : Value → Shared → Prop} {s : Shared}
/-- a set with nothing in it -/
abbrev emI (w : World) : Obj := { cls := .type "set", dict := none, data := .set #[] 0 (.fresh 0 0 (!w.params.followText "set-order")) }
theorem setLstI {l : Addr} {xs : Array Value} (ns : List Int) {Q : Value → Shared → Prop} (nh : A.handled = none) (tl : s.heap.IsList l xs) (ia : IntsAre xs.toList ns) (few : ns.length + 1 < scanBound)
    (q : ∀ (h' : Heap) (tk c : Nat), SetR w h' s.heap.objs.size (fun j => decide (j ∈ ns)) c → c ≤ ns.length → (∀ b o, s.heap.get? b = some o → h'.get? b = some o) → Q (.ref s.heap.objs.size) { s with heap := h', toks := tk }) :
    wpAny (model P w) A (call (.type "set") [.ref l]) Q E s := by
  have n1 : xs.size = ns.length := by
    rw [← Array.length_toList, IntsAre.length ia]
  -- the call of the type
  obtain ⟨_, _, mro⟩ := F.called_set.mro
  have a1 := F.called_set.made
  have a2 := F.called_set.sub
  have a3 := F.called_set.notType
  have a4 := F.called_set.canCreate
  have a5 := F.typeCall_set_1 (.ref l)
  refine wpAny_call (codeAny_of_tree ?_)
  show wpAny _ _ (callAny (.type "set") _) _ _ _
  refine wpAny_pure ⟨Code.quiet_builtin _ (by decide +kernel), codeAny_builtin F.entry_type_call ?_⟩
  rw [Around.under_plain (weight_type_call_type "set" [.ref l] []) rfl]
  repeat (any_goals (first | assumption | wp_step))
  generalize hN : s.heap.objs.size = N at q ⊢
  refine codeAny_mono (code_set_led1 (.ref l) (E := E) (Q₁ := fun b u => b = .ref N ∧ u = { s with heap := s.heap.push (emI w) }) ⟨by rw [hN], rfl⟩) fun r u hr => ?_
  match r, hr with
  | .error _, hr => exact hr
  | .ok (.ret b), hr =>
    obtain ⟨rfl, rfl⟩ := hr
    have gN : (s.heap.push (emI w)).get? N = some (emI w) := hN ▸ Heap.get?_push_size _ rfl
    have tN : Shared.TypeIs { s with heap := s.heap.push (emI w) } (.ref N) "set" := ⟨_, gN, rfl⟩
    have b1 := F.called_set.init.lookup
    have b2 := F.called_set.init.bind (.ref N)
    repeat (any_goals (first | assumption | wp_step))
    refine codeAny_mono (codeAny_call_builtin (R := wants (fun r u => r = .none ∧ ∃ h' tk c, u = { s with heap := h', toks := tk } ∧ SetR w h' N (fun j => decide (j ∈ ns)) c ∧ c ≤ ns.length ∧ ∀ b o, s.heap.get? b = some o → h'.get? b = some o) E) F.called_set.init.plain F.entry_set_init (check_set_init_1 tN ?_)) fun r2 u2 hr2 => ?_
    · obtain ⟨⟨oc, od, ob, os⟩, ho, hc, nn, hd⟩ := tl
      simp only at hc hd
      subst hc
      subst hd
      have lN : l < N := hN ▸ Heap.lt_size ho
      have g1 : (s.heap.push (emI w)).get? l = some { cls := .type "list", dict := od, data := .seq xs nn, slots := os } := Heap.get?_push_of_some _ ho
      have t1 : (s.heap.push (emI w)).IsList l xs := ⟨_, g1, rfl, nn, rfl⟩
      have sz : (s.heap.push (emI w)).objs.size = N + 1 := by rw [Heap.size_push, hN]
      have c1 := F.sub_list_set
      have c2 := F.sub_list_frozenset
      have c3 : (Value.type "list" == Value.type "dict") = false := by decide
      unfold Builtin.«set.__init__» noKeywords Builtin.Frozenset.updateFrom
      generalize eP : pyIter = PI
      wp_walk
      subst eP
      refine wpAny_pyIter_list t1 ?_
      refine wpAny_bind (wpAny_runValue ?_)
      have ln : l ≠ (s.heap.push (emI w)).objs.size := by
        rw [sz]
        exact Nat.ne_of_lt (Nat.lt_succ_of_lt lN)
      have nf : N ∉ [(s.heap.push (emI w)).objs.size, l] := by
        rw [sz]
        simp only [List.mem_cons, List.not_mem_nil, or_false, not_or]
        exact ⟨Nat.ne_of_lt (Nat.lt_succ_self _), Nat.ne_of_gt lN⟩
      refine set_update_ints ((Walks.list (by simp [nh]) _ l ln xs).toS) N nf ns n1 few (fun i v hv => ?_) (xs.size - 0) 0 _ (by omega) (Nat.zero_le _) ⟨⟨_, Heap.get?_push_size _ rfl, rfl, rfl⟩, t1.push _⟩ ?i0 ?i1
      · have hi : i < ns.length := by
          rw [← n1]
          exact (Array.getElem?_eq_some_iff.mp hv).1
        obtain ⟨t, e⟩ := PyProof.Rows.IntsAre.int_at ia i v (by rw [Array.getElem?_toList]; exact hv)
        refine ⟨ns[i], t, List.getElem?_eq_getElem hi, ?_⟩
        rw [e, List.getD_eq_getElem?_getD, List.getElem?_eq_getElem hi]
        rfl
      case i0 => exact ⟨0, Nat.le_refl 0, setR_new_at (Heap.get?_push_of_some _ gN)⟩
      case i1 =>
        intro u c mv hc R
        obtain ⟨h', gg, dd, tk, oo⟩ := u
        obtain rfl : gg = s.gens := mv.gens
        obtain rfl : dd = s.drawn := mv.drawn
        obtain rfl : oo = s.os := mv.os
        rw [n1] at hc
        show wpAny _ _ _ _ _ _
        refine wpAny_pure ?_
        show wpAny _ _ (ret Value.none) _ _ _
        refine wpAny_pure ⟨rfl, h', tk, c, rfl, R, hc, fun b o e => mv.heap b o ?_ (Heap.get?_push_of_some _ (Heap.get?_push_of_some _ e))⟩
        have b0 := Heap.lt_size e
        rw [hN] at b0
        rw [sz]
        simp only [List.mem_cons, List.not_mem_nil, or_false, not_or]
        exact ⟨Nat.ne_of_lt b0, Nat.ne_of_lt (Nat.lt_succ_of_lt b0)⟩
    · match r2, hr2 with
      | .error _, hr2 => exact hr2
      | .ok (.ret _), hr2 =>
        obtain ⟨rfl, h', tk, c, rfl, R, hc, kp⟩ := hr2
        repeat (any_goals (first | assumption | wp_step))
        exact q _ _ _ R hc kp
end
section
variable {X : Cx}
/-- set(xs), xs a list of ints -/
def rSetLstI (K : PySem.W.Frag) (w : World) : List V → Hp → VK → Prop := fun xs H Q => ∃ (l : Addr) (ns : List Int), xs = [V.ref l] ∧ SqL K H l (ns.map V.int) ∧ ns.length < 64 ∧
  ∀ a c, H a = none → c ≤ ns.length → Q (.ref a) (upd H a (SetO w a (fun j => decide (j ∈ ns)) c))
theorem ints_of_vals : ∀ {ns : List Int} {us : List Value}, Vals (ns.map V.int) us → IntsAre us ns
  | [], _, .nil => .nil
  | n :: ns, _, .cons r t => by
    obtain ⟨tk, rfl⟩ := r
    exact .cons n tk (ints_of_vals t)
theorem cr_setLstI (hc : X.calm = true) : CallR X (.type "set") (rSetLstI X.K X.w) := by
  intro pins s σ H xs us Q I r ⟨l, ns, e, hl, few, q⟩
  subst e
  rw [Vals.ref1 r]
  obtain ⟨its, rv, pl, _⟩ := I.list hl
  have hn : H s.heap.objs.size = none := I.hok.fresh (Nat.le_refl _)
  refine setLstI (P := X.prog) (w := X.w) (xs := its.toArray) ns (I.ok.hd hc) pl.isList (ints_of_vals (by simpa using rv)) (by unfold scanBound; omega) fun h' tk c R hcn kp => ?_
  exact ⟨.ref s.heap.objs.size, _, I.laid (t' := tk) kp (Nat.le_refl _) (setO_new R), rfl, q _ c hn hcn⟩
end
end NB

set_option Elab.async false
set_option linter.all false
set_option maxRecDepth 100000
namespace K61
open PySem PySem.Spec PyProof.Rows L2 NB

/-! ### what a hand writes by itself -/
theorem BtAt.app {H : Hp} {a : Addr} {b : Bt} (p : PrAt H a b) : ∀ {as : List Addr} {bs : List Bt}, BtAt H as bs → BtAt H (as ++ [a]) (bs ++ [b])
  | [], [], _ => ⟨p, trivial⟩
  | _ :: _, _ :: _, ⟨x, c⟩ => ⟨x, c.app p⟩
  | [], _ :: _, h => h.elim
  | _ :: _, [], h => h.elim
theorem BtAt.cat {H : Hp} {as' : List Addr} {bs' : List Bt} (p : BtAt H as' bs') : ∀ {as : List Addr} {bs : List Bt}, BtAt H as bs → BtAt H (as ++ as') (bs ++ bs')
  | [], [], _ => p
  | _ :: _, _ :: _, ⟨x, c⟩ => ⟨x, BtAt.cat p c⟩
  | [], _ :: _, h => h.elim
  | _ :: _, [], h => h.elim
theorem BtAt.len {H : Hp} : ∀ {as : List Addr} {bs : List Bt}, BtAt H as bs → as.length = bs.length
  | [], [], _ => rfl
  | _ :: _, _ :: _, ⟨_, c⟩ => by rw [List.length_cons, List.length_cons, c.len]
  | [], _ :: _, h => h.elim
  | _ :: _, [], h => h.elim
def Hd.othN (h : Hd) (n : Int) : Int := match look h.rows n with
  | some z => (othT z.1 h.thing : Nat)
  | none => 0
def Hd.cntN (h : Hd) (n : Int) : Int := match look h.rows n with
  | some z => z.2
  | none => 0
def Hd.asks (h : Hd) (ys : List Int) : List Bt := ys.map fun n => (h.othN n, (("ask" : Str), [n, h.cntN n], h.wish))
def Hd.words (h : Hd) (ts : List Int) : List Bt := ts.map fun k => (k, (("word" : Str), [], h.wish))
def BtL (h : Hd) (bs : List Bt) : Prop := ∃ ys, LkL h ys ∧ ((h.wish = none ∧ bs = h.asks ys) ∨ (h.wish ≠ none ∧ ∃ ss ts, ShL h ss ∧ ts.Pairwise (· < ·) ∧ (∀ k, k ∈ ts ↔ k ∈ ss.map h.othN) ∧ bs = h.asks ys ++ h.words ts))
def spBeat (C : Addr) : Sp := fun vs H Q _ => ∃ (x D T : Addr) (h : Hd), vs = [.ref x] ∧ HandAt C H x D T h ∧ h.rows.length ≤ 40 ∧ (∀ w, h.wish = some w → h.thing < w.2.length) ∧ ∀ H' g bs, Same H H' → BAt H' g bs → BtL h bs → Q (.ref g) H'
section
variable {P : Program} {w : World} {K : PySem.W.Frag} {mg : Str → Option Value} {base : Heap}
abbrev a_Hand_beat : Stmt := inClass (topS 20) 10
abbrev n_Hand_beat : List Str := ["self", "found", "number", "things", "thing"]
theorem sc_Hand_beat : FnScope n_Hand_beat ["self"] (defScope a_Hand_beat) := ⟨rfl, rfl, rfl, by decide +kernel, rfl, by decide +kernel, by decide +kernel⟩
set_option maxHeartbeats 8000000 in
theorem ok_Hand_beat {f fOt : Addr} {fd fdOt : FuncData} {k : Nat} {C : Addr} (F : Fun K "beat" "Hand.beat" a_Hand_beat f fd) (Lk : C8.Met P w K mg base 6 C "lacks" (spLkL C) []) (Sd1 : C8.Met P w K mg base 2 C "shared" (spShL C) []) (Ot : Kn P w K mg base 1 "other_thing" ["rule", "thing"] spOthT fOt fdOt) (X : HandTxt K C) (m_set : mg "set" = none) (m_sorted : mg "sorted" = none) (m_tuple : mg "tuple" = none) : FnOk P w K mg base CX0 (k + 7) f fd ["self"] (spBeat C) := by
  refine F.ok sc_Hand_beat (fun vs H Q E h => ?_) (fun cdv A outer s H vs Q E hr h => ?_)
  · obtain ⟨x, D, T, h, rfl, _⟩ := h
    rfl
  · obtain ⟨x, D, T, h, rfl, ha, l40, hw, q⟩ := h
    refine ⟨_, (pss_cons (ps_set (i := 1) sc_Hand_beat.nd rfl (.inl rfl) (pe_lst pa_nil))
      (pss_cons (ps_for PassesOwn.never rfl (pi_tup (C8.pe_mt0 Lk hr (by omega) (pv 0))) (pg_name (i := 2) sc_Hand_beat.nd rfl (.inl rfl))
        (pss_one (ps_expr (pe_bm PySem.F.plainAttrs_list PySem.F.slot_list_append PySem.F.type_list_append mt_append (pv 1) (pa_cons (pe_tup (pa_cons (pe_kn Ot hr (by omega) (pa_cons (pe_dget (hu_of hr) (pe_fld (pv 0) rfl) (pv 2) (fun _ _ => rfl)) (pa_cons (pe_fld (pv 0) rfl) pa_nil))) (pa_cons (pe_tup (pa_cons pe_str (pa_cons (pv 2) (pa_cons (pe_dget (hu_of hr) (pe_fld (pv 0) rfl) (pv 2) (fun _ _ => rfl)) (pa_cons (pe_fld (pv 0) rfl) pa_nil))))) pa_nil))) pa_nil)))))
      (C8.pss_cut (ps_if (pt_cmpR op_notN (pe_fld (pv 0) rfl) pe_non (nomark _)) (pss_cons (ps_setLc (i := 3) (own := [("number", 2)]) (g := (gName 2)) (tt := tYes) (te := (tCall spOthT [] E0 (tCons (tDGet (tFld K (tVar 0) "held") (tVar 2)) (tCons (tFld K (tVar 0) "thing") tNil)))) rfl sc_Hand_beat.nd rfl rfl (sw_true rfl rfl rfl (by decide +kernel)) (pi_list (C8.pe_mt0 Sd1 hr (by omega) (pv 0))) (blkOk_by (N := n_Hand_beat) (sc := defScope a_Hand_beat) (by decide +kernel))
          (fun _ _ _ _ _ => (pg_name (i := 2) sc_Hand_beat.nd rfl (.inl rfl) (hf := .inr rfl))) (fun _ _ _ _ _ => pts_nil) (fun _ _ _ _ _ => (pe_kn Ot hr (by omega) (pa_cons (pe_dget (hu_of hr) (pe_fld (pv 0) rfl) (pv 2) (fun _ _ => rfl)) (pa_cons (pe_fld (pv 0) rfl) pa_nil)))))
      (pss_one (ps_expr (pe_bm PySem.F.plainAttrs_list PySem.F.slot_list_extend PySem.F.type_list_extend mt_extend (pv 1) (pa_cons (
        pe_lc (own := [("thing", 4)]) (g := (gName 4)) (tt := tYes) (te := (tTup (tCons (tVar 4) (tCons (tTup (tCons (tC (.str "word")) (tCons (tFld K (tVar 0) "wish") tNil))) tNil)))) rfl sc_Hand_beat.nd (pi_list (pe_callB (cr_sortedSet rfl) (by rfl) m_sorted (by decide +kernel) (pa_cons (pe_callTy (cr_setLstI rfl) (by rfl) m_set (by decide +kernel) (pa_cons (pv 3) pa_nil)) pa_nil))) (blkOk_by (N := n_Hand_beat) (sc := defScope a_Hand_beat) (by decide +kernel))
          (fun _ _ _ _ _ => (pg_name (i := 4) sc_Hand_beat.nd rfl (.inl rfl) (hf := .inr rfl))) (fun _ _ _ _ _ => pts_nil) (fun _ _ _ _ _ => (pe_tup (pa_cons (pv 4) (pa_cons (pe_tup (pa_cons pe_str (pa_cons (pe_fld (pv 0) rfl) pa_nil))) pa_nil))))) pa_nil))))) pss_nil)
      (pss_one (ps_ret (pe_callTy call_tuple_of (by rfl) m_tuple (by decide +kernel) (pa_cons (pv 1) pa_nil))))))), ?_⟩
    have ha0 := ha
    obtain ⟨dx, v, hs, e, w1, d, t, l⟩ := ha
    have getH : ∀ (H1 : Hp) (n : Int), Same H H1 → (∃ q c, look h.rows n = some (q, c) ∧ shrd q = true) → ∃ a q c, valV (kvH hs) (Sum.inl n) = some (V.ref a) ∧ RuleAt H1 a q ∧ valV (kvT h.rows) (Sum.inl n) = some (V.int c) ∧ h.othN n = (othT q h.thing : Nat) ∧ h.cntN n = c := fun H1 n s ⟨q, c, lk, _⟩ => by
      rcases valH n (l.keep (.same s)) with ⟨a1, a2⟩ | ⟨q', c', a, a1, a2, a3⟩
      · rw [lk] at a1
        cases a1
      rw [lk] at a1
      cases a1
      refine ⟨a, q, c, a2, a3, ?_, ?_, ?_⟩
      · rw [valT, lk]
        rfl
      · unfold Hd.othN
        rw [lk]
      · unfold Hd.cntN
        rw [lk]
    refine ⟨(show 0 ≤ sizeLine by decide), fun F nF => ?_⟩
    have sF := same_new (o := HO.lst []) nF
    dsimp only [List.set]
    refine ⟨.ref x, rfl, x, dx, _, rfl, sF _ _ e, lkm, x, D, T, h, rfl, ha0.same sF, l40, hw, fun H2 Y ys s2 eY yL => ?_⟩
    have yl := yL.len
    have s02 := sF.trans s2
    have eF2 : H2 F = some (.lst []) := s2 _ _ upd_same
    refine ⟨Y, rfl, ⟨_, .inl (.inl eY)⟩, for_it (walk_tup (xs := ys.map V.int)) (fun i σ H' => (∃ u2, σ = [some (.ref x), some (.ref F), u2, none, none]) ∧ Same H H' ∧ H' Y = some (.tup (ys.map V.int)) ∧ ∃ as, H' F = some (.lst (as.map V.ref)) ∧ BtAt H' as (h.asks (ys.take i))) ⟨⟨_, rfl⟩, s02, eY, [], eF2, trivial⟩ (fun i σ H' _ p => .inl (.inl p.2.2.1)) (fun i u σ H3 H4 hi p y => ?_) (fun σ H3 p => ?_)⟩
    · obtain ⟨⟨u2, rfl⟩, s3, eY3, as, eF, bA⟩ := p
      obtain ⟨rfl, gv⟩ := y
      obtain ⟨n, en, rfl⟩ := mapGet gv
      obtain ⟨a, rl, c, g1, g2, g3, g4, g5⟩ := getH _ n s3 (yL.mem (List.mem_of_getElem? en))
      have la := bA.len
      have li : as.length ≤ 40 := by
        rw [la]
        unfold Hd.asks
        rw [List.length_map, List.length_take]
        exact Nat.le_trans (Nat.min_le_right _ _) (by omega)
      dsimp only [List.set]
      refine ⟨.ref F, rfl, .inl ⟨rfl, _, .inl (.inl eF)⟩, .ref x, rfl, x, C, dx, _, _, rfl, s3 _ _ e, X.cl, X.n4, lk4, .int n, rfl, D, .ref a, rfl, g1 ▸ DGr (k := .inl n) (rs s3 d), .ref x, rfl, x, C, dx, _, _, rfl, s3 _ _ e, X.cl, X.n1, lk1, a, rl, h.thing, rfl, g2, _, rfl, .ref x, rfl, x, C, dx, _, _, rfl, s3 _ _ e, X.cl, X.n5, lk5, .int n, rfl, T, .int c, rfl, g3 ▸ DGet.k (k := .inl n) (s3 _ _ t), .ref x, rfl, x, C, dx, _, _, rfl, s3 _ _ e, X.cl, X.n3, lk3, (show 4 ≤ sizeLine by decide), fun L nL => ⟨(show 2 ≤ sizeLine by decide), fun M nM => ?_⟩⟩
      have sL := same_new (o := HO.tup [V.str "ask", V.int n, V.int c, v]) nL
      have sM := same_new (o := HO.tup [V.int (othT rl h.thing : Nat), V.ref L]) nM
      have sLM := sL.trans sM
      have eM : PrAt _ M (h.othN n, (("ask" : Str), [n, h.cntN n], h.wish)) := ⟨L, (by rw [g4]; exact upd_same), v, (by rw [g5]; exact sM _ _ upd_same), w1.tk (tk_same (s3.trans sLM))⟩
      have eF5 := sLM _ _ eF
      have eY5 := sLM _ _ eY3
      have bA5 := bA.tk (tk_same sLM)
      have s5 := s3.trans sLM
      generalize upd (upd H4 L (.tup [V.str "ask", V.int n, V.int c, v])) M (.tup [V.int (othT rl h.thing : Nat), V.ref L]) = H5 at eM eF5 eY5 bA5 s5 ⊢
      have kF : TupK H5 (upd H5 F (.lst (as.map V.ref ++ [V.ref M]))) := fun b xs eb => (upd_ne (fun q => by rw [q, eF5] at eb; cases eb)).trans eb
      refine ⟨F, _, _, rfl, rfl, eF5, by rw [List.length_map]; exact small1000 (by omega), ⟨_, rfl⟩, same_over s5 nF, kF _ _ eY5, as ++ [M], by rw [upd_same, List.map_append]; rfl, ?_⟩
      have e6 : h.asks (ys.take (i + 1)) = h.asks (ys.take i) ++ [(h.othN n, (("ask" : Str), [n, h.cntN n], h.wish))] := by
        unfold Hd.asks
        rw [List.take_add_one, en, List.map_append]
        rfl
      rw [e6]
      exact (bA5.tk kF).app (eM.tk kF)
    obtain ⟨⟨u2, rfl⟩, s3, eY3, as, eF, bA⟩ := p
    rw [List.take_of_length_le (by rw [List.length_map]; exact Nat.le_refl _)] at bA
    have la : as.length ≤ 40 := by
      rw [bA.len]
      unfold Hd.asks
      rw [List.length_map]
      omega
    refine ⟨fun σ H' => (∃ u2 u3 u4, σ = [some (.ref x), some (.ref F), u2, u3, u4]) ∧ Same H H' ∧ ∃ as bs, H' F = some (.lst (as.map V.ref)) ∧ BtAt H' as bs ∧ BtL h bs, ?_, fun σ H4 y => ?_⟩
    · refine ⟨.ref x, rfl, x, C, dx, _, _, rfl, s3 _ _ e, X.cl, X.n3, lk3, rfl, ?_⟩
      cases ho : h.wish with
      | none =>
        rw [ho] at w1
        obtain rfl : v = .non := w1
        exact ⟨false, congrArg V.bl (by rw [decide_eq_true rfl]; rfl), iteF ⟨⟨_, _, _, rfl⟩, s3, as, _, eF, bA, ys, yL, .inl ⟨ho, rfl⟩⟩⟩
      | some wi =>
        have hv : v ≠ .non := by
          rw [ho] at w1
          obtain ⟨p1, p2, rfl, _⟩ := w1
          exact fun z => by cases z
        refine ⟨true, congrArg V.bl (by rw [decide_eq_false hv]; rfl), iteT ?_⟩
        have hne : h.wish ≠ none := fun z => by rw [ho] at z; cases z
        refine ⟨.ref x, rfl, x, dx, _, rfl, s3 _ _ e, lkm, x, D, T, h, rfl, ha0.same s3, l40, fun H4 S ss s4 eS sL => ?_⟩
        have sl := sL.len
        have s34 := s3.trans s4
        refine ⟨S, rfl, ⟨_, .inl (.inl eS)⟩, fun G nG => lc_it (walk_list (xs := ss.map V.int)) (fun i H' => Same H4 H' ∧ H' G = some (.lst (((ss.take i).map h.othN).map V.int))) ⟨same_new nG, upd_same⟩ (fun i H' _ p => .inl (.inl (p.1 _ _ eS))) (fun i u H5 H6 hi p y => ?_) (fun H5 p => ?_)⟩
        · obtain ⟨sm, eG⟩ := p
          obtain ⟨rfl, gv⟩ := y
          obtain ⟨n, en, rfl⟩ := mapGet gv
          have s05 := s34.trans sm
          obtain ⟨a, rl, c, g1, g2, g3, g4, g5⟩ := getH _ n s05 (sL.mem (List.mem_of_getElem? en))
          refine ⟨rfl, .ref x, rfl, x, C, dx, _, _, rfl, s05 _ _ e, X.cl, X.n4, lk4, .int n, rfl, D, .ref a, rfl, g1 ▸ DGr (k := .inl n) (rs s05 d), .ref x, rfl, x, C, dx, _, _, rfl, s05 _ _ e, X.cl, X.n1, lk1, a, rl, h.thing, rfl, g2, _, eG, ?_, same_over sm nG, ?_⟩
          · rw [List.length_map, List.length_map, List.length_take]
            exact small1000 (Nat.le_trans (Nat.min_le_right _ _) (by omega))
          · rw [upd_same, List.take_add_one, en, List.map_append, List.map_append]
            show some (HO.lst (_ ++ [V.int (othT rl h.thing : Nat)])) = some (HO.lst (_ ++ [V.int (h.othN n)]))
            rw [g4]
        obtain ⟨sm, eG⟩ := p
        rw [List.take_of_length_le (by rw [List.length_map]; exact Nat.le_refl _)] at eG
        have s05 := s34.trans sm
        have eF5 := (s4.trans sm) _ _ eF
        dsimp only [List.set]
        refine ⟨.ref F, rfl, .inl ⟨rfl, _, .inl (.inl eF5)⟩, .ref G, rfl, G, ss.map h.othN, rfl, .inl (.inl eG), by rw [List.length_map]; omega, fun B cc nB hcc => ?_⟩
        rw [List.length_map] at hcc
        refine ⟨B, _, cc, rfl, upd_same, by omega, fun ts R pw mm ln nR => ?_⟩
        generalize hG : upd (upd H5 B (SetO _ _ _ _)) R (.lst (ts.map V.int)) = H6
        have eR : H6 R = some (.lst (ts.map V.int)) := by
          rw [← hG]
          exact upd_same
        have s6 : Same H3 H6 := by
          rw [← hG]
          exact (s4.trans sm).trans ((same_new nB).trans (same_new nR))
        have s06 := s3.trans s6
        have lt : ts.length ≤ 40 := by omega
        refine ⟨R, rfl, ⟨_, .inl (.inl eR)⟩, fun W nW => lc_it (walk_list (xs := ts.map V.int)) (fun i H' => Same H6 H' ∧ ∃ as', H' W = some (.lst (as'.map V.ref)) ∧ BtAt H' as' (h.words (ts.take i))) ⟨same_new nW, [], upd_same, trivial⟩ (fun i H' _ p => .inl (.inl (p.1 _ _ eR))) (fun i u H7 H8 hi p y => ?_) (fun H7 p => ?_)⟩
        · obtain ⟨s7, as', eW, bW⟩ := p
          obtain ⟨rfl, gv⟩ := y
          obtain ⟨kk, ek, rfl⟩ := mapGet gv
          have s07 := s06.trans s7
          have lw : as'.length ≤ 40 := by
            rw [bW.len]
            unfold Hd.words
            rw [List.length_map, List.length_take]
            exact Nat.le_trans (Nat.min_le_right _ _) lt
          refine ⟨rfl, _, rfl, .ref x, rfl, x, C, dx, _, _, rfl, s07 _ _ e, X.cl, X.n3, lk3, (show 2 ≤ sizeLine by decide), fun L nL => ⟨(show 2 ≤ sizeLine by decide), fun M nM => ?_⟩⟩
          have sL' := same_new (o := HO.tup [V.str "word", v]) nL
          have sM := same_new (o := HO.tup [V.int kk, V.ref L]) nM
          have sLM := sL'.trans sM
          have eM : PrAt _ M (kk, (("word" : Str), [], h.wish)) := ⟨L, upd_same, v, sM _ _ upd_same, w1.tk (tk_same (s07.trans sLM))⟩
          have eW9 := sLM _ _ eW
          have bW9 := bW.tk (tk_same sLM)
          have s9 := s7.trans sLM
          generalize upd (upd H8 L (.tup [V.str "word", v])) M (.tup [V.int kk, V.ref L]) = H9 at eM eW9 bW9 s9 ⊢
          have kW : TupK H9 (upd H9 W (.lst (as'.map V.ref ++ [V.ref M]))) := fun b xs eb => (upd_ne (fun q => by rw [q, eW9] at eb; cases eb)).trans eb
          refine ⟨_, eW9, by rw [List.length_map]; exact small1000 (by omega), same_over s9 nW, as' ++ [M], by rw [upd_same, List.map_append]; rfl, ?_⟩
          have e6 : h.words (ts.take (i + 1)) = h.words (ts.take i) ++ [(kk, (("word" : Str), [], h.wish))] := by
            unfold Hd.words
            rw [List.take_add_one, ek, List.map_append]
            rfl
          rw [e6]
          exact (bW9.tk kW).app (eM.tk kW)
        · obtain ⟨s7, as', eW, bW⟩ := p
          rw [List.take_of_length_le (by rw [List.length_map]; exact Nat.le_refl _)] at bW
          have eF7 := s7 _ _ (s6 _ _ eF)
          have bA7 := bA.tk (tk_same (s6.trans s7))
          have lw : as'.length ≤ 40 := by
            rw [bW.len]
            unfold Hd.words
            rw [List.length_map]
            exact lt
          have kF : TupK H7 (upd H7 F (.lst (as.map V.ref ++ as'.map V.ref))) := fun b xs eb => (upd_ne (fun q => by rw [q, eF7] at eb; cases eb)).trans eb
          refine ⟨F, W, _, _, rfl, rfl, eF7, eW, by rw [List.length_map, List.length_map]; exact Nat.le_trans (show as.length + as'.length ≤ 80 by omega) (by decide), ⟨_, _, _, rfl⟩, same_over (s06.trans s7) nF, as ++ as', h.asks ys ++ h.words ts, by rw [upd_same, List.map_append], BtAt.cat (bW.tk kF) (bA7.tk kF), ys, yL, .inr ⟨hne, ss, ts, sL, pw, fun k => ?_, rfl⟩⟩
          rw [mm k, decide_eq_true_eq]
    · obtain ⟨⟨u2, u3, u4, rfl⟩, s4, as', bs', eF', bA', bL⟩ := y
      refine ⟨.ref F, rfl, F, _, rfl, .inl ⟨.inl (.inl eF'), fun G nG => ?_⟩⟩
      have sG := same_new (o := HO.tup (as'.map V.ref)) nG
      exact q _ G bs' (s4.trans sG) ⟨as', upd_same, bA'.tk (tk_same sG)⟩ bL
end
end K61

set_option Elab.async false
set_option linter.all false
set_option maxRecDepth 100000
namespace K61
open PySem PySem.Spec PyProof.Rows L2 NB

/-! ### wiped slots -/
theorem wipe_get (σ : L2.St) : ∀ (vs : List Nat) (j : Nat), (wipe σ vs)[j]? = if j ∈ vs then σ[j]?.map (fun _ => none) else σ[j]?
  | [], j => by rw [if_neg List.not_mem_nil]; rfl
  | v :: vs, j => by
    show ((wipe σ vs).set v none)[j]? = _
    rw [List.getElem?_set, wipe_get σ vs j, wipe_length]
    by_cases c : v = j
    · subst c
      rw [if_pos rfl, if_pos List.mem_cons_self]
      by_cases d : v < σ.length
      · rw [if_pos d, List.getElem?_eq_getElem d]
        rfl
      · rw [if_neg d, List.getElem?_eq_none (by omega)]
        rfl
    · rw [if_neg c]
      have : j ∈ v :: vs ↔ j ∈ vs := by rw [List.mem_cons]; exact ⟨fun h => h.elim (fun e => absurd e.symm c) id, .inr⟩
      by_cases d : j ∈ vs
      · rw [if_pos d, if_pos (this.mpr d)]
      · rw [if_neg d, if_neg (fun h => d (this.mp h))]
theorem wipe_any {σ τ : L2.St} {vs : List Nat} (l : τ.length = σ.length) (h : ∀ j, j ∉ vs → τ[j]? = σ[j]?) : wipe τ vs = wipe σ vs := by
  refine List.ext_getElem? fun j => ?_
  rw [wipe_get, wipe_get]
  by_cases d : j ∈ vs
  · rw [if_pos d, if_pos d]
    by_cases e : j < σ.length
    · rw [List.getElem?_eq_getElem e, List.getElem?_eq_getElem (by omega)]
      rfl
    · rw [List.getElem?_eq_none (by omega), List.getElem?_eq_none (by omega)]
  · rw [if_neg d, if_neg d, h j d]

/-! ### a hand is made -/
def RwAt (H : Hp) (R : Addr) (rows : List (Int × Rl × Int)) (hs : List (Int × Addr)) : Prop := ∃ as : List Addr, H R = some (.tup (as.map V.ref)) ∧ as.length = rows.length ∧ hs.length = rows.length ∧
  ∀ (i : Nat) (a : Addr) (r : Int × Rl × Int) (z : Int × Addr), as[i]? = some a → rows[i]? = some r → hs[i]? = some z → z.1 = r.1 ∧ H a = some (.tup [.int r.1, .ref z.2, .int r.2.2]) ∧ RuleAt H z.2 r.2.1
theorem RwAt.tk {H H' : Hp} {R : Addr} {rows : List (Int × Rl × Int)} {hs : List (Int × Addr)} (h : RwAt H R rows hs) (k : TupK H H') : RwAt H' R rows hs := by
  obtain ⟨as, e, l1, l2, f⟩ := h
  exact ⟨as, k _ _ e, l1, l2, fun i a r z h1 h2 h3 => ⟨(f i a r z h1 h2 h3).1, k _ _ (f i a r z h1 h2 h3).2.1, (f i a r z h1 h2 h3).2.2.tk k⟩⟩
theorem held_of {H : Hp} : ∀ {hs : List (Int × Addr)} {rows : List (Int × Rl × Int)}, hs.length = rows.length → (∀ (i : Nat) (r : Int × Rl × Int) (z : Int × Addr), rows[i]? = some r → hs[i]? = some z → z.1 = r.1 ∧ RuleAt H z.2 r.2.1) → Held H hs rows
  | [], [], _, _ => trivial
  | z :: hs, r :: rows, l, f => ⟨(f 0 r z rfl rfl).1, (f 0 r z rfl rfl).2, held_of (by simpa using l) fun i r' z' h1 h2 => f (i + 1) r' z' h1 h2⟩
  | [], _ :: _, l, _ => by cases l
  | _ :: _, [], l, _ => by cases l
theorem putK_new {kvs : List (Key × V)} {k : Key} {v : V} (h : ∀ kv ∈ kvs, kv.1 ≠ k) : putK kvs k v = kvs ++ [(k, v)] := by
  unfold putK
  rw [if_neg]
  intro z
  obtain ⟨kv, h1, h2⟩ := List.any_eq_true.mp z
  exact h kv h1 (of_decide_eq_true h2)
theorem nd_take {ks : List Int} (nd : ks.Nodup) {i : Nat} {n : Int} (e : ks[i]? = some n) : n ∉ ks.take i := fun h => by
  obtain ⟨j, hj⟩ := List.mem_iff_getElem?.mp h
  have lj : j < i := by
    have := (List.getElem?_eq_some_iff.mp hj).1
    rw [List.length_take] at this
    omega
  rw [List.getElem?_take_of_lt lj] at hj
  have := (List.getElem?_inj (List.getElem?_eq_some_iff.mp hj).1 nd).mp (hj.trans e.symm)
  omega
theorem wipe_three {σ : L2.St} {i j k : Nat} {a b c : Option V} {m n o : Str} : wipe ((((wipe σ ([(m, i), (n, j), (o, k)].map (·.2))).set i a).set j b).set k c) ([(m, i), (n, j), (o, k)].map (·.2)) = wipe σ ([(m, i), (n, j), (o, k)].map (·.2)) := by
  refine wipe_any (by rw [List.length_set, List.length_set, List.length_set, wipe_length]) fun l hl => ?_
  have h1 : i ≠ l := fun e => hl (by simp [e])
  have h2 : j ≠ l := fun e => hl (by simp [e])
  have h3 : k ≠ l := fun e => hl (by simp [e])
  rw [List.getElem?_set_ne h3, List.getElem?_set_ne h2, List.getElem?_set_ne h1, wipe_get, if_neg hl]
def spHInit (C : Addr) : Sp := fun vs H Q _ => ∃ (x dx R : Addr) (i : Nat) (p : Int) (rows : List (Int × Rl × Int)) (hs : List (Int × Addr)), vs = [.ref x, .int (i : Int), .int p, .ref R] ∧ H x = some (.ins C dx []) ∧ RwAt H R rows hs ∧ (rows.map (·.1)).Nodup ∧ rows.length ≤ 40 ∧
  ∀ H' D T, (∀ b o, b ≠ x → H b = some o → H' b = some o) → HandAt C H' x D T ⟨i, p, none, rows⟩ → D ≠ T → H D = none → H T = none → (∃ kvs, H' D = some (.dK kvs)) → Q .non H'
theorem put3 (i p v : V) : putF "wish" v (putF "place" p (putF "thing" i [])) = ([("thing", i), ("place", p), ("wish", v)] : List (Str × V)) := by
  have n1 : ¬ (("thing" : Str) = "place") := by decide +kernel
  have n2 : ¬ (("thing" : Str) = "wish") := by decide +kernel
  have n3 : ¬ (("place" : Str) = "wish") := by decide +kernel
  simp [putF, n1, n2, n3]
theorem put4 (i p v d : V) : putF "held" d [("thing", i), ("place", p), ("wish", v)] = ([("thing", i), ("place", p), ("wish", v), ("held", d)] : List (Str × V)) := by
  have n1 : ¬ (("thing" : Str) = "held") := by decide +kernel
  have n2 : ¬ (("place" : Str) = "held") := by decide +kernel
  have n3 : ¬ (("wish" : Str) = "held") := by decide +kernel
  simp [putF, n1, n2, n3]
theorem put5 (i p v d t : V) : putF "tally" t [("thing", i), ("place", p), ("wish", v), ("held", d)] = ([("thing", i), ("place", p), ("wish", v), ("held", d), ("tally", t)] : List (Str × V)) := by
  have n1 : ¬ (("thing" : Str) = "tally") := by decide +kernel
  have n2 : ¬ (("place" : Str) = "tally") := by decide +kernel
  have n3 : ¬ (("wish" : Str) = "tally") := by decide +kernel
  have n4 : ¬ (("held" : Str) = "tally") := by decide +kernel
  simp [putF, n1, n2, n3, n4]
section
variable {P : Program} {w : World} {K : PySem.W.Frag} {mg : Str → Option Value} {base : Heap}
abbrev a_Hand___init__ : Stmt := inClass (topS 20) 0
abbrev n_Hand___init__ : List Str := ["self", "thing", "place", "rules", "number", "rule", "count"]
theorem sc_Hand___init__ : FnScope n_Hand___init__ ["self", "thing", "place", "rules"] (defScope a_Hand___init__) := ⟨rfl, rfl, rfl, by decide +kernel, rfl, by decide +kernel, by decide +kernel⟩
set_option maxHeartbeats 8000000 in
theorem ok_Hand___init__ {f  : Addr} {fd  : FuncData} {k : Nat} {C : Addr} (F : Fun K "__init__" "Hand.__init__" a_Hand___init__ f fd)  (X : HandTxt K C)  : FnOk P w K mg base CX0 (k + 1) f fd ["self", "thing", "place", "rules"] (spHInit C) := by
  refine F.ok sc_Hand___init__ (fun vs H Q E h => ?_) (fun cdv A outer s H vs Q E hr h => ?_)
  · obtain ⟨x, dx, R, i, p, rows, hs, rfl, _⟩ := h
    rfl
  · obtain ⟨x, dx, R, i, p, rows, hs, rfl, ex, hR, nd, l40, q⟩ := h
    refine ⟨_, (pss_cons (ps_fld (pv 0) (pv 1) rfl)
      (pss_cons (ps_fld (pv 0) (pv 2) rfl)
      (pss_cons (ps_fld (pv 0) pe_non rfl)
      (pss_cons (ps_fld (pv 0) (
        pe_dc (own := [("number", 4), ("rule", 5), ("count", 6)]) (g := (gTup K 3 (gCons (gName 4) (gCons (gName 5) (gCons (gName 6) gNil))))) (tt := tYes) (tk := (tVar 4)) (tv := (tVar 5)) rfl sc_Hand___init__.nd (pi_tup (pv 3)) (blkOk_by (N := n_Hand___init__) (sc := defScope a_Hand___init__) (by decide +kernel))
          (fun _ _ _ _ _ => (pg_tup rfl (pgs_cons (pg_name (i := 4) sc_Hand___init__.nd rfl (.inl rfl) (hf := .inr rfl)) (pgs_cons (pg_name (i := 5) sc_Hand___init__.nd rfl (.inl rfl) (hf := .inr rfl)) (pgs_cons (pg_name (i := 6) sc_Hand___init__.nd rfl (.inl rfl) (hf := .inr rfl)) pgs_nil))))) (fun _ _ _ _ _ => pts_nil) (fun _ _ _ _ _ => (pv 4)) (fun _ _ _ _ _ => (pv 5))) rfl)
      (pss_one (ps_fld (pv 0) (
        pe_dc (own := [("number", 4), ("rule", 5), ("count", 6)]) (g := (gTup K 3 (gCons (gName 4) (gCons (gName 5) (gCons (gName 6) gNil))))) (tt := tYes) (tk := (tVar 4)) (tv := (tVar 6)) rfl sc_Hand___init__.nd (pi_tup (pv 3)) (blkOk_by (N := n_Hand___init__) (sc := defScope a_Hand___init__) (by decide +kernel))
          (fun _ _ _ _ _ => (pg_tup rfl (pgs_cons (pg_name (i := 4) sc_Hand___init__.nd rfl (.inl rfl) (hf := .inr rfl)) (pgs_cons (pg_name (i := 5) sc_Hand___init__.nd rfl (.inl rfl) (hf := .inr rfl)) (pgs_cons (pg_name (i := 6) sc_Hand___init__.nd rfl (.inl rfl) (hf := .inr rfl)) pgs_nil))))) (fun _ _ _ _ _ => pts_nil) (fun _ _ _ _ _ => (pv 4)) (fun _ _ _ _ _ => (pv 6))) rfl)))))), ?_⟩
    obtain ⟨as, eR, l1, l2, f⟩ := hR
    refine ⟨.int (i : Int), rfl, .ref x, rfl, x, C, dx, [], rfl, ex, X.cl, X.n1, (show 0 < 1000 by decide), ?_⟩
    refine ⟨.int p, rfl, .ref x, rfl, x, C, dx, _, rfl, upd_same, X.cl, X.n2, (show 1 < 1000 by decide), ?_⟩
    refine ⟨.ref x, rfl, x, C, dx, _, rfl, upd_same, X.cl, X.n3, (show 2 < 1000 by decide), ?_⟩
    rw [put3]
    have e3 : (upd (upd (upd H x (.ins C dx (putF "thing" (.int (i : Int)) []))) x (.ins C dx (putF "place" (.int p) (putF "thing" (.int (i : Int)) [])))) x (.ins C dx [("thing", .int (i : Int)), ("place", .int p), ("wish", .non)])) x = some (.ins C dx [("thing", .int (i : Int)), ("place", .int p), ("wish", .non)]) := upd_same
    have b3 : ∀ b o, b ≠ x → H b = some o → (upd (upd (upd H x (.ins C dx (putF "thing" (.int (i : Int)) []))) x (.ins C dx (putF "place" (.int p) (putF "thing" (.int (i : Int)) [])))) x (.ins C dx [("thing", .int (i : Int)), ("place", .int p), ("wish", .non)])) b = some o := fun b o n eb => by
      rw [upd_ne n, upd_ne n, upd_ne n]
      exact eb
    have f3 : ∀ b, b ≠ x → (upd (upd (upd H x (.ins C dx (putF "thing" (.int (i : Int)) []))) x (.ins C dx (putF "place" (.int p) (putF "thing" (.int (i : Int)) [])))) x (.ins C dx [("thing", .int (i : Int)), ("place", .int p), ("wish", .non)])) b = H b := fun b n => by
      rw [upd_ne n, upd_ne n, upd_ne n]
    generalize upd (upd (upd H x (.ins C dx (putF "thing" (.int (i : Int)) []))) x (.ins C dx (putF "place" (.int p) (putF "thing" (.int (i : Int)) [])))) x (.ins C dx [("thing", .int (i : Int)), ("place", .int p), ("wish", .non)]) = H3 at e3 b3 f3 ⊢
    have nx : ∀ b xs, H b = some (.tup xs) → b ≠ x := fun b xs eb z => by
      rw [z, ex] at eb
      cases eb
    have tk3 : TupK H H3 := fun b xs eb => b3 b _ (nx b xs eb) eb
    have rw3 : ∀ (j : Nat) (a : Addr) (r : Int × Rl × Int) (z : Int × Addr), as[j]? = some a → rows[j]? = some r → hs[j]? = some z → z.1 = r.1 ∧ H3 a = some (.tup [.int r.1, .ref z.2, .int r.2.2]) ∧ RuleAt H3 z.2 r.2.1 := fun j a r z h1 h2 h3 => ⟨(f j a r z h1 h2 h3).1, tk3 _ _ (f j a r z h1 h2 h3).2.1, (f j a r z h1 h2 h3).2.2.tk tk3⟩
    have eR3 := tk3 _ _ eR
    have kh : hs.map (·.1) = rows.map (·.1) := (held_of (H := H3) l2 fun j r z h1 h2 => by
      have hj : j < as.length := by
        have := (List.getElem?_eq_some_iff.mp h1).1
        omega
      exact ⟨(rw3 j _ r z (List.getElem?_eq_getElem hj) h1 h2).1, (rw3 j _ r z (List.getElem?_eq_getElem hj) h1 h2).2.2⟩).keys
    have pick : ∀ (H4 : Hp) (j : Nat) (u : V), Same H3 H4 → (as.map V.ref)[j]? = some u → ∃ a r z, u = .ref a ∧ rows[j]? = some r ∧ hs[j]? = some z ∧ z.1 = r.1 ∧ H4 a = some (.tup [.int r.1, .ref z.2, .int r.2.2]) ∧ j < 40 := fun H4 j u s hu => by
      obtain ⟨a, ea, rfl⟩ := mapGet hu
      have hj := (List.getElem?_eq_some_iff.mp ea).1
      have e1 := List.getElem?_eq_getElem (show j < rows.length by omega)
      have e2 := List.getElem?_eq_getElem (show j < hs.length by omega)
      have := rw3 j a _ _ ea e1 e2
      exact ⟨a, _, _, rfl, e1, e2, this.1, s _ _ this.2.1, by omega⟩
    refine ⟨.ref R, rfl, R, rfl, ⟨_, .inl (.inl eR3)⟩, fun D nD => dc_tup (xs := as.map V.ref) (fun j H' => Same H3 H' ∧ H' D = some (.dK (kvH (hs.take j)))) ⟨same_new nD, upd_same⟩ (fun j H' _ z => .inl (.inl (z.1 _ _ eR3))) (fun j u H4 hu z => ?_) (fun H4 z => ?_)⟩
    · obtain ⟨s4, eD⟩ := z
      obtain ⟨a, r, zz, rfl, er, ez, e1, ea, lj⟩ := pick H4 j u s4 hu
      refine ⟨a, _, rfl, .inl (.inl ea), rfl, _, _, rfl, _, _, rfl, _, _, rfl, rfl, wipe_three, _, rfl, _, rfl, kvH (hs.take j), .inl r.1, rfl, eD, ?_, same_over s4 nD, ?_⟩
      · unfold kvH
        rw [List.length_map, List.length_take]
        exact small1000 (Nat.le_trans (Nat.min_le_left _ _) (by omega))
      · rw [upd_same, putK_new (fun kv hkv => ?_)]
        · unfold kvH
          rw [List.take_add_one, ez, List.map_append, ← e1]
          rfl
        · obtain ⟨w1, hw1, rfl⟩ := List.mem_map.mp hkv
          intro q0
          have q1 : w1.1 = r.1 := Sum.inl.inj q0
          refine nd_take (kh ▸ nd) (n := r.1) (i := j) (by rw [List.getElem?_map, ez, ← e1]; rfl) ?_
          rw [← q1, ← List.map_take]
          exact List.mem_map_of_mem hw1
    obtain ⟨s4, eD⟩ := z
    rw [List.take_of_length_le (by rw [List.length_map]; omega)] at eD
    have nDx : D ≠ x := fun z => by rw [z, e3] at nD; cases nD
    refine ⟨.ref x, rfl, x, C, dx, _, rfl, s4 _ _ e3, X.cl, X.n4, (show 3 < 1000 by decide), ?_⟩
    rw [put4]
    have e5 : (upd H4 x (.ins C dx [("thing", .int (i : Int)), ("place", .int p), ("wish", .non), ("held", .ref D)])) x = some (.ins C dx [("thing", .int (i : Int)), ("place", .int p), ("wish", .non), ("held", .ref D)]) := upd_same
    have eD5 : (upd H4 x (.ins C dx [("thing", .int (i : Int)), ("place", .int p), ("wish", .non), ("held", .ref D)])) D = some (.dK (kvH hs)) := (upd_ne nDx).trans eD
    have b5 : ∀ b o, b ≠ x → H4 b = some o → (upd H4 x (.ins C dx [("thing", .int (i : Int)), ("place", .int p), ("wish", .non), ("held", .ref D)])) b = some o := fun b o n eb => (upd_ne n).trans eb
    have n5 : ∀ b, b ≠ x → (upd H4 x (.ins C dx [("thing", .int (i : Int)), ("place", .int p), ("wish", .non), ("held", .ref D)])) b = none → H4 b = none := fun b n eb => by rwa [upd_ne n] at eb
    generalize upd H4 x (.ins C dx [("thing", .int (i : Int)), ("place", .int p), ("wish", .non), ("held", .ref D)]) = H5 at e5 eD5 b5 n5 ⊢
    have eR5 : H5 R = some (.tup (as.map V.ref)) := b5 _ _ (nx _ _ eR) (s4 _ _ eR3)
    have ne4 : ∀ b xs, H4 b = some (.tup xs) → b ≠ x := fun b xs eb z => by
      rw [z, s4 _ _ e3] at eb
      cases eb
    have pick5 : ∀ (H6 : Hp) (j : Nat) (u : V), Same H5 H6 → (as.map V.ref)[j]? = some u → ∃ a r z, u = .ref a ∧ rows[j]? = some r ∧ hs[j]? = some z ∧ z.1 = r.1 ∧ H6 a = some (.tup [.int r.1, .ref z.2, .int r.2.2]) ∧ j < 40 := fun H6 j u s hu => by
      obtain ⟨a, r, z, h1, h2, h3, h4, h5, h6⟩ := pick H4 j u s4 hu
      exact ⟨a, r, z, h1, h2, h3, h4, s _ _ (b5 _ _ (ne4 _ _ h5) h5), h6⟩
    refine ⟨.ref R, rfl, R, rfl, ⟨_, .inl (.inl eR5)⟩, fun T nT => dc_tup (xs := as.map V.ref) (fun j H' => Same H5 H' ∧ H' T = some (.dK (kvT (rows.take j)))) ⟨same_new nT, upd_same⟩ (fun j H' _ z => .inl (.inl (z.1 _ _ eR5))) (fun j u H6 hu z => ?_) (fun H6 z => ?_)⟩
    · obtain ⟨s6, eT⟩ := z
      obtain ⟨a, r, zz, rfl, er, ez, e1, ea, lj⟩ := pick5 H6 j u s6 hu
      refine ⟨a, _, rfl, .inl (.inl ea), rfl, _, _, rfl, _, _, rfl, _, _, rfl, rfl, wipe_three, _, rfl, _, rfl, kvT (rows.take j), .inl r.1, rfl, eT, ?_, same_over s6 nT, ?_⟩
      · unfold kvT
        rw [List.length_map, List.length_take]
        exact small1000 (Nat.le_trans (Nat.min_le_left _ _) (by omega))
      · rw [upd_same, putK_new (fun kv hkv => ?_)]
        · unfold kvT
          rw [List.take_add_one, er, List.map_append]
          rfl
        · obtain ⟨w1, hw1, rfl⟩ := List.mem_map.mp hkv
          intro q0
          have q1 : w1.1 = r.1 := Sum.inl.inj q0
          refine nd_take nd (n := r.1) (i := j) (by rw [List.getElem?_map, er]; rfl) ?_
          rw [← q1, ← List.map_take]
          exact List.mem_map_of_mem hw1
    obtain ⟨s6, eT⟩ := z
    rw [List.take_of_length_le (by rw [List.length_map]; omega)] at eT
    have nTx : T ≠ x := fun z => by rw [z, e5] at nT; cases nT
    have nDT : D ≠ T := fun z => by rw [← z, eD5] at nT; cases nT
    refine ⟨.ref x, rfl, x, C, dx, _, rfl, s6 _ _ e5, X.cl, X.n5, (show 4 < 1000 by decide), ?_⟩
    rw [put5]
    have b07 : ∀ b o, b ≠ x → H b = some o → (upd H6 x (.ins C dx [("thing", .int (i : Int)), ("place", .int p), ("wish", .non), ("held", .ref D), ("tally", .ref T)])) b = some o := fun b o n eb => (upd_ne n).trans (s6 _ _ (b5 _ _ n (s4 _ _ (b3 _ _ n eb))))
    have tk7 : TupK H (upd H6 x (.ins C dx [("thing", .int (i : Int)), ("place", .int p), ("wish", .non), ("held", .ref D), ("tally", .ref T)])) := fun b xs eb => b07 b _ (nx b xs eb) eb
    have nTH : H T = none := by
      have z1 := n5 T nTx nT
      cases hq : H3 T with
      | none => rw [← f3 T nTx]; exact hq
      | some o =>
        rw [s4 _ _ hq] at z1
        cases z1
    refine q _ D T b07 ⟨dx, .non, hs, upd_same, rfl, .inl ((upd_ne nDx).trans (s6 _ _ eD5)), (upd_ne nTx).trans eT, held_of l2 fun j r z h1 h2 => ?_⟩ nDT (by rw [← f3 D nDx]; exact nD) nTH ⟨_, (upd_ne nDx).trans (s6 _ _ eD5)⟩
    have hj : j < as.length := by
      have := (List.getElem?_eq_some_iff.mp h1).1
      show j < as.length
      have h1' : j < rows.length := this
      omega
    have := f j _ r z (List.getElem?_eq_getElem hj) h1 h2
    exact ⟨this.1, this.2.2.tk tk7⟩
end
end K61

set_option Elab.async false
set_option linter.all false
set_option maxRecDepth 100000
namespace K61
open PySem PySem.Spec PyProof.Rows L2 NB

/-! ### what a hand tells is one -/
theorem sorted_uniq : ∀ {l m : List Int}, l.Perm m → l.Pairwise (· ≤ ·) → m.Pairwise (· ≤ ·) → l = m
  | [], m, p, _, _ => (List.nil_perm.mp p).symm
  | a :: l, [], p, _, _ => by
    have := p.length_eq
    cases this
  | a :: l, b :: m, p, hl, hm => by
    have h1 := (List.pairwise_cons.mp hl).1
    have h2 := (List.pairwise_cons.mp hm).1
    have e : a = b := by
      have ha : a ∈ b :: m := (p.mem_iff).mp List.mem_cons_self
      have hb : b ∈ a :: l := (p.mem_iff).mpr List.mem_cons_self
      rcases List.mem_cons.mp ha with h | h
      · exact h
      · rcases List.mem_cons.mp hb with k | k
        · exact k.symm
        · have q1 : b ≤ a := h2 a h
          have q2 : a ≤ b := h1 b k
          omega
    subst e
    rw [sorted_uniq (List.perm_cons a |>.mp p) (List.pairwise_cons.mp hl).2 (List.pairwise_cons.mp hm).2]
theorem strict_uniq : ∀ {l m : List Int}, (∀ k, k ∈ l ↔ k ∈ m) → l.Pairwise (· < ·) → m.Pairwise (· < ·) → l = m
  | [], [], _, _, _ => rfl
  | [], b :: m, h, _, _ => absurd ((h b).mpr List.mem_cons_self) List.not_mem_nil
  | a :: l, [], h, _, _ => absurd ((h a).mp List.mem_cons_self) List.not_mem_nil
  | a :: l, b :: m, h, hl, hm => by
    have h1 := List.pairwise_cons.mp hl
    have h2 := List.pairwise_cons.mp hm
    have e : a = b := by
      rcases List.mem_cons.mp ((h a).mp List.mem_cons_self) with k | k
      · exact k
      · rcases List.mem_cons.mp ((h b).mpr List.mem_cons_self) with k' | k'
        · exact k'.symm
        · have q1 := h2.1 a k
          have q2 := h1.1 b k'
          omega
    subst e
    rw [strict_uniq (fun k => ?_) h1.2 h2.2]
    constructor
    · intro hk
      rcases List.mem_cons.mp ((h k).mp (List.mem_cons_of_mem _ hk)) with z | z
      · have := h1.1 k hk
        omega
      · exact z
    · intro hk
      rcases List.mem_cons.mp ((h k).mpr (List.mem_cons_of_mem _ hk)) with z | z
      · have := h2.1 k hk
        omega
      · exact z
theorem ShL.uniq {h : Hd} {ys ys' : List Int} (a : ShL h ys) (b : ShL h ys') : ys = ys' := by
  obtain ⟨zs, p, s, rfl⟩ := a
  obtain ⟨zs', p', s', rfl⟩ := b
  rw [sorted_uniq (p.trans p'.symm) s s']
theorem LkL.uniq {h : Hd} {ys ys' : List Int} (a : LkL h ys) (b : LkL h ys') : ys = ys' := by
  rcases a with ⟨g, rfl⟩ | ⟨g, ss, s, rfl⟩
  · rcases b with ⟨_, rfl⟩ | ⟨g', _⟩
    · rfl
    · exact absurd g g'
  · rcases b with ⟨g', _⟩ | ⟨_, ss', s', rfl⟩
    · exact absurd g' g
    · rw [s.uniq s']
theorem BtL.uniq {h : Hd} {bs bs' : List Bt} (a : BtL h bs) (b : BtL h bs') : bs = bs' := by
  obtain ⟨ys, l, a⟩ := a
  obtain ⟨ys', l', b⟩ := b
  have e := l.uniq l'
  subst e
  rcases a with ⟨_, rfl⟩ | ⟨n, ss, ts, s, st, sm, rfl⟩
  · rcases b with ⟨_, rfl⟩ | ⟨n', _⟩
    · rfl
    · exact absurd ‹h.wish = none› n'
  · rcases b with ⟨n', _⟩ | ⟨_, ss', ts', s', st', sm', rfl⟩
    · exact absurd n' n
    · have e := s.uniq s'
      subst e
      rw [strict_uniq (fun k => (sm k).trans (sm' k).symm) st st']

/-! ### a letter heard twice -/
theorem putC_twice (rows : List (Int × Rl × Int)) (n c : Int) : putC (putC rows n c) n c = putC rows n c := by
  unfold putC
  rw [List.map_map]
  refine List.map_congr_left fun r _ => ?_
  show (if (if r.1 = n then (r.1, r.2.1, c) else r).1 = n then _ else _) = _
  by_cases h : r.1 = n
  · rw [if_pos h]
    simp [h]
  · rw [if_neg h]
    simp [h]
theorem setc_twice (h : Hd) (n c : Int) : (h.setc n c).setc n c = h.setc n c := by
  show ({ h with rows := putC (putC h.rows n c) n c } : Hd) = { h with rows := putC h.rows n c }
  rw [putC_twice]
theorem hw_not {h : Hd} {o : Option Wi} (n : ¬ wishN o > wishN h.wish) : h.hw o = h := by
  unfold Hd.hw
  rw [if_neg n]
theorem hw_ge (h : Hd) (o : Option Wi) : ¬ wishN o > wishN (h.hw o).wish := by
  unfold Hd.hw
  split
  · show ¬ wishN o > wishN o
    omega
  · assumption
theorem mx_ge (i j : Int) : i ≤ mx i j ∧ j ≤ mx i j := by
  unfold mx
  split <;> omega
theorem mx_same {i j : Int} (h : j ≤ i) : mx i j = i := by
  unfold mx
  rw [if_neg (by omega)]
theorem setc_wish (h : Hd) (n c : Int) : (h.setc n c).wish = h.wish := rfl
theorem look_setc {h : Hd} {n c : Int} {z : Rl × Int} (e : look h.rows n = some z) : look (h.setc n c).rows n = some (z.1, c) := by
  show look (putC h.rows n c) n = _
  rw [look_put, e]
  simp
theorem hear_at {h : Hd} {a : Str} {n k : Int} {o : Option Wi} {z : Rl × Int} (e : look h.rows n = some z) (s : shrd z.1 = true) : h.hear (a, [n, k], o) = (h.hw o).hear2 a o n k z := by
  rw [hear_two, e]
  exact if_pos s
/-- a letter heard once more at once is answered alike and changes nothing -/
theorem hear_again {h : Hd} {a : Str} {n k : Int} {o : Option Wi} {z : Rl × Int} (e : look h.rows n = some z) (s : shrd z.1 = true) :
    (h.hear (a, [n, k], o)).1.hear (a, [n, k], o) = h.hear (a, [n, k], o) := by
  rw [hear_at e s]
  have hg := hw_ge h o
  have er : look (h.hw o).rows n = some z := by rw [hw_rows]; exact e
  generalize h.hw o = g at hg er
  have em := look_setc (c := mx z.2 k) er
  have km := (mx_ge z.2 k).2
  unfold Hd.hear2
  by_cases c : (decide (a = "leave") || decide (wishN o < wishN g.wish)) = true
  · rw [if_pos c, hear_at em s, hw_not (h := g.setc n (mx z.2 k)) hg]
    unfold Hd.hear2
    rw [if_pos (show (decide (a = "leave") || decide (wishN o < wishN (g.setc n (mx z.2 k)).wish)) = true from c), mx_same km, setc_twice]
  · rw [if_neg c, ans_of em]
    generalize hG : g.setc n (mx z.2 k) = G at em ⊢
    have wG : G.wish = g.wish := by rw [← hG]; rfl
    have eu := look_hup (k := k) em
    have wu : (G.hup n (z.1, mx z.2 k) k).wish = g.wish := by rw [hup_wish, wG]
    have ku : k ≤ G.cup (z.1, mx z.2 k) k := by
      unfold Hd.cup
      split
      · show k ≤ mx z.2 k + 1
        omega
      · exact km
    rw [hear_at eu s, hw_not (by rw [wu]; exact hg)]
    unfold Hd.hear2
    rw [wu, if_neg c, mx_same ku]
    have same : (G.hup n (z.1, mx z.2 k) k).setc n (G.cup (z.1, mx z.2 k) k) = G.hup n (z.1, mx z.2 k) k := by
      unfold Hd.hup Hd.cup
      by_cases q : G.cnd (z.1, mx z.2 k) k = true
      · rw [if_pos q, if_pos q, setc_twice]
      · rw [if_neg q, if_neg q, ← hG, setc_twice]
    rw [same, ans_of eu]
    have nc : (G.hup n (z.1, mx z.2 k) k).cnd (z.1, G.cup (z.1, mx z.2 k) k) k = false := by
      by_cases q : G.cnd (z.1, mx z.2 k) k = true
      · have q0 := q
        unfold Hd.cnd at q0
        have q1 : mx z.2 k = k := of_decide_eq_true (Bool.and_eq_true_iff.mp q0).1
        have e2 : G.cup (z.1, mx z.2 k) k = mx z.2 k + 1 := by unfold Hd.cup; rw [if_pos q]
        rw [e2]
        unfold Hd.cnd
        refine Bool.and_eq_false_iff.mpr (.inl (decide_eq_false ?_))
        show ¬ mx z.2 k + 1 = k
        omega
      · have q' : G.cnd (z.1, mx z.2 k) k = false := Bool.eq_false_iff.mpr q
        have e1 : G.hup n (z.1, mx z.2 k) k = G := by unfold Hd.hup; rw [if_neg q]
        have e2 : G.cup (z.1, mx z.2 k) k = mx z.2 k := by unfold Hd.cup; rw [if_neg q]
        rw [e1, e2]
        exact q'
    have th := hup_thing G n (z.1, mx z.2 k) k
    have wh := hup_wish G n (z.1, mx z.2 k) k
    generalize G.hup n (z.1, mx z.2 k) k = U at nc th wh
    generalize G.cup (z.1, mx z.2 k) k = c' at nc
    have e3 : U.hup n (z.1, c') k = U := by unfold Hd.hup; rw [if_neg (by rw [nc]; decide)]
    have e4 : U.cup (z.1, c') k = c' := by unfold Hd.cup; rw [if_neg (by rw [nc]; decide)]
    rw [e3, e4, th, wh]
end K61

set_option Elab.async false
set_option linter.all false
set_option maxRecDepth 100000
namespace K61
open PySem PySem.Spec PyProof.Rows L2 NB

/-! ### rules put and dropped -/
def dropR (rows : List (Int × Rl × Int)) (n : Int) : List (Int × Rl × Int) := rows.filter fun r => decide (r.1 ≠ n)
theorem dropR_keys (rows : List (Int × Rl × Int)) (n : Int) : (dropR rows n).map (·.1) = (rows.map (·.1)).filter fun m => decide (m ≠ n) := by
  unfold dropR
  rw [List.filter_map]
  rfl
theorem drop_kvT (rows : List (Int × Rl × Int)) (n : Int) : dropK (kvT rows) (Sum.inl n) = kvT (dropR rows n) := by
  unfold dropK kvT dropR
  rw [List.filter_map]
  congr 1
  refine List.filter_congr fun r _ => ?_
  exact decide_eq_decide.mpr (not_congr ⟨fun h => Sum.inl.inj h, fun h => congrArg Sum.inl h⟩)
theorem drop_kvH (hs : List (Int × Addr)) (n : Int) : dropK (kvH hs) (Sum.inl n) = kvH (hs.filter fun z => decide (z.1 ≠ n)) := by
  unfold dropK kvH
  rw [List.filter_map]
  congr 1
  refine List.filter_congr fun r _ => ?_
  exact decide_eq_decide.mpr (not_congr ⟨fun h => Sum.inl.inj h, fun h => congrArg Sum.inl h⟩)
theorem Held.drop {H : Hp} (n : Int) : ∀ {hs : List (Int × Addr)} {rows : List (Int × Rl × Int)}, Held H hs rows → Held H (hs.filter fun z => decide (z.1 ≠ n)) (dropR rows n)
  | [], [], _ => trivial
  | z :: hs, r :: rows, ⟨e, g, c⟩ => by
    have ih := Held.drop n c
    unfold dropR at ih ⊢
    by_cases hn : z.1 = n
    · rw [List.filter_cons_of_neg (by rw [decide_eq_true_eq]; exact fun q => q hn), List.filter_cons_of_neg (by rw [decide_eq_true_eq, ← e]; exact fun q => q hn)]
      exact ih
    · rw [List.filter_cons_of_pos (p := fun z : Int × Addr => decide (z.1 ≠ n)) (decide_eq_true hn), List.filter_cons_of_pos (p := fun r : Int × Rl × Int => decide (r.1 ≠ n)) (decide_eq_true (by rw [← e]; exact hn))]
      exact ⟨e, g, ih⟩
  | [], _ :: _, h => h.elim
  | _ :: _, [], h => h.elim
theorem valK_none {rows : List (Int × Rl × Int)} {n : Int} (h : n ∉ rows.map (·.1)) : look rows n = none := by
  cases e : look rows n with
  | none => rfl
  | some z =>
    refine absurd ?_ h
    unfold look at e
    cases hf : rows.find? fun r => decide (r.1 = n) with
    | none => rw [hf] at e; cases e
    | some y =>
      have h2 := List.find?_some hf
      have h3 : y.1 = n := of_decide_eq_true h2
      rw [← h3]
      exact List.mem_map_of_mem (f := fun r : Int × Rl × Int => r.1) (List.mem_of_find?_eq_some hf)
theorem look_key {rows : List (Int × Rl × Int)} {n : Int} (h : n ∈ rows.map (·.1)) : ∃ z, look rows n = some z := by
  obtain ⟨q, c, e⟩ := look_of h
  exact ⟨_, e⟩
theorem Held.snocH {H : Hp} {r : Int × Rl × Int} {a : Addr} (hr : RuleAt H a r.2.1) : ∀ {hs : List (Int × Addr)} {rows : List (Int × Rl × Int)}, Held H hs rows → Held H (hs ++ [(r.1, a)]) (rows ++ [r])
  | [], [], _ => ⟨rfl, hr, trivial⟩
  | _ :: _, _ :: _, ⟨x, y, c⟩ => ⟨x, y, Held.snocH hr c⟩
  | [], _ :: _, h => h.elim
  | _ :: _, [], h => h.elim
theorem putH_new {H : Hp} {hs : List (Int × Addr)} {rows : List (Int × Rl × Int)} (l : Held H hs rows) {n : Int} (hn : n ∉ rows.map (·.1)) (r : Addr) : putK (kvH hs) (Sum.inl n) (.ref r) = kvH (hs ++ [(n, r)]) := by
  rw [putK_new (fun kv hkv => ?_)]
  · unfold kvH
    rw [List.map_append]
    rfl
  · unfold kvH at hkv
    obtain ⟨z, hz, rfl⟩ := List.mem_map.mp hkv
    intro q0
    refine hn ?_
    rw [← Sum.inl.inj q0, ← l.keys]
    exact List.mem_map_of_mem hz
theorem putT_new {rows : List (Int × Rl × Int)} {n : Int} (hn : n ∉ rows.map (·.1)) (q : Rl) (c : Int) : putK (kvT rows) (Sum.inl n) (.int c) = kvT (rows ++ [(n, q, c)]) := by
  rw [putK_new (fun kv hkv => ?_)]
  · unfold kvT
    rw [List.map_append]
    rfl
  · unfold kvT at hkv
    obtain ⟨z, hz, rfl⟩ := List.mem_map.mp hkv
    intro q0
    refine hn ?_
    rw [← Sum.inl.inj q0]
    exact List.mem_map_of_mem hz
def spHPut (C : Addr) : Sp := fun vs H Q _ => ∃ (x D T r : Addr) (h : Hd) (n c : Int) (rl : Rl), vs = [.ref x, .int n, .ref r, .int c] ∧ HandAt C H x D T h ∧ D ≠ T ∧ (∃ kvs, H D = some (.dK kvs)) ∧ RuleAt H r rl ∧ n ∉ h.rows.map (·.1) ∧ h.rows.length ≤ 60 ∧
  ∀ H', (∀ b o, b ≠ D → b ≠ T → H b = some o → H' b = some o) → HandAt C H' x D T { h with rows := h.rows ++ [(n, rl, c)] } → (∃ kvs, H' D = some (.dK kvs)) → Q .non H'
def spHDrop (C : Addr) : Sp := fun vs H Q _ => ∃ (x D T : Addr) (h : Hd) (n : Int), vs = [.ref x, .int n] ∧ HandAt C H x D T h ∧ D ≠ T ∧ (∃ kvs, H D = some (.dK kvs)) ∧ n ∈ h.rows.map (·.1) ∧
  ∀ H', (∀ b o, b ≠ D → b ≠ T → H b = some o → H' b = some o) → HandAt C H' x D T { h with rows := dropR h.rows n } → (∃ kvs, H' D = some (.dK kvs)) → Q .non H'
section
variable {P : Program} {w : World} {K : PySem.W.Frag} {mg : Str → Option Value} {base : Heap}
abbrev a_Hand_put : Stmt := inClass (topS 20) 14
abbrev n_Hand_put : List Str := ["self", "number", "rule", "count"]
theorem sc_Hand_put : FnScope n_Hand_put ["self", "number", "rule", "count"] (defScope a_Hand_put) := ⟨rfl, rfl, rfl, by decide +kernel, rfl, by decide +kernel, by decide +kernel⟩
set_option maxHeartbeats 8000000 in
theorem ok_Hand_put {f fWh : Addr} {fd fdWh : FuncData} {k : Nat} {C : Addr} (F : Fun K "put" "Hand.put" a_Hand_put f fd) (Wh : Kn P w K mg base 1 "is_whole" ["thing"] (spLook wholeD) fWh fdWh) (X : HandTxt K C)  : FnOk P w K mg base CX0 (k + 3) f fd ["self", "number", "rule", "count"] (spHPut C) := by
  refine F.ok sc_Hand_put (fun vs H Q E h => ?_) (fun cdv A outer s H vs Q E hr h => ?_)
  · obtain ⟨x, D, T, r, h, n, c, rl, rfl, _⟩ := h
    rfl
  · obtain ⟨x, D, T, r, h, n, c, rl, rfl, ha, hDT, hD, rA, hn, l40, q⟩ := h
    refine ⟨_, (pss_cons (ps_if (PW.pt (pw_or (pt_not (pt_val (pe_kn Wh hr (by omega) (pa_cons (pv 1) pa_nil)))) (pw_or1 (pt_cmp (pc_din (hu_of hr) (pv 1) (pe_fld (pv 0) rfl)))))) (pss_one (ps_never)) pss_nil)
      (pss_cons (ps_asg (pv 2) (pg_sub (pe_fld (pv 0) rfl) (pv 1) (set_dict (hu_of hr))))
      (pss_one (ps_asg (pv 3) (pg_sub (pe_fld (pv 0) rfl) (pv 1) (set_dict (hu_of hr))))))), ?_⟩
    obtain ⟨dx, v, hs, e, w1, d, t, l⟩ := ha
    have e' : H x = some (.ins C dx [("thing", .int (h.thing : Int)), ("place", .int h.place), ("wish", v), ("held", .ref D), ("tally", .ref T)]) := e
    have d0 : H D = some (.dK (kvH hs)) := by
      obtain ⟨kvs, hk⟩ := hD
      rcases d with d | ⟨od, d⟩
      · exact d
      · rw [hk] at d
        cases d
    refine ⟨_, rfl, 0, .int n, _, rfl, .int n, fun H1 s1 => ⟨true, rfl, iteF ?_⟩⟩
    have e1 := s1 _ _ e'
    have d1 := s1 _ _ d0
    have t1 := s1 _ _ t
    have l1 := l.keep (.same s1)
    have r1 := rA.keep (.same s1)
    have w2 := w1.keep (.same s1)
    have vn : valV (kvH hs) (Sum.inl n) = none := by
      rcases valH n l with ⟨_, a2⟩ | ⟨q', c', a, a1, _⟩
      · exact a2
      · rw [valK_none hn] at a1
        cases a1
    have kl : hs.length = h.rows.length := by
      have := congrArg List.length l.keys
      rw [List.length_map, List.length_map] at this
      exact this
    refine ⟨_, rfl, .ref x, rfl, x, C, dx, _, _, rfl, e1, X.cl, X.n4, lk4, D, valV (kvH hs) (.inl n), rfl, DGr (k := .inl n) (.inl d1), _, rfl, ?_⟩
    rw [vn]
    refine iteF ⟨_, rfl, .ref x, rfl, x, C, dx, _, _, rfl, e1, X.cl, X.n4, lk4, _, rfl, D, _, rfl, DPut.k (k := .inl n) d1 (by unfold kvH; rw [List.length_map]; exact small1000 (by omega)), ?_⟩
    rw [putH_new l1 hn]
    have nxD : x ≠ D := fun z => by rw [z, d0] at e'; cases e'
    have nxT : x ≠ T := fun z => by rw [z, t] at e'; cases e'
    have tk1 : TupK H1 (upd H1 D (.dK (kvH (hs ++ [(n, r)])))) := fun b xs eb => (upd_ne (fun z => by rw [z, d1] at eb; cases eb)).trans eb
    have e2 : (upd H1 D (.dK (kvH (hs ++ [(n, r)])))) x = some (.ins C dx [("thing", .int (h.thing : Int)), ("place", .int h.place), ("wish", v), ("held", .ref D), ("tally", .ref T)]) := (upd_ne nxD).trans e1
    have t2 : (upd H1 D (.dK (kvH (hs ++ [(n, r)])))) T = some (.dK (kvT h.rows)) := (upd_ne hDT.symm).trans t1
    have d2 : (upd H1 D (.dK (kvH (hs ++ [(n, r)])))) D = some (.dK (kvH (hs ++ [(n, r)]))) := upd_same
    have k2 : ∀ b o, b ≠ D → H1 b = some o → (upd H1 D (.dK (kvH (hs ++ [(n, r)])))) b = some o := fun b o nb eb => (upd_ne nb).trans eb
    generalize upd H1 D (.dK (kvH (hs ++ [(n, r)]))) = H2 at tk1 e2 t2 d2 k2 ⊢
    refine ⟨_, rfl, .ref x, rfl, x, C, dx, _, _, rfl, e2, X.cl, X.n5, lk5, _, rfl, T, _, rfl, DPut.k (k := .inl n) t2 (by unfold kvT; rw [List.length_map]; exact small1000 (by omega)), ?_⟩
    rw [putT_new hn rl c]
    have tk2 : TupK H2 (upd H2 T (.dK (kvT (h.rows ++ [(n, rl, c)])))) := fun b xs eb => (upd_ne (fun z => by rw [z, t2] at eb; cases eb)).trans eb
    exact q _ (fun b o n1 n2 eb => (upd_ne n2).trans (k2 b o n1 (s1 _ _ eb))) ⟨dx, v, hs ++ [(n, r)], (upd_ne nxT).trans e2, (w2.tk tk1).tk tk2, .inl ((upd_ne hDT).trans d2), upd_same, Held.snocH (r := (n, rl, c)) ((r1.tk tk1).tk tk2) ((l1.tk tk1).tk tk2)⟩ ⟨_, (upd_ne hDT).trans d2⟩
abbrev a_Hand_drop : Stmt := inClass (topS 20) 15
abbrev n_Hand_drop : List Str := ["self", "number"]
theorem sc_Hand_drop : FnScope n_Hand_drop ["self", "number"] (defScope a_Hand_drop) := ⟨rfl, rfl, rfl, by decide +kernel, rfl, by decide +kernel, by decide +kernel⟩
set_option maxHeartbeats 8000000 in
theorem ok_Hand_drop {f fWh : Addr} {fd fdWh : FuncData} {k : Nat} {C : Addr} (F : Fun K "drop" "Hand.drop" a_Hand_drop f fd) (Wh : Kn P w K mg base 1 "is_whole" ["thing"] (spLook wholeD) fWh fdWh) (X : HandTxt K C)  : FnOk P w K mg base CX0 (k + 3) f fd ["self", "number"] (spHDrop C) := by
  refine F.ok sc_Hand_drop (fun vs H Q E h => ?_) (fun cdv A outer s H vs Q E hr h => ?_)
  · obtain ⟨x, D, T, h, n, rfl, _⟩ := h
    rfl
  · obtain ⟨x, D, T, h, n, rfl, ha, hDT, hD, hn, q⟩ := h
    refine ⟨_, (pss_cons (ps_if (PW.pt (pw_or (pt_not (pt_val (pe_kn Wh hr (by omega) (pa_cons (pv 1) pa_nil)))) (pw_or1 (pt_cmp (pc_dnotin (hu_of hr) (pv 1) (pe_fld (pv 0) rfl)))))) (pss_one (ps_never)) pss_nil)
      (pss_cons (ps_ddel (pe_fld (pv 0) rfl) (pv 1))
      (pss_one (ps_ddel (pe_fld (pv 0) rfl) (pv 1))))), ?_⟩
    obtain ⟨dx, v, hs, e, w1, d, t, l⟩ := ha
    have e' : H x = some (.ins C dx [("thing", .int (h.thing : Int)), ("place", .int h.place), ("wish", v), ("held", .ref D), ("tally", .ref T)]) := e
    have d0 : H D = some (.dK (kvH hs)) := by
      obtain ⟨kvs, hk⟩ := hD
      rcases d with d | ⟨od, d⟩
      · exact d
      · rw [hk] at d
        cases d
    refine ⟨_, rfl, 0, .int n, _, rfl, .int n, fun H1 s1 => ⟨true, rfl, iteF ?_⟩⟩
    have e1 := s1 _ _ e'
    have d1 := s1 _ _ d0
    have t1 := s1 _ _ t
    have l1 := l.keep (.same s1)
    have w2 := w1.keep (.same s1)
    obtain ⟨z, lz⟩ := look_key hn
    have vn : ∃ a, valV (kvH hs) (Sum.inl n) = some (.ref a) := by
      rcases valH n l with ⟨a1, _⟩ | ⟨q', c', a, _, a2, _⟩
      · rw [lz] at a1
        cases a1
      · exact ⟨a, a2⟩
    obtain ⟨a, vn⟩ := vn
    refine ⟨_, rfl, .ref x, rfl, x, C, dx, _, _, rfl, e1, X.cl, X.n4, lk4, D, valV (kvH hs) (.inl n), rfl, DGr (k := .inl n) (.inl d1), _, rfl, ?_⟩
    rw [vn]
    refine iteF ⟨.ref x, rfl, x, C, dx, _, _, rfl, e1, X.cl, X.n4, lk4, _, rfl, D, kvH hs, .inl n, rfl, d1, rfl, by rw [vn]; rfl, ?_⟩
    rw [drop_kvH]
    have nxD : x ≠ D := fun z => by rw [z, d0] at e'; cases e'
    have nxT : x ≠ T := fun z => by rw [z, t] at e'; cases e'
    have tk1 : TupK H1 (upd H1 D (.dK (kvH (hs.filter fun z => decide (z.1 ≠ n))))) := fun b xs eb => (upd_ne (fun z => by rw [z, d1] at eb; cases eb)).trans eb
    have e2 : (upd H1 D (.dK (kvH (hs.filter fun z => decide (z.1 ≠ n))))) x = some (.ins C dx [("thing", .int (h.thing : Int)), ("place", .int h.place), ("wish", v), ("held", .ref D), ("tally", .ref T)]) := (upd_ne nxD).trans e1
    have t2 : (upd H1 D (.dK (kvH (hs.filter fun z => decide (z.1 ≠ n))))) T = some (.dK (kvT h.rows)) := (upd_ne hDT.symm).trans t1
    have d2 : (upd H1 D (.dK (kvH (hs.filter fun z => decide (z.1 ≠ n))))) D = some (.dK (kvH (hs.filter fun z => decide (z.1 ≠ n)))) := upd_same
    have k2 : ∀ b o, b ≠ D → H1 b = some o → (upd H1 D (.dK (kvH (hs.filter fun z => decide (z.1 ≠ n))))) b = some o := fun b o nb eb => (upd_ne nb).trans eb
    generalize upd H1 D (.dK (kvH (hs.filter fun z => decide (z.1 ≠ n)))) = H2 at tk1 e2 t2 d2 k2 ⊢
    refine ⟨.ref x, rfl, x, C, dx, _, _, rfl, e2, X.cl, X.n5, lk5, _, rfl, T, kvT h.rows, .inl n, rfl, t2, rfl, by rw [valT, lz]; rfl, ?_⟩
    rw [drop_kvT]
    have tk2 : TupK H2 (upd H2 T (.dK (kvT (dropR h.rows n)))) := fun b xs eb => (upd_ne (fun z => by rw [z, t2] at eb; cases eb)).trans eb
    exact q _ (fun b o n1 n2 eb => (upd_ne n2).trans (k2 b o n1 (s1 _ _ eb))) ⟨dx, v, hs.filter fun z => decide (z.1 ≠ n), (upd_ne nxT).trans e2, (w2.tk tk1).tk tk2, .inl ((upd_ne hDT).trans d2), upd_same, ((l1.tk tk1).tk tk2).drop n⟩ ⟨_, (upd_ne hDT).trans d2⟩
end
end K61

set_option Elab.async false
set_option linter.all false
set_option maxRecDepth 100000
namespace K61
open PySem PySem.Spec PyProof.Rows L2 NB

/-! ### letters told, shown; a second stride is none -/
def btD (b : Bt) : PyData := .tuple [.int b.1, ltD b.2]
theorem dp_bts {K : PySem.W.Frag} {H : Hp} : ∀ {as : List Addr} {bs : List Bt}, BtAt H as bs → DpAll K H (as.map V.ref) (bs.map btD)
  | [], [], _ => .nil
  | _ :: _, _ :: _, ⟨⟨l, e, g⟩, c⟩ => .cons (.tup (.inl (.inl e)) (.cons (.int _) (.cons (dp_let g) .nil))) (dp_bts c)
  | [], _ :: _, h => h.elim
  | _ :: _, [], h => h.elim
theorem dp_bat {K : PySem.W.Frag} {H : Hp} {g : Addr} {bs : List Bt} (h : BAt H g bs) : Dp K H (.ref g) (.tuple (bs.map btD)) := by
  obtain ⟨as, e, b⟩ := h
  exact .tup (.inl (.inl e)) (dp_bts b)
theorem Small.wd {a : Str} (h : a = "ask" ∨ a = "leave" ∨ a = "word") : Small (.str a) 150 0 := by
  rcases h with rfl | rfl | rfl <;> exact ⟨rfl, rfl, Nat.le_refl _, by decide +kernel, by decide +kernel⟩
theorem small_wi {o : Option Wi} (h : ∀ w, o = some w → WiP w) : Small (wiD o) 4100 2 := by
  cases o with
  | none => exact ⟨rfl, rfl, Nat.zero_le _, rfl, Nat.zero_le _⟩
  | some w =>
    obtain ⟨h1, h2, _, h4, h5⟩ := h w rfl
    have e : ((10 ^ 30 : Nat) : Int) = 10 ^ 30 := by norm_cast
    have a1 : w.1.natAbs < 10 ^ 90 := Nat.lt_trans (show w.1.natAbs < 10 ^ 30 by omega) (by decide)
    have a2 : ∀ x ∈ w.2, x.natAbs < 10 ^ 90 := fun x hx => by
      obtain ⟨p1, p2⟩ := h5 x hx
      exact Nat.lt_trans (show x.natAbs < 10 ^ 30 by omega) (by decide)
    have c := Small.tuple (SmallAll.cons (Small.int a1) (SmallAll.cons (Small.tuple (SmallAll.ints a2)) .nil))
    exact ⟨c.sh, c.nd, Nat.le_trans c.dp (by decide), c.lv, Nat.le_trans c.wt (by omega)⟩
def LtS (l : Lt) : Prop := (l.1 = "ask" ∨ l.1 = "leave" ∨ l.1 = "word") ∧ l.2.1.length ≤ 2 ∧ (∀ x ∈ l.2.1, x.natAbs < 10 ^ 90) ∧ ∀ w, l.2.2 = some w → WiP w
theorem small_lt {l : Lt} (h : LtS l) : Small (ltD l) 4900 3 := by
  obtain ⟨a, ns, o⟩ := l
  obtain ⟨h1, h2, h3, h4⟩ := h
  match ns, h2, h3 with
  | [], _, _ =>
    have c := Small.tuple (SmallAll.cons (Small.wd h1) (SmallAll.cons (small_wi h4) .nil))
    exact ⟨c.sh, c.nd, Nat.le_trans c.dp (by decide), c.lv, Nat.le_trans c.wt (by omega)⟩
  | [i], _, h3 =>
    have c := Small.tuple (SmallAll.cons (Small.wd h1) (SmallAll.cons (Small.int (h3 i (by simp))) (SmallAll.cons (small_wi h4) .nil)))
    exact ⟨c.sh, c.nd, Nat.le_trans c.dp (by decide), c.lv, Nat.le_trans c.wt (by omega)⟩
  | [i, j], _, h3 =>
    have c := Small.tuple (SmallAll.cons (Small.wd h1) (SmallAll.cons (Small.int (h3 i (by simp))) (SmallAll.cons (Small.int (h3 j (by simp))) (SmallAll.cons (small_wi h4) .nil))))
    exact ⟨c.sh, c.nd, Nat.le_trans c.dp (by decide), c.lv, Nat.le_trans c.wt (by omega)⟩
def BtS (b : Bt) : Prop := b.1.natAbs < 10 ^ 90 ∧ LtS b.2
theorem small_bt {b : Bt} (h : BtS b) : Small (btD b) 5300 4 := by
  have c := Small.tuple (SmallAll.cons (Small.int h.1) (SmallAll.cons (small_lt h.2) .nil))
  exact ⟨c.sh, c.nd, Nat.le_trans c.dp (by decide), c.lv, Nat.le_trans c.wt (by omega)⟩
theorem small_bts : ∀ {bs : List Bt}, (∀ b ∈ bs, BtS b) → SmallAll (bs.map btD) (5301 * bs.length) 4
  | [], _ => ⟨rfl, rfl, Nat.zero_le _, rfl, Nat.le_refl _⟩
  | b :: bs, h => by
    have c := SmallAll.cons (small_bt (h b List.mem_cons_self)) (small_bts fun y hy => h y (List.mem_cons_of_mem _ hy))
    refine ⟨c.sh, c.nd, c.dp, c.lv, Nat.le_trans c.wt ?_⟩
    rw [List.length_cons]
    omega
/-- what a hand tells of itself is small -/
def HdS (h : Hd) : Prop := (∀ r ∈ h.rows, r.1.natAbs < 10 ^ 60 ∧ r.2.2.natAbs < 10 ^ 60 ∧ r.2.1.1.1 ≤ 12 ∧ r.2.1.2.1 ≤ 12) ∧ ∀ w, h.wish = some w → WiP w
theorem look_some {rows : List (Int × Rl × Int)} {n : Int} {z : Rl × Int} (e : look rows n = some z) : (n, z) ∈ rows := by
  unfold look at e
  cases hf : rows.find? fun r => decide (r.1 = n) with
  | none =>
    rw [hf] at e
    cases e
  | some y =>
    rw [hf] at e
    have h2 := List.find?_some hf
    have h3 : y.1 = n := of_decide_eq_true h2
    have h4 : y.2 = z := Option.some.inj e
    have h5 := List.mem_of_find?_eq_some hf
    rw [← h3, ← h4]
    exact h5
theorem othN_bd {h : Hd} (S : HdS h) (n : Int) : 0 ≤ h.othN n ∧ h.othN n ≤ 12 := by
  unfold Hd.othN
  cases e : look h.rows n with
  | none => exact ⟨Int.le_refl _, show (0 : Int) ≤ 12 by decide⟩
  | some z =>
    obtain ⟨_, _, h3, h4⟩ := S.1 _ (look_some e)
    dsimp only at h3 h4 ⊢
    unfold othT
    split <;> omega
theorem cntN_bd {h : Hd} (S : HdS h) (n : Int) : (h.cntN n).natAbs < 10 ^ 60 := by
  unfold Hd.cntN
  cases e : look h.rows n with
  | none => exact (show (0 : Int).natAbs < 10 ^ 60 by decide)
  | some z =>
    obtain ⟨_, h2, _, _⟩ := S.1 _ (look_some e)
    exact h2
theorem strict_len : ∀ (l : List Int) (lo hi : Int), l.Pairwise (· < ·) → (∀ x ∈ l, lo ≤ x ∧ x ≤ hi) → l = [] ∨ (l.length : Int) ≤ hi - lo + 1
  | [], _, _, _, _ => .inl rfl
  | a :: l, lo, hi, p, b => by
    right
    obtain ⟨p1, p2⟩ := List.pairwise_cons.mp p
    obtain ⟨b1, b2⟩ := b a List.mem_cons_self
    rcases strict_len l (a + 1) hi p2 (fun x hx => ⟨by have := p1 x hx; omega, (b x (List.mem_cons_of_mem _ hx)).2⟩) with h | h
    · rw [h]
      show ((0 + 1 : Nat) : Int) ≤ _
      omega
    · rw [List.length_cons]
      omega
theorem BtL.small {h : Hd} {bs : List Bt} (S : HdS h) (b : BtL h bs) : (∀ x ∈ bs, BtS x) ∧ bs.length ≤ h.rows.length + 13 := by
  obtain ⟨ys, yL, b⟩ := b
  have mem : ∀ n ∈ ys, n.natAbs < 10 ^ 60 := fun n hn => by
    obtain ⟨q, c, e, _⟩ := yL.mem hn
    exact (S.1 _ (look_some e)).1
  have up : ∀ {z : Nat}, z < 10 ^ 60 → z < 10 ^ 90 := fun hz => Nat.lt_trans hz (by decide)
  have asks : ∀ x ∈ h.asks ys, BtS x := fun x hx => by
    obtain ⟨n, hn, rfl⟩ := List.mem_map.mp hx
    have o := othN_bd S n
    refine ⟨up (Nat.lt_of_le_of_lt (show (h.othN n).natAbs ≤ 12 by omega) (by decide)), .inl rfl, Nat.le_refl _, fun y hy => ?_, S.2⟩
    rcases List.mem_cons.mp hy with rfl | hy
    · exact up (mem _ hn)
    · rw [List.mem_singleton.mp hy]
      exact up (cntN_bd S n)
  have la : (h.asks ys).length ≤ h.rows.length := by
    unfold Hd.asks
    rw [List.length_map]
    exact yL.len
  rcases b with ⟨_, rfl⟩ | ⟨_, ss, ts, sL, pw, tm, rfl⟩
  · exact ⟨asks, by omega⟩
  · have tb : ∀ k ∈ ts, 0 ≤ k ∧ k ≤ 12 := fun k hk => by
      obtain ⟨n, _, rfl⟩ := List.mem_map.mp ((tm k).mp hk)
      exact othN_bd S n
    refine ⟨fun x hx => ?_, ?_⟩
    · rcases List.mem_append.mp hx with hx | hx
      · exact asks x hx
      · obtain ⟨k, hk, rfl⟩ := List.mem_map.mp hx
        have := tb k hk
        exact ⟨up (Nat.lt_of_le_of_lt (show k.natAbs ≤ 12 by omega) (by decide)), .inr (.inr rfl), Nat.zero_le _, (fun y hy => absurd hy List.not_mem_nil), S.2⟩
    · rw [List.length_append]
      have lw : (h.words ts).length ≤ 13 := by
        unfold Hd.words
        rw [List.length_map]
        rcases strict_len ts 0 12 pw tb with e | e
        · rw [e]; decide
        · omega
      omega
theorem LkL.small {h : Hd} {ys : List Int} (S : HdS h) (b : LkL h ys) : (∀ x ∈ ys, x.natAbs < 10 ^ 90) ∧ ys.length ≤ h.rows.length :=
  ⟨fun n hn => by
    obtain ⟨q, c, e, _⟩ := b.mem hn
    exact Nat.lt_trans (S.1 _ (look_some e)).1 (by decide), b.len⟩
end K61

set_option Elab.async false
set_option linter.all false
set_option maxRecDepth 100000
set_option maxHeartbeats 1000000
/-! Own exceptions with one field: made, raised, caught, read. -/
namespace NB
open PySem PySem.Spec PyProof.Rows L2

/-- what the written part says of an own exception class, named x, with one field f -/
structure ExT (K : PySem.W.Frag) (mg : Str → Option Value) (x f : Str) (C fI : Addr) (fdI : FuncData) : Prop where
  gC : mg x = some (.ref C)
  oex : OexC K C
  noN : PySem.W.findIn K (.ref C) f = some none
  iC : PySem.W.findIn K (.ref C) "__init__" = some (some (.ref fI))
  tI : PySem.W.typeIn K (.ref fI) = some (.type "function")
  xf : XfC K C
  te : PySem.W.exmOne K (.ref C) (.ref C) = some true
  bI : Binds K fdI ["self", f] []
/-- an error of the class at S is what «except S» names -/
theorem exm_self {K : PySem.W.Frag} {S : Addr} (h1 : PySem.W.subIn K (.ref S) (.type "BaseException") = some true) (h2 : PySem.W.isClsIn K S = true) (h3 : PySem.W.typeIn K (.ref S) = some (.type "type")) (h4 : PySem.W.subIn K (.ref S) (.ref S) = some true) :
    PySem.W.exmOne K (.ref S) (.ref S) = some true := by
  have e1 : (PySem.W.subIn K (.ref S) (.type "BaseException") == some true) = true := by rw [h1] <;> rfl
  have e2 : ((PySem.W.clsIn K S).isSome && PySem.W.typeIn K (.ref S) == some (.type "type")) = true := by
    have h2' : (PySem.W.clsIn K S).isSome = true := h2
    rw [h2', h3] <;> rfl
  show (if (PySem.W.subIn K (.ref S) (.type "BaseException") == some true) = true then (if ((PySem.W.clsIn K S).isSome && PySem.W.typeIn K (.ref S) == some (.type "type")) = true then PySem.W.subIn K (.ref S) (.ref S) else none) else none) = some true
  rw [if_pos e1, if_pos e2]
  exact h4
/-- __init__(self, f): self.f = f -/
def spXI (C : Addr) (f : Str) : Sp := fun vs H Q _ => ∃ (a : Addr) (v : V), vs = [.ref a, v] ∧ H a = some (exo a C none) ∧ ∀ dx, H dx = none → dx ≠ a → Q .non (upd (upd H dx (exd dx [(f, v)])) a (exo a C (some dx)))
section
variable {P : Program} {w : World} {K : PySem.W.Frag} {mg : Str → Option Value} {base : Heap}
theorem heap_x {H : Hp} {a d : Addr} {o1 o2 o3 x : HO} (na : H a = none) (ne : d ≠ a) : upd (del (upd (upd (upd H a o1) d o2) a o3) a) d x = upd H d x := by
  funext b
  by_cases c : b = d
  · subst c
    rw [upd_same, upd_same]
  · rw [upd_ne c, upd_ne c]
    by_cases c2 : b = a
    · subst c2
      rw [del_same, na]
    · rw [del_ne c2, upd_ne c2, upd_ne c, upd_ne c2]
/-- what making one asks, behind its argument -/
theorem mkX {C : Addr} {f : Str} {v : V} {H : Hp} {Q : XK} (h : ∀ d, H d = none → Q (.ref C) (some d) (upd H d (.xd [(f, v)]))) :
    [v].length ≤ 1000 ∧ ∀ a, H a = none → spXI C f (.ref a :: ([v] ++ [])) (upd H a (exo a C none))
      (fun u H2 => u = .non ∧ ∃ (d : Addr) (fs : List (Str × V)), H2 a = some (exo a C (some d)) ∧ H2 d = some (exd d fs) ∧ H d = none ∧ Q (.ref C) (some d) (upd (del H2 a) d (.xd fs))) (fun _ _ _ => False) := by
  refine ⟨(show 1 ≤ 1000 by decide), fun a na => ⟨a, v, rfl, upd_same, fun dx ndx ne => ⟨rfl, dx, [(f, v)], upd_same, (upd_ne ne).trans upd_same, ?_, ?_⟩⟩⟩
  · rw [upd_ne ne] at ndx
    exact ndx
  · rw [heap_x na ne]
    refine h dx ?_
    rw [upd_ne ne] at ndx
    exact ndx
theorem pmk_x {X : Cx} {x f : Str} {C fI : Addr} {fdI : FuncData} {j : Nat} {e : Expr} {es : List Expr} {ta : TA} {p pos : Pos} (T : ExT X.K X.mg x f C fI fdI) (G : FnOk X.prog X.w X.K X.mg X.base CX0 1 fI fdI ["self", f] (spXI C f)) (hr : Room j X.A) (hj : 2 ≤ j) (ha : PA X (e :: es) ta) (hg : Gl X x := by rfl)
    (hdb : (x == ("__debug__" : Str)) = false := by decide) (he : starEach (e :: es) X.env = (false, eval e X.env) :: starEach es X.env := by rfl) (hpl : (backTo pos (starEach es X.env)).any (·.1) = false := by rfl) :
    PMk X (.Call (.Name x p) (e :: es) [] pos) (tMkO C (spXI C f) [] ta) := pmk_oex T.oex T.iC T.tI G (hr.mono hj) T.bI .nil pass0 hg T.gC ha hdb he hpl
/-- a def that raises nothing where its promise is so -/
theorem FnOk.noX {k : Nat} {f : Addr} {fd : FuncData} {ps : List Str} {sp sp' : Sp} (F : FnOk P w K mg base (L2.CX P w) k f fd ps sp) (h : ∀ vs H Q E, sp' vs H Q E → sp vs H Q E0) : FnOk P w K mg base CX0 k f fd ps sp' := by
  refine ⟨fun vs H Q E q => F.len vs H Q E0 (h _ _ _ _ q), fun A outer s H args us vs Q E hr he hb hv hs => codeAny_mono (F.run A outer s H args us vs Q E0 hr he hb hv (h _ _ _ _ hs)) ?_⟩
  intro r s' z
  cases r with
  | error e =>
    obtain ⟨_, _, _, _, _, _, _, _, _, _, _, _, z⟩ := (z : L2.CX P w outer H s E0 e s')
    exact z.elim
  | ok fl => cases fl <;> exact z
end
/-- a def that may raise, known by its promise -/
structure KnX (P : Program) (w : World) (K : PySem.W.Frag) (mg : Str → Option Value) (base : Heap) (k : Nat) (x : Str) (ps : List Str) (sp : Sp) (f : Addr) (fd : FuncData) : Prop where
  ok : FnOk P w K mg base (L2.CX P w) k f fd ps sp
  gl : mg x = some (.ref f)
  kp : PySem.W.keepIn K (.ref f) = true
  bi : Binds K fd ps []
section
variable {X : Cx} {k j : Nat} {x : Str} {ps : List Str} {sp : Sp} {f : Addr} {fd : FuncData} {p pos : Pos} {e : Expr} {es : List Expr} {t : TA} {W : WX} {E : XK}
/-- where it raises nothing -/
theorem pe_knX (C : KnX X.prog X.w X.K X.mg X.base k x ps sp f fd) (hr : Room j X.A) (hj : k ≤ j) (ha : PA X (e :: es) t) (hg : Gl X x := by rfl) (hdb : (x == ("__debug__" : Str)) = false := by decide)
    (he : starEach (e :: es) X.env = (false, eval e X.env) :: starEach es X.env := by rfl) (hpl : (backTo pos (starEach es X.env)).any (·.1) = false := by rfl) :
    PE X (.Call (.Name x p) (e :: es) [] pos) (tCall sp [] E0 t) := pe_call C.ok (hr.mono hj) hg C.gl C.kp C.bi .nil passL ha hdb he hpl
/-- within a try -/
theorem pe_knS (C : KnX X.prog X.w X.K X.mg X.base k x ps sp f fd) (hr : Room j X.A) (hj : k ≤ j) (tk : Takes X W) (ha : PA X (e :: es) t) (hg : Gl X x := by rfl) (hdb : (x == ("__debug__" : Str)) = false := by decide)
    (he : starEach (e :: es) X.env = (false, eval e X.env) :: starEach es X.env := by rfl) (hpl : (backTo pos (starEach es X.env)).any (·.1) = false := by rfl) :
    PE X (.Call (.Name x p) (e :: es) [] pos) (tCallS sp (WE W) t) := pe_callS C.ok (hr.mono hj) hg C.gl C.kp C.bi (fun σ => passAt tk σ) ha hdb he hpl
/-- where what it raises goes on -/
theorem pe_knP (C : KnX X.prog X.w X.K X.mg X.base k x ps sp f fd) (hr : Room j X.A) (hj : k ≤ j) (tk : Takes X (fun cls d _ H => E cls d H)) (ha : PA X (e :: es) t) (hg : Gl X x := by rfl) (hdb : (x == ("__debug__" : Str)) = false := by decide)
    (he : starEach (e :: es) X.env = (false, eval e X.env) :: starEach es X.env := by rfl) (hpl : (backTo pos (starEach es X.env)).any (·.1) = false := by rfl) :
    PE X (.Call (.Name x p) (e :: es) [] pos) (tCall sp [] E t) := pe_call C.ok (hr.mono hj) hg C.gl C.kp C.bi .nil (passes_call tk (fun _ _ _ _ h => h)) ha hdb he hpl
end
end NB

set_option Elab.async false
set_option linter.all false
set_option maxRecDepth 100000
set_option maxHeartbeats 1000000
/-! Methods of own classes that may raise. -/
namespace NB
open PySem PySem.Spec PyProof.Rows L2
structure MetX (P : Program) (w : World) (K : PySem.W.Frag) (mg : Str → Option Value) (base : Heap) (k : Nat) (C : Addr) (m : Str) (sp : Sp) : Prop where
  ex : ∃ (f : Addr) (fd : FuncData) (ps : List Str), Cls K C ∧ Meth K C m f ∧ FnOk P w K mg base (L2.CX P w) k f fd ps sp ∧ Binds K fd ps []
/-- a method that raises nothing where its promise is so -/
theorem MetX.no {P : Program} {w : World} {K : PySem.W.Frag} {mg : Str → Option Value} {base : Heap} {k : Nat} {C : Addr} {m : Str} {sp sp' : Sp} (c : MetX P w K mg base k C m sp) (h : ∀ vs H Q E, sp' vs H Q E → sp vs H Q E0) : C8.Met P w K mg base k C m sp' [] := by
  obtain ⟨f, fd, ps, hc, hm, F, b⟩ := c.ex
  exact ⟨f, fd, ps, [], hc, hm, NB.FnOk.noX F h, b, .nil⟩
section
variable {X : Cx} {k j : Nat} {C : Addr} {m : Str} {sp : Sp} {pos apos : Pos} {o e : Expr} {es : List Expr} {ta : TE} {t : TA} {E : XK}
/-- where what it raises goes on -/
theorem pe_mtP {pl : Sem Bool} (c : MetX X.prog X.w X.K X.mg X.base k C m sp) (hr : Room j X.A) (hk : k ≤ j) (tk : Takes X (fun cls d _ H => E cls d H)) (he : PE X o ta) (ha : PA X (e :: es) t)
    (hst : starEach (e :: es) X.env = (false, eval e X.env) :: starEach es X.env := by rfl) (hpl : (backTo pos (starEach es X.env)).any (·.1) = false := by rfl)
    (ht : eval (.Call (.Attribute o m apos) (e :: es) [] pos) X.env = (do
      let ov ← eval o X.env
      standAt apos.atName
      let (f, first) ← holding [ov] (getMethod ov m pl)
      callWith pos f first (backTo pos (starEach (e :: es) X.env)) (backToKw pos (keywordEach [] X.env))) := by rfl) :
    PE X (.Call (.Attribute o m apos) (e :: es) [] pos) (tMeth C m sp [] E ta t) := by
  obtain ⟨f, fd, ps, hc, hm, F, b⟩ := c.ex
  exact pe_meth (pl := pl) he hc hm F (hr.mono hk) b .nil (passes_call tk (fun _ _ _ _ h => h)) ha hst hpl ht
end
end NB

set_option Elab.async false
set_option linter.all false
set_option maxRecDepth 100000
namespace K61
open PySem PySem.Spec PyProof.Rows L2 NB

/-! ### a hand's refusals, of anything -/
theorem iteTr {c : Bool} {A B : Prop} (e : c = true) (h : A) : if c = true then A else B := by rw [e]; exact h
/-- whether anything is the number of a rule that it shares -/
def shD (h : Hd) : PyData → Bool
  | .int i => h.shares i
  | _ => false
/-- whether anything is the number of a rule that it has -/
def inD (h : Hd) : PyData → Bool
  | .int i => (look h.rows i).isSome
  | _ => false
theorem int_or (d : PyData) : (∃ i, d = .int i) ∨ (wholeD d = false ∧ ∀ h, shD h d = false ∧ inD h d = false) := by
  cases d with
  | int i => exact .inl ⟨i, rfl⟩
  | _ => exact .inr ⟨rfl, fun h => ⟨rfl, rfl⟩⟩
def spSharesD (C : Addr) : Sp := fun vs H Q _ => ∃ (x D T : Addr) (h : Hd) (n : Addr) (v : V) (d : PyData), vs = [.ref x, v] ∧ HandAt C H x D T h ∧ Da n H v d ∧ ∀ H', Same H H' → Q (.bl (shD h d)) H'
def spCountR (C CR : Addr) : Sp := fun vs H _ E => ∃ (x D T : Addr) (h : Hd) (n : Addr) (v : V) (d : PyData), vs = [.ref x, v] ∧ HandAt C H x D T h ∧ Da n H v d ∧ shD h d = false ∧ ∀ H' e, Same H H' → H e = none → H' e = some (.xd [("thing", v)]) → E (.ref CR) (some e) H'
def spDropR (C CR : Addr) : Sp := fun vs H _ E => ∃ (x D T : Addr) (h : Hd) (n : Addr) (v : V) (d : PyData), vs = [.ref x, v] ∧ HandAt C H x D T h ∧ Da n H v d ∧ inD h d = false ∧ ∀ H' e, Same H H' → H e = none → H' e = some (.xd [("thing", v)]) → E (.ref CR) (some e) H'
def spPutR (C CR : Addr) : Sp := fun vs H _ E => ∃ (x D T : Addr) (h : Hd) (i : Int) (v c : V), vs = [.ref x, .int i, v, c] ∧ HandAt C H x D T h ∧ (look h.rows i).isSome = true ∧ ∀ H' e, Same H H' → H e = none → H' e = some (.xd [("thing", .int i)]) → E (.ref CR) (some e) H'
def spHearR (C CL : Addr) : Sp := fun vs H _ E => ∃ (x D T : Addr) (h : Hd) (n : Addr) (v : V) (d : PyData), vs = [.ref x, v] ∧ HandAt C H x D T h ∧ Da n H v d ∧ (letterD d = false ∨ ∃ a l w, v = .ref a ∧ d = ltD l ∧ LetAt H a l ∧ LetP l ∧ l.2.2 = some w ∧ w.2.length ≤ h.thing) ∧ ∀ H' e, Same H H' → H e = none → H' e = some (.xd [("thing", v)]) → E (.ref CL) (some e) H'
section
variable {P : Program} {w : World} {K : PySem.W.Frag} {mg : Str → Option Value} {base : Heap}
set_option maxHeartbeats 8000000 in
theorem ok_Hand_shares_R {f fWh fIs : Addr} {fd fdWh fdIs : FuncData} {k : Nat} {C : Addr} (F : Fun K "shares" "Hand.shares" a_Hand_shares f fd) (Wh : Kn P w K mg base 1 "is_whole" ["thing"] (spLook wholeD) fWh fdWh) (Is : Kn P w K mg base 1 "is_shared" ["rule"] spShrd fIs fdIs) (X : HandTxt K C)  : FnOk P w K mg base (L2.CX P w) (k + 3) f fd ["self", "number"] (spSharesD C) := by
  refine F.okX sc_Hand_shares (fun vs H Q E h => ?_) (fun cdv A outer s H vs Q E hr h => ?_)
  · obtain ⟨x, D, T, h, n, v', dd, rfl, _⟩ := h
    rfl
  · obtain ⟨x, D, T, h, n, v', dd, rfl, ha, hd, q⟩ := h
    refine ⟨_, (pss_one (ps_ret (pe_and (pe_kn Wh hr (by omega) (pa_cons (pv 1) pa_nil)) (pe_and (pe_cmp (pc_din (hu_of hr) (pv 1) (pe_fld (pv 0) rfl))) (pe_one (pe_kn Is hr (by omega) (pa_cons (pe_dget (hu_of hr) (pe_fld (pv 0) rfl) (pv 1) (fun _ _ => rfl)) pa_nil))))))), ?_⟩
    obtain ⟨dx, v, hs, e, w1, d, t, l⟩ := ha
    have e' : H x = some (.ins C dx [("thing", .int (h.thing : Int)), ("place", .int h.place), ("wish", v), ("held", .ref D), ("tally", .ref T)]) := e
    rcases int_or dd with ⟨i, rfl⟩ | ⟨nw, ni⟩
    · cases hd
      refine ⟨_, rfl, 0, .int i, _, rfl, .int i, fun H1 s1 => ⟨true, rfl, iteT ?_⟩⟩
      have e1 := s1 _ _ e'
      have d1 := rs s1 d
      have l1 := l.keep (.same s1)
      have q1 : Q (.bl (h.shares i)) H1 := q H1 s1
      unfold Hd.shares at q1
      refine ⟨_, rfl, .ref x, rfl, x, C, dx, _, _, rfl, e1, X.cl, X.n4, lk4, D, valV (kvH hs) (.inl i), rfl, DGr (k := .inl i) d1, _, rfl, ?_⟩
      rcases valH i l1 with ⟨a1, a2⟩ | ⟨q', c, a, a1, a2, a3⟩
      · rw [a1] at q1
        rw [a2]
        exact iteF q1
      · rw [a1] at q1
        rw [a2]
        exact iteT ⟨.ref x, rfl, x, C, dx, _, _, rfl, e1, X.cl, X.n4, lk4, _, rfl, D, .ref a, rfl, a2 ▸ DGr (k := .inl i) d1, a, q', rfl, a3, q1⟩
    · refine ⟨_, rfl, n, v', dd, rfl, hd, fun H1 s1 => ⟨false, congrArg V.bl nw, iteF ?_⟩⟩
      have q1 := q H1 s1
      rw [(ni h).1] at q1
      exact q1
set_option maxHeartbeats 8000000 in
theorem ok_Hand_count_of_R {f  : Addr} {fd  : FuncData} {k : Nat} {C CR fR : Addr} {fdR : FuncData} (F : Fun K "count_of" "Hand.count_of" a_Hand_count_of f fd) (Sh : MetX P w K mg base 3 C "shares" (spSharesD C)) (X : HandTxt K C) (TR : ExT K mg "NoRule" "thing" CR fR fdR) (GR : FnOk P w K mg base CX0 1 fR fdR ["self", "thing"] (spXI CR "thing"))  : FnOk P w K mg base (L2.CX P w) (k + 4) f fd ["self", "number"] (spCountR C CR) := by
  refine F.okX sc_Hand_count_of (fun vs H Q E h => ?_) (fun cdv A outer s H vs Q E hr h => ?_)
  · obtain ⟨x, D, T, h, n, v', dd, rfl, _⟩ := h
    rfl
  · obtain ⟨x, D, T, h, n, v', dd, rfl, ha, hd, no, qE⟩ := h
    refine ⟨_, (pss_cons (ps_if (pt_not (pt_val (pe_mtP Sh hr (by omega) (takes_of rfl rfl rfl rfl) (pv 0) (pa_cons (pv 1) pa_nil)))) (pss_one (ps_raise rfl (takes_of rfl rfl rfl rfl) (pmk_x TR GR hr (by omega) (pa_cons (pv 1) pa_nil)))) pss_nil)
      (pss_one (ps_ret (pe_dget (hu_of hr) (pe_fld (pv 0) rfl) (pv 1) (fun _ _ => rfl))))), ?_⟩
    have ha0 := ha
    obtain ⟨dx, v, hs, e, w1, d, t, l⟩ := ha
    refine ⟨.ref x, rfl, x, dx, _, rfl, e, lkm, v', rfl, x, D, T, h, n, v', dd, rfl, ha0, hd, fun H1 s1 => ⟨false, congrArg V.bl no, iteTr rfl ⟨_, rfl, mkX fun ed nd => ?_⟩⟩⟩
    exact qE _ ed (s1.trans (same_new nd)) (s1.free nd) upd_same
set_option maxHeartbeats 8000000 in
theorem ok_Hand_has_leave_R {f  : Addr} {fd  : FuncData} {k : Nat} {C CR : Addr} (F : Fun K "has_leave" "Hand.has_leave" a_Hand_has_leave f fd) (Hc : MetX P w K mg base 4 C "count_of" (spCountR C CR)) (X : HandTxt K C)  : FnOk P w K mg base (L2.CX P w) (k + 5) f fd ["self", "number"] (spCountR C CR) := by
  refine F.okX sc_Hand_has_leave (fun vs H Q E h => ?_) (fun cdv A outer s H vs Q E hr h => ?_)
  · obtain ⟨x, D, T, h, n, v', dd, rfl, _⟩ := h
    rfl
  · obtain ⟨x, D, T, h, n, v', dd, rfl, ha, hd, no, qE⟩ := h
    refine ⟨_, (pss_cons (ps_set (i := 2) sc_Hand_has_leave.nd rfl (.inl rfl) (pe_cmpR op_eq (pe_op op_mod (pe_mtP Hc hr (by omega) (takes_of rfl rfl rfl rfl) (pv 0) (pa_cons (pv 1) pa_nil)) pe_int) pe_int (nomark _)))
      (pss_one (ps_ret (pe_cmpR op_eq (pv 2) (pe_cmpR op_eq (pe_ix ix_tup (pe_ix ix_tup (pe_dget (hu_of hr) (pe_fld (pv 0) rfl) (pv 1) (fun _ _ => rfl)) pe_int (fun _ _ => rfl)) pe_int (fun _ _ => rfl)) (pe_fld (pv 0) rfl) (nomark _)) (nomark _))))), ?_⟩
    have ha0 := ha
    obtain ⟨dx, v, hs, e, w1, d, t, l⟩ := ha
    exact ⟨.ref x, rfl, x, dx, _, rfl, e, lkm, v', rfl, x, D, T, h, n, v', dd, rfl, ha0, hd, no, qE⟩
set_option maxHeartbeats 8000000 in
theorem ok_Hand_drop_R {f fWh : Addr} {fd fdWh : FuncData} {k : Nat} {C CR fR : Addr} {fdR : FuncData} (F : Fun K "drop" "Hand.drop" a_Hand_drop f fd) (Wh : Kn P w K mg base 1 "is_whole" ["thing"] (spLook wholeD) fWh fdWh) (X : HandTxt K C) (TR : ExT K mg "NoRule" "thing" CR fR fdR) (GR : FnOk P w K mg base CX0 1 fR fdR ["self", "thing"] (spXI CR "thing"))  : FnOk P w K mg base (L2.CX P w) (k + 3) f fd ["self", "number"] (spDropR C CR) := by
  refine F.okX sc_Hand_drop (fun vs H Q E h => ?_) (fun cdv A outer s H vs Q E hr h => ?_)
  · obtain ⟨x, D, T, h, n, v', dd, rfl, _⟩ := h
    rfl
  · obtain ⟨x, D, T, h, n, v', dd, rfl, ha, hd, no, qE⟩ := h
    refine ⟨_, (pss_cons (ps_if (PW.pt (pw_or (pt_not (pt_val (pe_kn Wh hr (by omega) (pa_cons (pv 1) pa_nil)))) (pw_or1 (pt_cmp (pc_dnotin (hu_of hr) (pv 1) (pe_fld (pv 0) rfl)))))) (pss_one (ps_raise rfl (takes_of rfl rfl rfl rfl) (pmk_x TR GR hr (by omega) (pa_cons (pv 1) pa_nil)))) pss_nil)
      (pss_cons (ps_ddel (pe_fld (pv 0) rfl) (pv 1))
      (pss_one (ps_ddel (pe_fld (pv 0) rfl) (pv 1))))), ?_⟩
    obtain ⟨dx, v, hs, e, w1, d, t, l⟩ := ha
    have e' : H x = some (.ins C dx [("thing", .int (h.thing : Int)), ("place", .int h.place), ("wish", v), ("held", .ref D), ("tally", .ref T)]) := e
    rcases int_or dd with ⟨i, rfl⟩ | ⟨nw, ni⟩
    · cases hd
      refine ⟨_, rfl, 0, .int i, _, rfl, .int i, fun H1 s1 => ⟨true, rfl, iteF ?_⟩⟩
      have e1 := s1 _ _ e'
      have d1 := rs s1 d
      have l1 := l.keep (.same s1)
      refine ⟨_, rfl, .ref x, rfl, x, C, dx, _, _, rfl, e1, X.cl, X.n4, lk4, D, valV (kvH hs) (.inl i), rfl, DGr (k := .inl i) d1, _, rfl, ?_⟩
      rcases valH i l1 with ⟨a1, a2⟩ | ⟨q', c, a, a1, a2, a3⟩
      · rw [a2]
        exact iteTr rfl ⟨_, rfl, mkX fun ed nd => qE _ ed (s1.trans (same_new nd)) (s1.free nd) upd_same⟩
      · have no : (look h.rows i).isSome = false := no
        rw [a1] at no
        cases no
    · exact ⟨_, rfl, n, v', dd, rfl, hd, fun H1 s1 => ⟨false, congrArg V.bl nw, iteTr rfl ⟨_, rfl, mkX fun ed nd => qE _ ed (s1.trans (same_new nd)) (s1.free nd) upd_same⟩⟩⟩
set_option maxHeartbeats 8000000 in
theorem ok_Hand_put_R {f fWh : Addr} {fd fdWh : FuncData} {k : Nat} {C CR fR : Addr} {fdR : FuncData} (F : Fun K "put" "Hand.put" a_Hand_put f fd) (Wh : Kn P w K mg base 1 "is_whole" ["thing"] (spLook wholeD) fWh fdWh) (X : HandTxt K C) (TR : ExT K mg "NoRule" "thing" CR fR fdR) (GR : FnOk P w K mg base CX0 1 fR fdR ["self", "thing"] (spXI CR "thing"))  : FnOk P w K mg base (L2.CX P w) (k + 3) f fd ["self", "number", "rule", "count"] (spPutR C CR) := by
  refine F.okX sc_Hand_put (fun vs H Q E h => ?_) (fun cdv A outer s H vs Q E hr h => ?_)
  · obtain ⟨x, D, T, h, i, v', c, rfl, _⟩ := h
    rfl
  · obtain ⟨x, D, T, h, i, v', c, rfl, ha, yes, qE⟩ := h
    refine ⟨_, (pss_cons (ps_if (PW.pt (pw_or (pt_not (pt_val (pe_kn Wh hr (by omega) (pa_cons (pv 1) pa_nil)))) (pw_or1 (pt_cmp (pc_din (hu_of hr) (pv 1) (pe_fld (pv 0) rfl)))))) (pss_one (ps_raise rfl (takes_of rfl rfl rfl rfl) (pmk_x TR GR hr (by omega) (pa_cons (pv 1) pa_nil)))) pss_nil)
      (pss_cons (ps_asg (pv 2) (pg_sub (pe_fld (pv 0) rfl) (pv 1) (set_dict (hu_of hr))))
      (pss_one (ps_asg (pv 3) (pg_sub (pe_fld (pv 0) rfl) (pv 1) (set_dict (hu_of hr))))))), ?_⟩
    obtain ⟨dx, v, hs, e, w1, d, t, l⟩ := ha
    have e' : H x = some (.ins C dx [("thing", .int (h.thing : Int)), ("place", .int h.place), ("wish", v), ("held", .ref D), ("tally", .ref T)]) := e
    refine ⟨_, rfl, 0, .int i, _, rfl, .int i, fun H1 s1 => ⟨true, rfl, iteF ?_⟩⟩
    have e1 := s1 _ _ e'
    have d1 := rs s1 d
    have l1 := l.keep (.same s1)
    refine ⟨_, rfl, .ref x, rfl, x, C, dx, _, _, rfl, e1, X.cl, X.n4, lk4, D, valV (kvH hs) (.inl i), rfl, DGr (k := .inl i) d1, _, rfl, ?_⟩
    rcases valH i l1 with ⟨a1, a2⟩ | ⟨q', c', a, a1, a2, a3⟩
    · rw [a1] at yes
      cases yes
    · rw [a2]
      exact iteTr rfl ⟨_, rfl, mkX fun ed nd => qE _ ed (s1.trans (same_new nd)) (s1.free nd) upd_same⟩
set_option maxHeartbeats 8000000 in
theorem ok_Hand_hear_R {f fIl fWn : Addr} {fd fdIl fdWn : FuncData} {k : Nat} {C CL fL : Addr} {fdL : FuncData} (F : Fun K "hear" "Hand.hear" a_Hand_hear f fd) (Il : Kn P w K mg base 4 "is_letter" ["thing"] (spLook letterD) fIl fdIl) (Hpl : C8.Met P w K mg base 1 C "has_place" (spHasPl C) []) (Wn : Kn P w K mg base 1 "wish_number" ["wish"] spWishN fWn fdWn) (Sh : C8.Met P w K mg base 3 C "shares" (spShares C) []) (An : C8.Met P w K mg base 6 C "answers" (spAns C) []) (X : HandTxt K C) (TL : ExT K mg "NoLetter" "thing" CL fL fdL) (GL : FnOk P w K mg base CX0 1 fL fdL ["self", "thing"] (spXI CL "thing")) (m_max : mg "max" = none) : FnOk P w K mg base (L2.CX P w) (k + 7) f fd ["self", "letter"] (spHearR C CL) := by
  refine F.okX sc_Hand_hear (fun vs H Q E h => ?_) (fun cdv A outer s H vs Q E hr h => ?_)
  · obtain ⟨x, D, T, h, n, v', dd, rfl, _⟩ := h
    rfl
  · obtain ⟨x, D, T, h, n, v', dd, rfl, ha, hd, no, qE⟩ := h
    refine ⟨_, (pss_cons (ps_if (PW.pt (pw_or (pt_not (pt_val (pe_kn Il hr (by omega) (pa_cons (pv 1) pa_nil)))) (pw_or1 (pt_not (pt_val (C8.pe_mt Hpl hr (by omega) (pv 0) (pa_cons (pe_ix ix_tup (pv 1) (pe_un un_neg pe_int) (fun _ _ => rfl)) pa_nil))))))) (pss_one (ps_raise rfl (takes_of rfl rfl rfl rfl) (pmk_x TL GL hr (by omega) (pa_cons (pv 1) pa_nil)))) pss_nil)
      (pss_cons (ps_set (i := 2) sc_Hand_hear.nd rfl (.inl rfl) (pe_ix ix_tup (pv 1) (pe_un un_neg pe_int) (fun _ _ => rfl)))
      (pss_cons (ps_if (pt_cmpR op_gt (pe_kn Wn hr (by omega) (pa_cons (pv 2) pa_nil)) (pe_kn Wn hr (by omega) (pa_cons (pe_fld (pv 0) rfl) pa_nil)) (nomark _)) (pss_one (ps_fld (pv 0) (pv 2) rfl)) pss_nil)
      (pss_cons (ps_if (PW.pt (pw_or (pt_cmpR op_eq (pe_ix ix_tup (pv 1) pe_int (fun _ _ => rfl)) pe_str (nomark _)) (pw_or1 (pt_not (pt_val (C8.pe_mt Sh hr (by omega) (pv 0) (pa_cons (pe_ix ix_tup (pv 1) pe_int (fun _ _ => rfl)) pa_nil))))))) (pss_one (ps_ret (pe_tup pa_nil))) pss_nil)
      (pss_cons (ps_asg (pe_slice (r := rSlA K) sl_tupA (pv 1) po_none (po_some pe_int)) (pg_tup rfl (pgs_cons (pg_name (i := 3) sc_Hand_hear.nd rfl (.inl rfl)) (pgs_cons (pg_name (i := 4) sc_Hand_hear.nd rfl (.inl rfl)) (pgs_cons (pg_name (i := 5) sc_Hand_hear.nd rfl (.inl rfl)) pgs_nil)))))
      (pss_cons (ps_asg (pe_callB (call_max2 rfl) (by rfl) m_max (by decide +kernel) (pa_cons (pe_dget (hu_of hr) (pe_fld (pv 0) rfl) (pv 4) (fun _ _ => rfl)) (pa_cons (pv 5) pa_nil))) (pg_sub (pe_fld (pv 0) rfl) (pv 4) (set_dict (hu_of hr))))
      (pss_cons (ps_if (PW.pt (pw_or (pt_cmpR op_eq (pv 3) pe_str (nomark _)) (pw_or1 (pt_cmpR op_lt (pe_kn Wn hr (by omega) (pa_cons (pv 2) pa_nil)) (pe_kn Wn hr (by omega) (pa_cons (pe_fld (pv 0) rfl) pa_nil)) (nomark _))))) (pss_one (ps_ret (pe_tup pa_nil))) pss_nil)
      (pss_one (ps_ret (C8.pe_mt An hr (by omega) (pv 0) (pa_cons (pv 4) (pa_cons (pv 5) pa_nil)))))))))))), ?_⟩
    have ha0 := ha
    obtain ⟨dx, v, hs, e, w1, d, t, ld⟩ := ha
    rcases no with no | ⟨a, l, w2, rfl, rfl, hl, lp, ho, few⟩
    · exact ⟨_, rfl, n, v', dd, rfl, hd, fun H1 s1 => ⟨false, congrArg V.bl no, iteTr rfl ⟨_, rfl, mkX fun ed nd => qE _ ed (s1.trans (same_new nd)) (s1.free nd) upd_same⟩⟩⟩
    · obtain ⟨u, eg, wu⟩ := id hl
      refine ⟨_, rfl, n, .ref a, _, rfl, hd, fun H1 s1 => ⟨true, congrArg V.bl (let_isD lp), iteF ?_⟩⟩
      have e1 := s1 _ _ e
      have eg1 := s1 _ _ eg
      have wu1 := wu.tk (tk_same s1)
      have hpt : (match l.2.2 with | none => true | some w => decide (h.thing < w.2.length)) = false := by
        rw [ho]
        exact decide_eq_false (by omega)
      exact ⟨.ref x, rfl, x, dx, _, rfl, e1, lkm, .ref a, rfl, 1, rfl, a, _, -1, u, rfl, rfl, .inl (.inl eg1), at_last (V.str l.1 :: l.2.1.map V.int) u, x, D, T, h, u, l.2.2, rfl, ha0.same s1, wu1, false, congrArg V.bl hpt, iteTr rfl ⟨_, rfl, mkX fun ed nd => qE _ ed (s1.trans (same_new nd)) (s1.free nd) upd_same⟩⟩
end
end K61

set_option Elab.async false
set_option linter.all false
set_option maxRecDepth 100000
set_option maxHeartbeats 2000000
/-! An exception that is kept behind its handler. -/
namespace NB
open PySem PySem.Spec PyProof.Rows L2

/-- an exception that was caught: its class, its dict -/
def xo (a : Addr) (cls : Value) (d : Option Addr) : HO := .ext fun h => ∃ oe vs, h.get? a = some oe ∧ Zc cls d oe ∧ oe.data = .fields vs
theorem xo_ok {P : Program} {w : World} {H : Hp} {h : Heap} {a : Addr} {cls : Value} {d : Option Addr} {oe : Obj} {vs : Array Value} (e : h.get? a = some oe) (z : Zc cls d oe) (f : oe.data = .fields vs) : ObjOk P w H h a (xo a cls d) :=
  ⟨⟨oe, vs, e, z, f⟩, ⟨oe, e⟩, fun _ _ ⟨o1, v1, e1, z1, f1⟩ k => ⟨o1, v1, k _ e1, z1, f1⟩⟩
theorem xo_at {P : Program} {w : World} {H : Hp} {h : Heap} {a : Addr} {cls : Value} {d : Option Addr} (ok : HOk P w H h) (e : H a = some (xo a cls d)) : ∃ oe vs, h.get? a = some oe ∧ Zc cls d oe ∧ oe.data = .fields vs := (ok a _ e).1
section
variable {X : Cx} {pins : List (Addr × Obj)} {σ : L2.St} {H : Hp} {s : Shared}
/-- a thing of the heap that nobody tracks, new to the def, is tracked from here on -/
theorem Inv.adopt (I : Inv X pins σ H s) {a : Addr} {o : HO} (na : H a = none) (n0 : X.s_0.heap.get? a = none) (nL : a ≠ X.env.locals) (nC : ∀ x c, X.env.cells.lookup x = some c → c ≠ a) (nP : ∀ p ∈ X.pn ++ pins, p.1 ≠ a) (ok : ∀ H', ObjOk X.prog X.w H' s.heap a o) :
    Inv X pins σ (upd H a o) s where
  ok := I.ok
  os := I.os
  bare := I.bare
  base :=
    { keep := I.base.keep
      slot := I.base.slot
      free := fun b ob e n hx => by
        rw [upd_ne (fun z => by rw [z, n0] at e; cases e)]
        exact I.base.free b ob e n hx
      there := I.base.there
      tups := fun b xs e => by
        have q := I.base.tups b xs e
        rw [upd_ne (ne_of_none q na)]
        exact q
      frzs := fun b ob u e => by
        have q := I.base.frzs b ob u e
        rw [upd_ne (ne_of_none q na)]
        exact q
      tbls := fun b ps e => by
        obtain ⟨m, q⟩ := I.base.tbls b ps e
        exact ⟨m, by rw [upd_ne (ne_of_none q na)]; exact q⟩ }
  loc := I.loc
  cell := I.cell
  free := by rw [upd_ne nL.symm]; exact I.free
  freeC := fun x c e => by rw [upd_ne (nC x c e)]; exact I.freeC x c e
  pin := fun p hp => by
    obtain ⟨h1, h2, h3⟩ := I.pin p hp
    exact ⟨h1, by rw [upd_ne (nP p hp)]; exact h2, h3⟩
  hok := fun b u e => by
    by_cases hb : b = a
    · subst hb
      rw [upd_same] at e
      cases e
      exact ok _
    · rw [upd_ne hb] at e
      exact (I.hok b u e).stay (fun c v _ q => q) (fun c q => by rw [upd_ne (ne_of_none q na)]; exact q) fun c xs q => by rw [upd_ne (ne_of_none q na)]; exact q
  len := I.len
end
/-- the suite's exception stays pinned behind it -/
theorem unsuite_pin {X : Cx} {pins : List (Addr × Obj)} {σ : L2.St} {H : Hp} {s : Shared} {a : Addr} {oe : Obj} (I : L2.Inv (X.suite a ((a, oe) :: (X.pn ++ pins))) [] σ H s) (ok : X.Ok) : L2.Inv X ((a, oe) :: pins) σ H s :=
  ⟨ok, I.os, I.bare, I.base, I.loc, I.cell, I.free, I.freeC, fun p hp => I.pin p (by
    rw [List.append_nil]
    rcases List.mem_append.mp hp with h | h
    · exact List.mem_cons_of_mem _ (List.mem_append_left _ h)
    · rcases List.mem_cons.mp h with e | h
      · rw [e]
        exact List.mem_cons_self
      · exact List.mem_cons_of_mem _ (List.mem_append_right _ h)), I.hok, I.len⟩
theorem drop_pin {X : Cx} {pins : List (Addr × Obj)} {σ : L2.St} {H : Hp} {s : Shared} {q : Addr × Obj} (I : L2.Inv X (q :: pins) σ H s) : L2.Inv X pins σ H s :=
  ⟨I.ok, I.os, I.bare, I.base, I.loc, I.cell, I.free, I.freeC, fun p hp => I.pin p (by
    rcases List.mem_append.mp hp with h | h
    · exact List.mem_append_left _ h
    · exact List.mem_append_right _ (List.mem_cons_of_mem _ h)), I.hok, I.len⟩
/-- what the clause wishes: as wAs, but behind its suite the exception is known -/
def wKeep (K : PySem.W.Frag) (c : Value) (i : Nat) (ts : Addr → Value → Option Addr → TS) (Wout : WX) (D : Ends) : WX := fun cls d σ H =>
  ∃ b, PySem.W.exmOne K cls c = some b ∧ (b = true → ∀ a, H a = none → ts a cls d { nx := fun σ' H' => H' a = none → D.nx (σ'.set i none) (upd H' a (xo a cls d)), rt := D.rt, bk := fun σ' H' => D.bk (σ'.set i none) H', ct := fun σ' H' => D.ct (σ'.set i none) H' } (σ.set i (some (.ref a))) H) ∧
    (b = false → Wout cls d σ H)
section
variable {X : Cx} {x n : Str} {c : Value} {i : Nat} {body suite : List Stmt} {b₀ : Stmt} {np pos pos' : Pos} {tb : WX → TS} {ts : Addr → Value → Option Addr → TS} {Wout : WX}
theorem ps_try_keep (hs : X.stack = X.env :: X.outer) (hf : X.env.frame = some X.env.locals) (hN : X.N.Nodup) (hi : X.N[i]? = some n) (hln : X.env.kindOf n = some .local) (hc : Names X x c) (hex : X.ex = []) (tk : Takes X Wout)
    (hb : ∀ (W : WX) (pn : List (Addr × Obj)) (xe : Value → Shared → Prop), Takes (X.tr pn xe) W → PassesOwn (model X.prog X.w) X.A X.env xe → PSs (X.tr pn xe) body (tb W))
    (hsu : ∀ (a : Addr) (oe : Obj) (cls : Value) (d : Option Addr) (pn : List (Addr × Obj)), Zc cls d oe → (∃ vs, oe.data = .fields vs) → PSs (X.suite a ((a, oe) :: pn)) (b₀ :: suite) (ts a cls d)) :
    PS X (.Try body [.ExceptHandler (some (.Name x np)) (some n) (b₀ :: suite) pos'] [] [] pos) (fun D σ H => tb (wKeep X.K c i ts Wout D) D σ H) := by
  refine ⟨fun pins s σ H D I h => wpAny_Try_except ?_⟩
  have ok := I.ok
  have hfr : X.A.frames = some (X.env :: X.outer) := by rw [ok.frames, hs]
  have catch_ : ∀ u s', XE (X.tr (X.pn ++ pins) (fun e s₁ => wpAny (model X.prog X.w) X.A (noteFrame e X.env) (fun _ s₂ => wpAny (model X.prog X.w) X.A (setFlight e none) (fun _ s₃ =>
      wpAny (model X.prog X.w) X.A (handleBy e X.env [.ExceptHandler (some (.Name x np)) (some n) (b₀ :: suite) pos']) (SP X pins D) X.xe s₃) X.xe s₂) X.xe s₁)) (wKeep X.K c i ts Wout D) u s' →
      wpAny (model X.prog X.w) X.A (noteFrame u X.env) (fun _ s₂ => wpAny (model X.prog X.w) X.A (setFlight u none) (fun _ s₃ =>
      wpAny (model X.prog X.w) X.A (handleBy u X.env [.ExceptHandler (some (.Name x np)) (some n) (b₀ :: suite) pos']) (SP X pins D) X.xe s₃) X.xe s₂) X.xe s' := by
    rintro u s' ⟨a, B, sI, pins', σ', H', cls, d, rfl, J', nb, up, sky, na, os, ag, b, hb1, hyes, hno⟩
    have J : L2.Inv X pins σ' H' sI := J'.ofTry ok
    have sky' : Sky B (X.env :: X.outer) a (Zc cls d) X.env.locals s'.heap := by rw [← hs]; exact sky
    refine Sky.land Zc.steady hfr hf sky' fun h3 fl3 up3 => ?_
    have J3 : L2.Inv X pins σ' H' { s' with heap := h3 } := J.landed nb fl3.1 (up.trans up3) os ag
    obtain ⟨oe3, vs3, he3, hz3, hd3⟩ := fl3.there
    have nfr : a ∉ frs (X.env :: X.outer) := fun hm => by
      obtain ⟨_, o', e', hnf⟩ := fl3.2.2.1.mem hm
      have e' : h3.get? a = some o' := e'
      rw [he3] at e'
      cases e'
      exact hnf _ hd3
    have nL : a ≠ X.env.locals := fun z => nfr (List.mem_filterMap.mpr ⟨X.env, List.mem_cons_self, by rw [hf, z]⟩)
    have nF : a ∉ X.fs := fun hm => by
      obtain ⟨e, he, q⟩ := List.mem_filterMap.mp hm
      exact nfr (List.mem_filterMap.mpr ⟨e, List.mem_cons_of_mem _ he, q⟩)
    have nI : sI.heap.get? a = none := by
      cases e : sI.heap.get? a with
      | none => rfl
      | some o =>
        have z := nb a o e (by
          show a ∉ frs X.stack
          rw [hs]
          exact nfr)
        rw [fl3.2.1] at z
        cases z
    have n0 : X.s_0.heap.get? a = none := by
      cases e : X.s_0.heap.get? a with
      | none => rfl
      | some o =>
        obtain ⟨o', z⟩ := J.base.there a o e (by rw [hex]; exact List.not_mem_nil)
        rw [nI] at z
        cases z
    have nP : ∀ p ∈ X.pn ++ pins, p.1 ≠ a := fun p hp z => by
      have q := (J.pin p hp).1
      rw [z, nI] at q
      cases q
    have S3 := J3.suite he3 hd3 na nL nF
    refine wpAny_handleBy_cons (codeAny_handlers_test ?_) (by intro q; cases q)
    have LT : PySem.W.Looks (model X.prog X.w) h3 (typeOf (.ref a)) cls := fun A Q E s k q => wpAny_typeOf_ref (k _ _ he3) (by rw [hz3.1]; exact q)
    have LM := PySem.W.exm_one (M := model X.prog X.w) (J3.kIn) LT hb1
    have test : ∀ {Q : Value → Shared → Prop} {E : Value → Shared → Prop}, Q c { s' with heap := h3 } → wpAny (model X.prog X.w) (X.A.mark (some (.ref a))) (eval (.Name x np) X.env) Q E { s' with heap := h3 } := fun {Q E} q => by
      obtain ⟨hg, hdbg, hm | ⟨hm, hv, hnn⟩⟩ := hc
      · exact ld_glob (X := X.suite a ((a, oe3) :: (X.pn ++ pins))) S3 hg hm q hdbg
      · exact ld_blt (X := X.suite a ((a, oe3) :: (X.pn ++ pins))) S3 hg hm hv q hnn hdbg
    refine test (LM.here ?_)
    cases b with
    | true =>
      refine codeAny_handlers_suite_as (HandSPX.lands_againZ fl3 fun h4 fl4 up4 => ?_)
      have J4 : L2.Inv X pins σ' H' { s' with heap := h4 } := J.landed nb fl4.1 ((up.trans up3).trans up4) os ag
      obtain ⟨oe4, vs4, he4, hz4, hd4⟩ := fl4.there
      have S4 := J4.suite he4 hd4 na nL nF
      refine store_ok (X := X.suite a ((a, oe4) :: (X.pn ++ pins))) (v := .ref a) S4 hN hi (.inl hln) rfl (fun s5 S5 => ?_) (.inr hln)
      refine wpAny_mono ((hsu a oe4 cls d (X.pn ++ pins) hz4 ⟨_, hd4⟩).run [] s5 _ H' _ S5 (hyes rfl a na)) (fun f s6 hsp => ?_) (fun _ _ z => False.elim z)
      cases f with
      | next =>
        obtain ⟨σ6, H6, S6, q6⟩ := hsp
        refine gone_ok (unsuite_pin S6 ok) hN hi hln fun s7 J7 => ?_
        obtain ⟨ea, naH, _⟩ := J7.pin (a, oe4) (List.mem_append_right _ List.mem_cons_self)
        refine ⟨_, _, Inv.adopt (drop_pin J7) naH n0 nL (fun y cc e z => ?_) nP (fun _ => xo_ok ea hz4 hd4), q6 naH⟩
        obtain ⟨v, oc, ec, dc⟩ := J7.cell y cc e
        have ea' : s7.heap.get? a = some oe4 := ea
        rw [z, ea'] at ec
        cases ec
        rw [hd4] at dc
        cases dc
      | brk =>
        obtain ⟨σ6, H6, S6, q6⟩ := hsp
        exact gone_ok (S6.unsuite ok) hN hi hln fun s7 J7 => ⟨_, _, J7, q6⟩
      | cont =>
        obtain ⟨σ6, H6, S6, q6⟩ := hsp
        exact gone_ok (S6.unsuite ok) hN hi hln fun s7 J7 => ⟨_, _, J7, q6⟩
      | ret u =>
        obtain ⟨v6, σ6, H6, S6, r6, q6⟩ := hsp
        exact gone_ok (S6.unsuite ok) hN hi hln fun s7 J7 => ⟨_, _, _, J7, r6, q6⟩
    | false =>
      show wpAny _ X.A (handleBy (.ref a) X.env []) _ _ _
      refine wpAny_handleBy_nil ?_
      obtain ⟨k1, k2, k3, oe, vs, T, oT, ts', he, hz, hd, h1, hr⟩ := id fl3
      unfold PySem.passOn
      refine wpAny_bind (wpAny_field he hd h1 ?_)
      rw [if_neg (show ¬ ((Value.ref T == Value.none) = true) from by simp)]
      have fin : wpAny (model X.prog X.w) X.A (setFlight (.ref a) X.env.frame) (fun _ s4 => wpAny (model X.prog X.w) X.A (throw (.ref a) : Sem Flow) (SP X pins D) X.xe s4) X.xe { s' with heap := h3 } := by
        rw [hf]
        exact HandSPX.setFlight_upZ fl3 fun h4 hh4 up4 => wpAny_throw (tk _ _ ⟨a, B, sI, pins, σ', H', cls, d, rfl, J, nb, (up.trans up3).trans up4, .inr (.inr (by rw [hs]; exact hh4)), na, os, ag, hno rfl⟩)
      first
        | exact wpAny_bind (wpAny_pure (wpAny_bind fin))
        | exact wpAny_bind fin
  refine wpAny_mono ((hb (wKeep X.K c i ts Wout D) (X.pn ++ pins) _ catch_ PassesOwn.looking).run [] s σ H D (I.toTry _) h) (fun f s1 hsp => ?_) (fun e s1 he => he)
  cases f with
  | next =>
    obtain ⟨σ', H', J', q⟩ := hsp
    exact wpAny_execs_nil ⟨σ', H', J'.ofTry ok, q⟩
  | brk =>
    obtain ⟨σ', H', J', q⟩ := hsp
    exact ⟨σ', H', J'.ofTry ok, q⟩
  | cont =>
    obtain ⟨σ', H', J', q⟩ := hsp
    exact ⟨σ', H', J'.ofTry ok, q⟩
  | ret u =>
    obtain ⟨v, σ', H', J', r, q⟩ := hsp
    exact ⟨v, σ', H', J'.ofTry ok, r, q⟩
end
end NB

set_option Elab.async false
set_option linter.all false
set_option maxRecDepth 100000
set_option maxHeartbeats 4000000
/-! A kept exception: its field read, isinstance of it. -/
namespace NB
open PySem PySem.Spec PySem.Calls PyProof.Rows
section
variable {K : PySem.W.Frag} {x D : Addr} {ox : Obj} {od : Option Obj}
/-- a data descriptor of the class goes ahead of the instance's own dict -/
theorem find_data {C : Addr} {name : Str} {a g : Value} (hc : (PySem.W.clsIn K C).isSome = true) (ha : PySem.W.findIn K (.ref C) name = some (some a)) (hg : PySem.W.specialIn K a "__get__" = some (some g)) (ht : PySem.W.takesIn K a = some true) : PySem.W.findObj K C od name = some (.bind g a) := by
  obtain ⟨cd, hc⟩ := Option.isSome_iff_exists.mp hc
  unfold PySem.W.findObj
  rw [hc, Option.bind_some, ha, Option.bind_some]
  simp [hg, ht]
/-- e.__class__, e an own exception with or without a dict -/
theorem class_of_exc {prog : Program} {w : World} {A : Around} {E : Value → Shared → Prop} {s : Shared} {Q : Option Value → Shared → Prop} (T : L2.ExcC K D) (X : K.In s.heap) (I : PySem.W.InstAt s.heap x ox D od) (h : Q (some (.ref D)) { s with toks := s.toks + 1 }) :
    wpAny (model prog w) A (getAttr? (.ref x) "__class__") Q E s := by
  have hf : PySem.W.findObj K D od "__class__" = some (.bind (.builtin "getset_descriptor.__get__") (.builtin "object.__class__")) := find_data (by obtain ⟨cd, hc, _⟩ := PySem.W.any_some T.hd; rw [hc]; rfl) T.ha T.hn T.ht
  obtain ⟨hp, g, d, t, os⟩ := s
  have LT := I.type (M := model prog w)
  have LG := PySem.W.looks_findIn (M := model prog w) X T.hg
  have LK := PySem.W.looks_findIn (M := model prog w) X T.hk
  have LF := PySem.W.looks_find (M := model prog w) X I hf
  have sub : PySem.W.Looks (model prog w) hp (isInstance (.ref x) (.type "BaseException")) true := LT.andThen (PySem.W.looks_subIn X T.hs)
  have no2 : (onTheHeap (Value.ref D) && Value.builtin "BaseException.__getattribute__" == Value.builtin "object.__getattribute__") = false := by
    have : (Value.builtin "BaseException.__getattribute__" == Value.builtin "object.__getattribute__") = false := by decide +kernel
    rw [this, Bool.and_false]
  unfold getAttr? getAttrBy? getAttrBy
  refine wpAny_bind (wpAny_mkText (wpAny_bind (wpAny_attempt (wpAny_holding (wpAny_bind (LT.at (wpAny_bind (LG.at ?_))))))))
  show wpAny _ _ (if (onTheHeap (Value.ref D) && Value.builtin "BaseException.__getattribute__" == Value.builtin "object.__getattribute__") = true then _ else _) _ _ _
  rw [no2, if_neg Bool.false_ne_true]
  unfold getAttrByItsOwn hookBefore
  refine wpAny_bind ?_
  rw [if_pos (show onTheHeap (Value.ref D) = true from rfl)]
  refine LK.at (wpAny_bind (wpAny_attempt (wpAny_holding ?_)))
  unfold callGetattribute
  rw [show (false && onTheHeap (Value.builtin "BaseException.__getattribute__")) = false from rfl, if_neg Bool.false_ne_true]
  unfold boundAndCalled
  rw [PySem.F.excAttr_ValueError.ga.bind (.ref x)]
  refine wpAny_bind (wpAny_pure ?_)
  show wpAny _ _ (call (.builtin "BaseException.__getattribute__") [.ref x, .str "__class__" t]) _ _ _
  refine wpAny_call (codeAny_call_builtin PySem.F.excAttr_ValueError.ga.plain PySem.F.entry_bexc_ga ?_)
  refine @PySem.W.check_slot (model prog w) _ _ ⟨hp, g, d, t + 1, os⟩ "BaseException.__getattribute__" "BaseException" "__getattribute__" (.ref x) [.str "__class__" t] [] _ (by decide +kernel) (by decide +kernel) sub (PySem.F.args_bexc_ga (.ref x) (.str "__class__" t)) ?_
  unfold Builtin.«object.__getattribute__»
  refine wpAny_bind (wpAny_of_eq (a := ((Value.ref x : Value), [Value.str "__class__" t])) (by first | rfl | (simp only [slotArgs]; rfl)) ?_)
  refine wpAny_bind (wpAny_pure (wpAny_bind (LT.at (wpAny_bind (LF.at ?_)))))
  show wpAny _ _ (holding [Value.builtin "object.__class__"] (call (.builtin "getset_descriptor.__get__") [.builtin "object.__class__", .ref x, .ref D]) >>= ret) _ _ _
  refine wpAny_bind (wpAny_holding (wpAny_call (PySem.W.class_get (s := ⟨hp, g, d, t + 1, os⟩) (ox := ox) (od := od) X I T.hm ?_)))
  refine wpAny_pure ?_
  show wpAny _ _ (handedOut (.ref D)) _ _ _
  rw [PySem.W.handedOut_of (v := .ref D) rfl]
  first
    | exact wpAny_pure (wpAny_pure h)
    | exact wpAny_pure h
    | exact wpAny_pure (wpAny_bind (wpAny_pure (wpAny_pure h)))
theorem kit_exc (T : L2.ExcC K D) : PySem.W.KitX K (.ref x) (.ref D) (fun h => ∃ ox od, PySem.W.InstAt h x ox D od) where
  ty := fun _ _ _ ⟨_, _, I⟩ => I.type
  it := fun M h X _ => by
    obtain ⟨cdD, hcD, _⟩ := PySem.W.any_some T.hd
    unfold PySem.W.clsIn at hcD
    split at hcD
    · rename_i c' d' cd' sl' ho
      intro A' Q' E' s' k q
      unfold isType loadHead
      exact wpAny_bind (wpAny_loadPart (k _ _ (X _ _ ho)) (wpAny_pure q))
    · cases hcD
  ne := fun h tp dd its n sl X htp => by
    obtain ⟨cdD, hcD, _⟩ := PySem.W.any_some T.hd
    refine Bool.eq_false_iff.mpr fun q => ?_
    have e : D = tp := Value.ref.inj (beq_iff_eq.mp q)
    subst e
    unfold PySem.W.clsIn at hcD
    split at hcD
    · rename_i c' d' cd' sl' ho
      have z := (X _ _ ho).symm.trans htp
      cases z
    · cases hcD
  ca := fun X ⟨_, _, I⟩ k => class_of_exc T X I k
end
open L2
section
variable {X : Cx} {C : Addr}
/-- a kept exception, its dict told -/
def KpAt (H : Hp) (a C : Addr) (fs : List (Str × V)) : Prop := ∃ dd : Addr, H a = some (xo a (.ref C) (some dd)) ∧ H dd = some (.xd fs)
theorem KpAt.same {H H' : Hp} {a C : Addr} {fs : List (Str × V)} (h : KpAt H a C fs) (s : ∀ b o, H b = some o → H' b = some o) : KpAt H' a C fs := by
  obtain ⟨dd, h1, h2⟩ := h
  exact ⟨dd, s _ _ h1, s _ _ h2⟩
theorem KpAt.inst {pins : List (Addr × Obj)} {σ : L2.St} {H : Hp} {s : Shared} {a : Addr} {fs : List (Str × V)} (I : L2.Inv X pins σ H s) (h : KpAt H a C fs) : ∃ oe od, PySem.W.InstAt s.heap a oe C (some od) ∧ ∃ mA : Str → Option Value, (∀ f, RelO (fs.lookup f) (mA f)) ∧ ∀ f, PySem.W.lookIn f od = some (mA f) := by
  obtain ⟨dd, h1, h2⟩ := h
  obtain ⟨oe, vs, ha, hz, hd⟩ := xo_at I.hok h1
  have hx : ObjOk X.prog X.w H s.heap dd (.xd fs) := I.hok dd _ h2
  obtain ⟨mA, hns, hr⟩ := hx
  obtain ⟨od, ho, hl⟩ := lookIn_ns hns
  exact ⟨oe, od, ⟨ha, hz.1, by unfold PySem.W.notCls; rw [hd] <;> rfl, by rw [hz.2]; exact ho⟩, mA, hr, hl⟩
/-- its field read -/
def tKf (C : Addr) (f : Str) (te : TE) : TE := fun σ H Q => te σ H fun x H1 => ∃ (a : Addr) (fs : List (Str × V)) (v : V), x = .ref a ∧ KpAt H1 a C fs ∧ fs.lookup f = some v ∧ Q v H1
theorem pe_kf {e : Expr} {te : TE} {pos : Pos} {n : Str} (T : XfC X.K C) (hno : PySem.W.findIn X.K (.ref C) n = some none) (he : PE X e te) (hb : attributeBase e n X.env (eval e X.env) = eval e X.env := by rfl) :
    PE X (.Attribute e n pos) (tKf C n te) := by
  refine ⟨fun pins s σ H Q I h => ?_⟩
  refine attr_of hb (thn (he.run pins s σ H _ I h) fun u s1 hh => ?_)
  obtain ⟨x, H1, I1, rx, a, fs, v, ex, kp, l, q⟩ := hh
  subst ex
  obtain rfl : u = Value.ref a := rx
  obtain ⟨oe, od, J, mA, hr, hl⟩ := kp.inst I1
  obtain ⟨u, hu, ru⟩ := RelO.some_of (v := v) (o := mA n) (by rw [← l]; exact hr n)
  exact HandSPX.exc_get I1.kIn J T.ga T.gg T.exC (PySem.W.findObj_own T.hdC hno rfl (by rw [hl, hu])) (handed_of ru) ⟨v, H1, I1.tok _, ru, q⟩
/-- isinstance of it, of one class -/
def rIsKp (K : PySem.W.Frag) : List V → Hp → VK → Prop := fun xs H Q => ∃ (a D : Addr) (fs : List (Str × V)) (c : V) (cv : Value) (b : Bool), xs = [.ref a, c] ∧ KpAt H a D fs ∧ ExcC K D ∧ (∀ u, RelV c u → u = cv) ∧ PySem.W.kitOne K (.ref D) cv = some b ∧ Q (.bl b) H
theorem call_isKp : CallR X (.builtin "isinstance") (rIsKp X.K) := by
  intro pins s σ H xs us Q I r h
  obtain ⟨a, D, fs, c, cv, b, rfl, kp, T, hcv, e, q⟩ := h
  cases r with
  | cons rx rr =>
    cases rr with
    | cons rt rr =>
      cases rr
      cases rx
      have ec := hcv _ rt
      subst ec
      obtain ⟨oe, od, J, _⟩ := kp.inst I
      exact PySem.W.kia_one (kit_exc T) I.kIn ⟨oe, some od, J⟩ e (fun z => nomatch z) fun tk => ⟨.bl b, H, I.kept (t' := tk) fun _ _ z => z, rfl, q⟩
end
end NB

set_option Elab.async false
set_option linter.all false
set_option maxRecDepth 100000
set_option maxHeartbeats 1000000
/-! Lambdas without parameters that a law hands to a def of its own. -/
namespace NB
open PySem PySem.Spec PyProof.Rows L2 LamX
/-- as Fun.ok, with the def's own code object in hand -/
theorem okC {P : Program} {w : World} {K : PySem.W.Frag} {mg : Str → Option Value} {base : Heap} {x qual : Str} {st : Stmt} {f : Addr} {fd : FuncData} {N ps : List Str} {k : Nat} {sp : Sp} (F : Fun K x qual st f fd) (S : FnScope N ps (defScope st)) (len : ∀ vs H Q E, sp vs H Q E → vs.length = ps.length)
    (hbody : ∀ (A : Around) (outer : List Env) (s : Shared) (H : Hp) (vs : List V) (Q : VK) (E : XK), Room k (A.deeper (envOfC qual (defScope st) s.heap.objs.size f fd.code)) → sp vs H Q E →
      ∃ t, PSs (cxOf CX0 P w K mg base N qual (defScope st) f fd.code A outer s H E).nox (defBody st) t ∧ t { nx := fun _ H' => Q .non H', rt := Q } (start N vs) H) : FnOk P w K mg base CX0 (k + 1) f fd ps sp := by
  obtain ⟨oc, od, kV, doc, pm, an, cdv, ct, osl, rfl, lk, hcd⟩ := F.ex
  refine fn_of lk hcd S len fun A outer s H vs Q E hr hsp => ?_
  obtain ⟨t, h, q⟩ := hbody A outer s H vs Q E hr hsp
  exact ⟨t, h.nox, q⟩
/-- told, or refused with what it holds in the field f -/
def TCght (CK : Addr) (f : Str) (word : Str) : (XK → Hp → VK → Prop) → Hp → VK → Prop := fun tl H Q =>
  tl (fun cls d H' => cls = .ref CK ∧ ∃ (dd : Addr) (v : V), d = some dd ∧ H' dd = some (.xd [(f, v)]) ∧ ∀ T, H' T = none → Q (.ref T) (upd H' T (.tup [.str word, v]))) H
    (fun v H1 => ∀ T, H1 T = none → Q (.ref T) (upd H1 T (.tup [.str "told", v])))
end NB

set_option Elab.async false
set_option linter.all false
set_option maxRecDepth 100000
set_option maxHeartbeats 1000000
/-! xs == [], xs != [], xs any list -/
namespace NB
open PySem PySem.Sem PySem.Builtin PyProof.Rows L2
variable {X : Cx}
theorem op_eq0L (hu : X.A.units < cLine) : OpR X (compareOp .Eq) (fun x y H Q => ∃ a b xs, x = .ref a ∧ y = .ref b ∧ SqL X.K H a xs ∧ SqL X.K H b [] ∧ Q (.bl xs.isEmpty) H) := by
  intro pins s σ H x y v u Q I rx ry h
  obtain ⟨a, b, xs, rfl, rfl, ha, hb, q⟩ := h
  cases rx
  cases ry
  obtain ⟨i1, r1, p1, _⟩ := I.list ha
  obtain ⟨i2, r2, p2, _⟩ := I.list hb
  cases r2
  cases xs with
  | nil =>
    cases r1
    refine SeqAt.eq_listAt (e := fun _ => true) p1.isList p2.isList rfl hu (fun j h1 h2 => absurd h2 (by simp)) ?_
    exact ⟨.bl true, H, I, rfl, q⟩
  | cons z zs =>
    cases r1
    refine SeqAt.eq_list_lengthsAt p1.isList p2.isList (by simp) hu ?_
    exact ⟨.bl false, H, I, rfl, q⟩
theorem op_ne0L (hu : X.A.units < cLine) : OpR X (compareOp .NotEq) (fun x y H Q => ∃ a b xs, x = .ref a ∧ y = .ref b ∧ SqL X.K H a xs ∧ SqL X.K H b [] ∧ Q (.bl (!xs.isEmpty)) H) := by
  intro pins s σ H x y v u Q I rx ry h
  obtain ⟨a, b, xs, rfl, rfl, ha, hb, q⟩ := h
  cases rx
  cases ry
  obtain ⟨i1, r1, p1, _⟩ := I.list ha
  obtain ⟨i2, r2, p2, _⟩ := I.list hb
  cases r2
  cases xs with
  | nil =>
    cases r1
    refine SeqAt.RcNeAt.lists (e := fun _ => true) p1.isList p2.isList rfl hu (fun j h1 h2 => absurd h2 (by simp)) X.prog X.w X.xe _ ?_
    exact ⟨.bl false, H, I, rfl, q⟩
  | cons z zs =>
    cases r1
    refine SeqAt.RcNeAt.lists_lengths p1.isList p2.isList (by simp) hu X.prog X.w X.xe _ ?_
    exact ⟨.bl true, H, I, rfl, q⟩
end NB

set_option Elab.async false
set_option linter.all false
set_option maxRecDepth 100000
set_option maxHeartbeats 1000000
/-! list.count of truths; [[truths], text] != [[truths], text]. -/
namespace NB
open PySem PySem.Spec PySem.Sem PySem.Builtin PyProof.Rows L2
variable {X : Cx}
def eqb1 (k : Bool) (v : Value) : Bool := match v with
  | .bool n => n == k
  | _ => false
theorem eqb1_count {k : Bool} : ∀ {us : List Value} {ns : List Bool}, Vals (ns.map V.bl) us → us.countP (eqb1 k) = ns.count k
  | _, [], h => by cases h; rfl
  | _, n :: ns, h => by
    cases h with
    | cons r t =>
      cases r
      have ih := eqb1_count (k := k) t
      rw [List.countP_cons, List.count_cons, ih] <;> rfl
theorem eqb1_gives {A : Around} {s : Shared} {k : Bool} : ∀ {us : List Value} {ns : List Bool}, Vals (ns.map V.bl) us → ∀ y ∈ us, SeqAt.EqAt A s y (.bool k) (eqb1 k y)
  | _, [], h => fun y hy => by cases h; cases hy
  | _, n :: ns, h => fun y hy => by
    cases h with
    | cons r t =>
      cases r
      rcases List.mem_cons.mp hy with e | e
      · rw [e]
        exact SeqAt.EqAt.bool_bool n k
      · exact eqb1_gives t y e
def rCntB (K : PySem.W.Frag) : V → List V → Hp → VK → Prop := fun x xs H Q => ∃ (p : Addr) (ns : List Bool) (k : Bool), x = .ref p ∧ xs = [.bl k] ∧ SqL K H p (ns.map V.bl) ∧ Q (.int (ns.count k : Nat)) H
theorem mt_lcountB : MtR X "list.count" (rCntB X.K) := by
  intro pins s σ H x xs v us Q I rx rxs h
  obtain ⟨p, ns, k, rfl, rfl, hs, q⟩ := h
  cases rx
  obtain ⟨u, rfl, ru⟩ := rxs.one
  cases ru
  obtain ⟨its, rv, ⟨⟨cls, dd, data, sl⟩, n, ho, hc, hdn, hd⟩, hlen⟩ := I.list hs
  simp only at hc hd
  subst hc hd
  refine call_meets PySem.F.slot_list_count ⟨_, ho, rfl⟩ PySem.F.entry_list_count (PySem.F.args_list_count_2 _ _)
    (SeqAt.list_countAt p its.toArray n dd sl (.bool k) (eqb1 k)) ⟨ho, fun y hy => eqb1_gives rv y (by simpa using hy), ?_⟩
  have ec : its.toArray.toList.countP (eqb1 k) = ns.count k := eqb1_count rv
  refine ⟨.int (ns.count k : Nat), H, I.tok _, ⟨s.toks, ?_⟩, q⟩
  show Value.int ((its.toArray.toList.countP (eqb1 k) : Nat) : Int) s.toks = Value.int ((ns.count k : Nat) : Int) s.toks
  rw [ec]
theorem bools_at : ∀ {ns : List Bool} {us : List Value}, Vals (ns.map V.bl) us → us = ns.map Value.bool
  | [], _, h => by cases h; rfl
  | n :: ns, _, h => by
    cases h with
    | cons r t =>
      cases r
      rw [bools_at t]
      rfl
theorem op_neLS (hu : X.A.units + 64 < cLine) : OpR X (compareOp .NotEq) (fun x y H Q => ∃ (a b c d : Addr) (bs : List Bool) (t : Str), x = .ref a ∧ y = .ref b ∧ SqL X.K H a [.ref c, .str t] ∧ SqL X.K H b [.ref d, .str t] ∧ SqL X.K H c (bs.map V.bl) ∧ SqL X.K H d (bs.map V.bl) ∧ c ≠ d ∧ Q (.bl false) H) := by
  intro pins s σ H x y v u Q I rx ry h
  obtain ⟨a, b, c, d, bs, t, rfl, rfl, ha, hb, hc, hd, ncd, q⟩ := h
  cases rx
  cases ry
  obtain ⟨i1, r1, p1, _⟩ := I.list ha
  obtain ⟨i2, r2, p2, _⟩ := I.list hb
  obtain ⟨i3, r3, p3, _⟩ := I.list hc
  obtain ⟨i4, r4, p4, _⟩ := I.list hd
  cases r1 with
  | cons x1 r1 =>
  cases r1 with
  | cons x2 r1 =>
  cases r1
  cases r2 with
  | cons y1 r2 =>
  cases r2 with
  | cons y2 r2 =>
  cases r2
  cases x1
  cases y1
  obtain ⟨t1, rfl⟩ := x2
  obtain ⟨t2, rfl⟩ := y2
  have e3 := bools_at r3
  have e4 := bools_at r4
  subst e3
  subst e4
  refine SeqAt.RcNeAt.lists (e := fun _ => true) p1.isList p2.isList rfl (by omega) (fun j h1 h2 => ?_) X.prog X.w X.xe _ ?_
  · match j, h1, h2 with
    | 0, _, _ =>
      refine SeqAt.EqAt.of_refs ncd ?_
      have := SeqAt.RcAt.lists (A := X.A.in1) (s := s) (e := fun _ => true) p3.isList p4.isList rfl ?_ (fun j h1 h2 => ?_)
      · have ea : (List.range (bs.map Value.bool).toArray.size).all (fun _ => true) = true := by simp
        rw [ea] at this
        exact this
      · rw [Around.in1_units]; omega
      · have := SeqAt.EqAt.same (A := X.A.in1.in1) (s := s) (bs.map Value.bool).toArray[j]
        exact this
    | 1, _, _ =>
      have := SeqAt.EqAt.str_str (A := X.A.in1) (s := s) t t1 t t2
      rw [beq_self_eq_true] at this
      exact this
  · exact ⟨.bl false, H, I, rfl, q⟩
end NB

set_option Elab.async false
set_option linter.all false
set_option maxRecDepth 100000
namespace K61
open PySem PySem.Spec PyProof.Rows L2 NB

/-! ### the class and the value of a refusal -/
open LamX in
abbrev a__law_refusal : Stmt := topS 26
abbrev n__law_refusal : List Str := ["_law_ask", "_law_caught", "e", "_law_both"]
theorem sc__law_refusal : FnScope n__law_refusal ["_law_ask"] (defScope a__law_refusal) := ⟨rfl, rfl, rfl, by decide +kernel, rfl, by decide +kernel, by decide +kernel⟩
section
open LamX
variable {X : Cx}
theorem iteFa {c : Bool} {A B : Prop} (e : c = false) (h : B) : if c = true then A else B := by rw [e]; exact h
theorem pe_weak {X : Cx} {e : Expr} {t : TE} (h : PE X e t) : PE X e (fun σ H Q => ∃ Q0, t σ H Q0 ∧ ∀ v H', Q0 v H' → Q v H') :=
  ⟨fun pins s σ H Q I hq => by
    obtain ⟨Q0, h1, m⟩ := hq
    exact wpAny_mono (h.run pins s σ H Q0 I h1) (fun u s1 ⟨x, H1, I1, r1, q1⟩ => ⟨x, H1, I1, r1, m _ _ q1⟩) (fun _ _ z => z)⟩
theorem takes_len {X : Cx} {W : WX} (t : Takes X W) : Takes X (fun cls d σ H => σ.length = X.N.length → W cls d σ H) := fun u s' ⟨a, B, sI, pins, σ, H, cls, d, e, I, nb, up, sky, na, os, ag, q⟩ => t u s' ⟨a, B, sI, pins, σ, H, cls, d, e, I, nb, up, sky, na, os, ag, q I.len⟩
/-- what is asked raises an error of the class CE that holds v: a list of its class and how v is shown -/
def TRef (CE : Addr) (bR bL : Bool) : (XK → Hp → VK → Prop) → Hp → VK → Prop := fun tl H Q =>
  tl (fun cls d H' => cls = .ref CE ∧ ∃ (dd n : Addr) (v : V) (dt : PyData) (w k : Nat), d = some dd ∧ H' dd = some (.xd [("thing", v)]) ∧ Da n H' v dt ∧ Sm dt w k ∧ w ≤ 150000 ∧ k ≤ 60 ∧
    ∀ H2 B L, Same H' H2 → H' B = none → H' L = none → H2 B = some (.lst [.bl bR, .bl bL]) → H2 L = some (.lst [.ref B, .str dt.shown]) → Q (.ref L) H2) H (fun _ _ => False)
/-- what the written part says of the classes -/
structure RefT (K : PySem.W.Frag) (mg : Str → Option Value) (CB CT CR CL : Addr) : Prop where
  gB : mg "BothError" = some (.ref CB)
  gT : mg "NoThing" = some (.ref CT)
  gR : mg "NoRule" = some (.ref CR)
  gL : mg "NoLetter" = some (.ref CL)
  mV : mg "ValueError" = none
  mI : mg "isinstance" = none
  mR : mg "repr" = none
/-- and of the one that is raised -/
structure RefC (K : PySem.W.Frag) (CB CT CR CL CE : Addr) (bR bL : Bool) : Prop where
  xc : ExcC K CE
  xf : XfC K CE
  no : PySem.W.findIn K (.ref CE) "thing" = some none
  eb : PySem.W.exmOne K (.ref CE) (.ref CB) = some true
  kv : PySem.W.kitOne K (.ref CE) (.type "ValueError") = some true
  kt : PySem.W.kitOne K (.ref CE) (.ref CT) = some false
  kr : PySem.W.kitOne K (.ref CE) (.ref CR) = some bR
  kl : PySem.W.kitOne K (.ref CE) (.ref CL) = some bL
  one : [bR, bL].count true = 1
theorem refusal_gives {CB CT CR CL CE g : Addr} {bR bL : Bool} {cdg : Value} {q : Str} (T : RefT X.K X.mg CB CT CR CL) (C : RefC X.K CB CT CR CL CE bR bL) (hG : X.A.guards = some []) (hu : X.A.units + 80 < cLine) : GivesTo X n__law_refusal "_law_refusal" (defScope a__law_refusal) g cdg (defBody a__law_refusal) "_law_ask" q (TRef CE bR bL) := by
  intro f c' s H Q tl act hc h
  refine ⟨_, pss_cons (ps_set (i := 1) sc__law_refusal.nd rfl (.inl rfl) pe_non)
      (pss_cons (ps_try_keep (X := (cxOf C8.CX0 X.prog X.w X.K X.mg X.base n__law_refusal "_law_refusal" (defScope a__law_refusal) g cdg X.A X.stack s H C8.E0).nox) (i := 2) (c := .ref CB) (tb := fun W D σ H => ∃ (Ech : XK) (Q0 : VK), (∀ cls d σ' H', Ech cls d H' → σ'.length = 4 → W cls d σ' H') ∧ σ[0]? = some (some (.ref f)) ∧ H c' = some (CodeO c' q) ∧ tl Ech H Q0 ∧ ∀ v H1, Q0 v H1 → D.nx σ H1)
        (ts := fun a cls d => tAsg (tVar 2) (gName 1)) (Wout := fun _ _ _ _ => False) rfl rfl sc__law_refusal.nd rfl rfl ⟨rfl, by decide, Or.inl T.gB⟩ rfl L2.takes0 (fun W pn xe tk _ => ?_)
        (fun a oe cls d pn hz hf => pss_one (ps_set (i := 1) sc__law_refusal.nd rfl (.inl rfl) (by exact (pv 2)))))
      (pss_cons (ps_if (PW.pt (pw_or (pt_cmpR op_isN (pv 1) pe_non (nomark _)) (pw_or (pt_not (pt_val (pe_callB call_isKp (by rfl) T.mI (by decide +kernel) (pa_cons (pv 1) (pa_cons (pe_bltn (v := .ty "ValueError") (u := .type "ValueError") (by rfl) T.mV (by decide +kernel) rfl) pa_nil))))) (pw_or1 (pt_val (pe_callB call_isKp (by rfl) T.mI (by decide +kernel) (pa_cons (pv 1) (pa_cons (pe_glob (v := .ref CT) rfl T.gT rfl) pa_nil)))))))) (pss_one (ps_ret pe_non)) pss_nil)
      (pss_cons (ps_set (i := 3) sc__law_refusal.nd rfl (.inl rfl) (pe_lstN (pa_cons (pe_callB call_isKp (by rfl) T.mI (by decide +kernel) (pa_cons (pv 1) (pa_cons (pe_glob (v := .ref CR) rfl T.gR rfl) pa_nil))) (pa_cons (pe_callB call_isKp (by rfl) T.mI (by decide +kernel) (pa_cons (pv 1) (pa_cons (pe_glob (v := .ref CL) rfl T.gL rfl) pa_nil))) pa_nil))))
      (pss_one (ps_ret (pe_ifExp (pt_cmpR op_eq (pe_bm PySem.F.plainAttrs_list PySem.F.slot_list_count PySem.F.type_list_count mt_lcountB (pv 3) (pa_cons pe_bl pa_nil)) pe_int (nomark _)) (pe_lstN (pa_cons (pv 3) (pa_cons (pe_callB (call_reprA hG (show X.A.units + 3 + 64 < cLine by omega)) (by rfl) T.mR (by decide +kernel) (pa_cons (pe_kf C.xf C.no (pv 1)) pa_nil)) pa_nil))) pe_non)))))), ?_⟩
  · refine ⟨fun pins s' σ H' D I h' => ?_⟩
    obtain ⟨Ech, Q0, hW, h1, h2, h3, h4⟩ := h'
    exact (pss_one (ps_expr (pe_weak (act _ pn xe Ech _ _ (takes_len tk) hW)))).run pins s' σ H' D I ⟨Q0, ⟨h1, h2, h3⟩, h4⟩
  · refine ⟨fun cls d H' => cls = .ref CE ∧ ∃ (dd n : Addr) (v : V) (dt : PyData) (w k : Nat), d = some dd ∧ H' dd = some (.xd [("thing", v)]) ∧ Da n H' v dt ∧ Sm dt w k ∧ w ≤ 150000 ∧ k ≤ 60 ∧
      ∀ H2 B L, Same H' H2 → H' B = none → H' L = none → H2 B = some (.lst [.bl bR, .bl bL]) → H2 L = some (.lst [.ref B, .str dt.shown]) → Q (.ref L) H2, fun _ _ => False, fun cls d σ' H' hx ls => ?_, rfl, hc, h, fun v H1 hq => hq.elim⟩
    obtain ⟨rfl, dd, n, v, dt, w, k, rfl, ed, dv, sm, w1, k1, q1⟩ := hx
    match σ', ls with
    | [x0, x1, x2, x3], _ =>
    refine ⟨true, C.eb, fun _ a na => ⟨.ref a, rfl, fun nH => ?_⟩, fun z => Bool.noConfusion z⟩
    have s3 := same_new (o := xo a (.ref CE) (some dd)) nH
    have ea : (upd H' a (xo a (.ref CE) (some dd))) a = some (xo a (.ref CE) (some dd)) := upd_same
    have ed3 := s3 _ _ ed
    have dv3 := dv.same s3
    generalize upd H' a (xo a (.ref CE) (some dd)) = H3 at s3 ea ed3 dv3 ⊢
    have kp : KpAt H3 a CE [("thing", v)] := ⟨dd, ea, ed3⟩
    dsimp only [List.set]
    refine ⟨_, rfl, rfl, _, rfl, iteFa (decide_eq_false fun z => by cases z) ?_⟩
    refine ⟨_, rfl, a, CE, _, _, .type "ValueError", true, rfl, kp, C.xc, (fun u r => r), C.kv, _, rfl, iteF ?_⟩
    refine ⟨_, rfl, a, CE, _, _, .ref CT, false, rfl, kp, C.xc, (fun u r => r), C.kt, _, rfl, iteF ?_⟩
    refine ⟨_, rfl, a, CE, _, _, .ref CR, bR, rfl, kp, C.xc, (fun u r => r), C.kr, ?_⟩
    refine ⟨_, rfl, a, CE, _, _, .ref CL, bL, rfl, kp, C.xc, (fun u r => r), C.kl, ?_⟩
    refine ⟨(show 2 ≤ sizeLine by decide), fun B nB mB => ?_⟩
    have s4 := same_new (o := HO.lst [V.bl bR, .bl bL]) nB
    have eB : (upd H3 B (.lst [V.bl bR, .bl bL])) B = some (.lst [V.bl bR, .bl bL]) := upd_same
    have kp4 := kp.same s4
    have dv4 := dv3.same s4
    have s34 := s3.trans s4
    have nB' := s3.free nB
    generalize upd H3 B (.lst [V.bl bR, .bl bL]) = H4 at s34 eB kp4 dv4 ⊢
    dsimp only [List.set]
    refine ⟨_, rfl, .inl ⟨rfl, _, .inl (.inl eB)⟩, B, [bR, bL], true, rfl, rfl, .inl (.inl eB), ?_⟩
    rw [C.one]
    refine ⟨rfl, true, congrArg V.bl (decide_eq_true rfl), iteT ⟨_, rfl, _, rfl, a, _, v, rfl, kp4, rfl, n, v, dt, w, k, rfl, dv4, sm, w1, k1, (show 2 ≤ sizeLine by decide), fun L nL mL => ?_⟩⟩
    exact q1 _ B L (s34.trans (same_new nL)) nB' (s34.free nL) ((same_new nL) _ _ eB) upd_same
end
section
open LamX
variable {X : Cx}
/-- the def called with a lambda -/
theorem pe_refusal {TT : List (Addr × Str)} {CB CT CR CL CE fC c P : Addr} {bR bL : Bool} {fdC : FuncData} {k : Nat} {params : Arguments} {body : Expr} {scope : Scope} {t : XK → TE} {p lpos pos : Pos} (T : RefT X.K X.mg CB CT CR CL) (C : RefC X.K CB CT CR CL CE bR bL) (hG : X.A.guards = some []) (FC : Fun X.K "_law_refusal" "_law_refusal" a__law_refusal fC fdC) (gC : X.mg "_law_refusal" = some (.ref fC)) (hg : Gl X "_law_refusal")
    (TB : TabB X.base X.mg c P) (hcode : X.env.code = .ref c) (hm : (P, X.env.qual ++ "<lambda>") ∈ TT) (hu : ∀ p ∈ TT, p.1 = P → p.2 = X.env.qual ++ "<lambda>") (hr : Room (k + 2) X.A) (L : LamS X.env.scope scope) (hdef : defaultsOf params X.env = ([], [])) (hbind : ∀ (q : Str) (cl : List (Str × Addr)) (pm cv ctv : Value), bindArgs (PySem.W.kla_fn "<lambda>" q params body scope cl pm cv ctv) ⟨[], []⟩ = pure [])
    (hbody : ∀ (A : Around) (outer : List Env) (s : Shared) (H : Hp) (E : XK) (f c' : Addr), Room k (A.deeper (lamEnv X scope s.heap.objs.size f c')) → PE (lamCx X A outer s H E scope f c') body (t E)) :
    PE X (.Call (.Name "_law_refusal" p) [.Lambda params body scope lpos] [] pos) (tLam TT (TRef CE bR bL) t) := by
  have bC := FC.binds (ps := ["_law_ask"]) (fun _ _ _ _ _ _ us hl => match us, hl with | [_], _ => rfl)
  have kC := FC.kp
  obtain ⟨oc, od, kV, doc, pm, an, cdv, ct, osl, rfl, lk, hcd⟩ := FC.ex
  have un := hr.un
  exact pe_lamcall hg gC kC lk hcd bC sc__law_refusal rfl (Or.inl rfl) (refusal_gives T C hG (by omega)) TB hcode hm hu hr L hdef hbind hbody
end
end K61

set_option Elab.async false
set_option linter.all false
set_option maxRecDepth 100000
namespace K61
open PySem PySem.Spec PyProof.Rows L2 NB

/-! ### what is told of a hand, and of a refusal -/
theorem SmallAll.le {ds : List PyData} {w n v m : Nat} (h : SmallAll ds w n) (h1 : w ≤ v) (h2 : n ≤ m) : SmallAll ds v m := by
  obtain ⟨a1, a2, a3, a4, a5⟩ := h
  exact ⟨a1, a2, by omega, a4, by omega⟩
theorem Small.le {d : PyData} {w n v m : Nat} (h : Small d w n) (h1 : w ≤ v) (h2 : n ≤ m) : Small d v m := by
  obtain ⟨a1, a2, a3, a4, a5⟩ := h
  exact ⟨a1, a2, by omega, a4, by omega⟩
def rowD (h : Hd) (n : Int) : PyData := .tuple [.int n, .int (h.cntN n), .bool (h.lv n)]
def stD (h : Hd) (ns ys : List Int) (bs : List Bt) : PyData := .list [.int (h.thing : Int), .int h.place, wiD h.wish, .tuple (ys.map PyData.int), .tuple (bs.map btD), .list (ns.map (rowD h))]
/-- numbers of rules that it shares -/
def ShN (h : Hd) (ns : List Int) : Prop := ∀ n ∈ ns, ∃ rl c, look h.rows n = some (rl, c) ∧ shrd rl = true
/-- what is small of a hand -/
structure Hs (h : Hd) : Prop where
  s : HdS h
  l5 : h.rows.length ≤ 5
  th : h.thing ≤ 12
  pl : h.place.natAbs < 10 ^ 60
  wl : ∀ w, h.wish = some w → h.thing < w.2.length
theorem small_row {h : Hd} (s : Hs h) {n : Int} (hn : ∃ rl c, look h.rows n = some (rl, c) ∧ shrd rl = true) : Small (rowD h n) 630 1 := by
  obtain ⟨rl, c, e, _⟩ := hn
  have h1 : n.natAbs < 10 ^ 60 := (s.s.1 _ (look_some e)).1
  have c1 : (10 : Nat) ^ 60 < 10 ^ 90 := by decide
  have c := Small.tuple (SmallAll.cons (Small.int (Nat.lt_trans h1 c1)) (SmallAll.cons (Small.int (Nat.lt_trans (cntN_bd s.s n) c1)) (SmallAll.cons (Small.bool (h.lv n)) .nil)))
  exact Small.le c (by omega) (by omega)
theorem small_rows {h : Hd} (s : Hs h) : ∀ {ns : List Int}, ShN h ns → SmallAll (ns.map (rowD h)) (631 * ns.length) 1
  | [], _ => SmallAll.le .nil (Nat.zero_le _) (Nat.zero_le _)
  | n :: ns, hn => by
    rw [List.map_cons]
    exact SmallAll.le (SmallAll.cons (small_row s (hn n List.mem_cons_self)) (small_rows s fun x hx => hn x (List.mem_cons_of_mem _ hx))) (by rw [List.length_cons]; omega) (by omega)
theorem st_shown {h : Hd} (s : Hs h) {ns ys : List Int} {bs : List Bt} (hn : ShN h ns) (l5 : ns.length ≤ 5) (y : LkL h ys) (b : BtL h bs) : Showable (stD h ns ys bs) := by
  obtain ⟨y1, y2⟩ := y.small s.s
  obtain ⟨b1, b2⟩ := b.small s.s
  have c1 : (10 : Nat) ^ 60 < 10 ^ 90 := by decide
  have ht : (h.thing : Int).natAbs < 10 ^ 90 := Nat.lt_of_le_of_lt (show (h.thing : Int).natAbs ≤ 12 from by have := s.th; omega) (by decide)
  have l := s.l5
  have c := Small.list (SmallAll.cons (Small.int ht) (SmallAll.cons (Small.int (Nat.lt_trans s.pl c1)) (SmallAll.cons (small_wi s.s.2) (SmallAll.cons (Small.tuple (SmallAll.ints y1)) (SmallAll.cons (Small.tuple (small_bts b1)) (SmallAll.cons (Small.list (small_rows s hn)) .nil))))))
  exact c.ok (by omega) (by omega)
def spState (C : Addr) : Sp := fun vs H Q _ => ∃ (x D T L : Addr) (h : Hd) (ns : List Int), vs = [.ref x, .ref L] ∧ HandAt C H x D T h ∧ Hs h ∧ H L = some (.lst (ns.map V.int)) ∧ ns.length ≤ 5 ∧ ShN h ns ∧ ∀ H' ys bs, Same H H' → LkL h ys → BtL h bs → Q (.str (stD h ns ys bs).shown) H'
/-- a list of two truths and how a thing is shown -/
def spNo (b1 b2 : Bool) : Sp := fun vs H Q _ => ∃ (n : Addr) (v : V) (d : PyData) (w k : Nat), vs = [v] ∧ Da n H v d ∧ Sm d w k ∧ w ≤ 150000 ∧ k ≤ 60 ∧
  ∀ H2 B L, Same H H2 → H B = none → H L = none → H2 B = some (.lst [.bl b1, .bl b2]) → H2 L = some (.lst [.ref B, .str d.shown]) → Q (.ref L) H2
section
variable {P : Program} {w : World} {K : PySem.W.Frag} {mg : Str → Option Value} {base : Heap}
abbrev a__law_no_rule : Stmt := topS 27
abbrev n__law_no_rule : List Str := ["_law_thing"]
theorem sc__law_no_rule : FnScope n__law_no_rule ["_law_thing"] (defScope a__law_no_rule) := ⟨rfl, rfl, rfl, by decide +kernel, rfl, by decide +kernel, by decide +kernel⟩
set_option maxHeartbeats 8000000 in
theorem ok__law_no_rule {f  : Addr} {fd  : FuncData}   (F : Fun K "_law_no_rule" "_law_no_rule" a__law_no_rule f fd)   (m_repr : mg "repr" = none) : FnG P w K mg base 2 f fd ["_law_thing"] (spNo true false) := by
  refine fnG F sc__law_no_rule (fun vs H Q E h => ?_) (fun cdv A outer s H vs Q E hG hr h => ?_)
  · obtain ⟨n, v, d, w', k', rfl, _⟩ := h
    rfl
  · obtain ⟨n, v, d, w', k', rfl, hd, sm, w1, k1, q⟩ := h
    refine ⟨_, (pss_one (ps_ret (pe_lstN (pa_cons (pe_lstN (pa_cons pe_bl (pa_cons pe_bl pa_nil))) (pa_cons (pe_callB (call_reprA hG hr.units) (by rfl) m_repr (by decide +kernel) (pa_cons (pv 0) pa_nil)) pa_nil))))), ?_⟩
    refine ⟨(show 2 ≤ sizeLine by decide), fun B nB mB => ?_⟩
    have s1 := same_new (o := HO.lst [V.bl true, .bl false]) nB
    have eB : (upd H B (.lst [V.bl true, .bl false])) B = some (.lst [V.bl true, .bl false]) := upd_same
    refine ⟨_, rfl, n, v, d, w', k', rfl, hd.same s1, sm, w1, k1, (show 2 ≤ sizeLine by decide), fun L nL mL => ?_⟩
    exact q _ B L (s1.trans (same_new nL)) nB (s1.free nL) ((same_new nL) _ _ eB) upd_same
abbrev a__law_no_letter : Stmt := topS 28
abbrev n__law_no_letter : List Str := ["_law_thing"]
theorem sc__law_no_letter : FnScope n__law_no_letter ["_law_thing"] (defScope a__law_no_letter) := ⟨rfl, rfl, rfl, by decide +kernel, rfl, by decide +kernel, by decide +kernel⟩
set_option maxHeartbeats 8000000 in
theorem ok__law_no_letter {f  : Addr} {fd  : FuncData}   (F : Fun K "_law_no_letter" "_law_no_letter" a__law_no_letter f fd)   (m_repr : mg "repr" = none) : FnG P w K mg base 2 f fd ["_law_thing"] (spNo false true) := by
  refine fnG F sc__law_no_letter (fun vs H Q E h => ?_) (fun cdv A outer s H vs Q E hG hr h => ?_)
  · obtain ⟨n, v, d, w', k', rfl, _⟩ := h
    rfl
  · obtain ⟨n, v, d, w', k', rfl, hd, sm, w1, k1, q⟩ := h
    refine ⟨_, (pss_one (ps_ret (pe_lstN (pa_cons (pe_lstN (pa_cons pe_bl (pa_cons pe_bl pa_nil))) (pa_cons (pe_callB (call_reprA hG hr.units) (by rfl) m_repr (by decide +kernel) (pa_cons (pv 0) pa_nil)) pa_nil))))), ?_⟩
    refine ⟨(show 2 ≤ sizeLine by decide), fun B nB mB => ?_⟩
    have s1 := same_new (o := HO.lst [V.bl false, .bl true]) nB
    have eB : (upd H B (.lst [V.bl false, .bl true])) B = some (.lst [V.bl false, .bl true]) := upd_same
    refine ⟨_, rfl, n, v, d, w', k', rfl, hd.same s1, sm, w1, k1, (show 2 ≤ sizeLine by decide), fun L nL mL => ?_⟩
    exact q _ B L (s1.trans (same_new nL)) nB (s1.free nL) ((same_new nL) _ _ eB) upd_same
abbrev a__law_state : Stmt := topS 29
abbrev n__law_state : List Str := ["_law_hand", "_law_numbers", "_law_counts", "_law_number"]
theorem sc__law_state : FnScope n__law_state ["_law_hand", "_law_numbers"] (defScope a__law_state) := ⟨rfl, rfl, rfl, by decide +kernel, rfl, by decide +kernel, by decide +kernel⟩
set_option maxHeartbeats 8000000 in
theorem ok__law_state {f  : Addr} {fd  : FuncData}  {C : Addr} (F : Fun K "_law_state" "_law_state" a__law_state f fd) (Hc : C8.Met P w K mg base 4 C "count_of" (spCount C) []) (Hv : C8.Met P w K mg base 5 C "has_leave" (spLeave C) []) (Hl : C8.Met P w K mg base 6 C "lacks" (spLkL C) []) (Hb : C8.Met P w K mg base 7 C "beat" (spBeat C) []) (X : HandTxt K C) (m_repr : mg "repr" = none) : FnG P w K mg base 8 f fd ["_law_hand", "_law_numbers"] (spState C) := by
  refine fnG F sc__law_state (fun vs H Q E h => ?_) (fun cdv A outer s H vs Q E hG hr h => ?_)
  · obtain ⟨x, D, T, L, h, ns, rfl, _⟩ := h
    rfl
  · obtain ⟨x, D, T, L, h, ns, rfl, ha, sm, eL, l5, sn, q⟩ := h
    refine ⟨_, (pss_cons (ps_setLc (i := 2) (own := [("_law_number", 3)]) (g := (gName 3)) (tt := tYes) (te := (tTup (tCons (tVar 3) (tCons (tMeth C "count_of" (spCount C) [] E0 (tVar 0) (tCons (tVar 3) tNil)) (tCons (tMeth C "has_leave" (spLeave C) [] E0 (tVar 0) (tCons (tVar 3) tNil)) tNil))))) rfl sc__law_state.nd rfl rfl (sw_true rfl rfl rfl (by decide +kernel)) (pi_list (pv 1)) (blkOk_by (N := n__law_state) (sc := defScope a__law_state) (by decide +kernel))
          (fun _ _ _ _ _ => (pg_name (i := 3) sc__law_state.nd rfl (.inl rfl) (hf := .inr rfl))) (fun _ _ _ _ _ => pts_nil) (fun _ _ _ _ _ => (pe_tup (pa_cons (pv 3) (pa_cons (C8.pe_mt Hc hr (by omega) (pv 0) (pa_cons (pv 3) pa_nil)) (pa_cons (C8.pe_mt Hv hr (by omega) (pv 0) (pa_cons (pv 3) pa_nil)) pa_nil))))))
      (pss_one (ps_ret (pe_callB (call_reprD hG hr.units) (by rfl) m_repr (by decide +kernel) (pa_cons (pe_lst (pa_cons (pe_fld (pv 0) rfl) (pa_cons (pe_fld (pv 0) rfl) (pa_cons (pe_fld (pv 0) rfl) (pa_cons (C8.pe_mt0 Hl hr (by omega) (pv 0)) (pa_cons (C8.pe_mt0 Hb hr (by omega) (pv 0)) (pa_cons (pv 2) pa_nil))))))) pa_nil))))), ?_⟩
    obtain ⟨dx, v, hs, i0, wv, _⟩ := id ha
    have i0' : H x = some (.ins C dx [("thing", .int (h.thing : Int)), ("place", .int h.place), ("wish", v), ("held", .ref D), ("tally", .ref T)]) := i0
    have l40 : h.rows.length ≤ 40 := by have := sm.l5; omega
    refine ⟨_, rfl, L, rfl, ⟨_, .inl (.inl eL)⟩, fun R nR => lc_it (walk_list (xs := ns.map V.int)) (fun j H' => Same H H' ∧ ∃ as : List Addr, H' R = some (.lst (as.map V.ref)) ∧ as.length = j ∧ ∀ i a n, as[i]? = some a → ns[i]? = some n → H' a = some (.tup [.int n, .int (h.cntN n), .bl (h.lv n)])) ⟨same_new nR, [], upd_same, rfl, fun i a n h1 => by rw [List.getElem?_nil] at h1; cases h1⟩ (fun j H' _ y => .inl (.inl (y.1 _ _ eL))) (fun j u H1' H1 hj y z => ?_) (fun H1 y => ?_)⟩
    · obtain ⟨s1, as, eR, la, ra⟩ := y
      obtain ⟨rfl, gv⟩ := z
      obtain ⟨n, en, rfl⟩ := mapGet gv
      obtain ⟨rl, c, e, sh⟩ := sn n (List.mem_of_getElem? en)
      have ec : h.cntN n = c := by unfold Hd.cntN; rw [e]
      have ev : h.lv n = leaveB h.thing rl c := by unfold Hd.lv; rw [e]
      refine ⟨rfl, _, rfl, .ref x, rfl, x, dx, _, rfl, s1 _ _ i0', lkm, .int n, rfl, x, D, T, h, n, rl, c, rfl, ha.same s1, e, sh, fun H2 s2 => ⟨.ref x, rfl, x, dx, _, rfl, (s1.trans s2) _ _ i0', lkm, .int n, rfl, x, D, T, h, n, rl, c, rfl, ha.same (s1.trans s2), e, sh, fun H3 s3 => ⟨(show 3 ≤ sizeLine by decide), fun W nW => ?_⟩⟩⟩
      have sW := same_new (o := HO.tup [V.int n, .int c, .bl (leaveB h.thing rl c)]) nW
      have s13 := (s2.trans s3).trans sW
      have jl : j < ns.length := (List.getElem?_eq_some_iff.mp en).1
      refine ⟨_, s13 _ _ eR, by rw [List.length_map]; exact small1000 (by omega), same_over (s1.trans s13) nR, as ++ [W], by rw [upd_same, List.map_append]; rfl, by rw [List.length_append, la]; rfl, fun i a m h1 h2 => ?_⟩
      have ne : ∀ {b : Addr} {xs : List V}, (upd H3 W (HO.tup [V.int n, .int c, .bl (leaveB h.thing rl c)])) b = some (.tup xs) → b ≠ R := fun {b xs} q z => by
        rw [z, s13 _ _ eR] at q
        cases q
      rcases Nat.lt_or_ge i as.length with ci | ci
      · rw [List.getElem?_append_left ci] at h1
        have := s13 _ _ (ra i a m h1 h2)
        rw [upd_ne (ne this)]
        exact this
      · rw [List.getElem?_append_right ci] at h1
        have i0 : i - as.length = 0 := by
          rcases Nat.eq_zero_or_pos (i - as.length) with z | z
          · exact z
          · rw [List.getElem?_eq_none (by simp only [List.length_cons, List.length_nil]; omega)] at h1
            cases h1
        rw [i0] at h1
        cases h1
        obtain rfl : i = j := by omega
        rw [en] at h2
        cases h2
        have eW : (upd H3 W (HO.tup [V.int n, .int c, .bl (leaveB h.thing rl c)])) W = some (.tup [V.int n, .int c, .bl (leaveB h.thing rl c)]) := upd_same
        rw [upd_ne (ne eW), eW, ec, ev]
    · obtain ⟨s1, as, eR, la, ra⟩ := y
      rw [List.length_map] at la
      dsimp only [List.set]
      refine ⟨.ref x, rfl, x, C, dx, _, _, rfl, s1 _ _ i0', X.cl, X.n1, lk1, .ref x, rfl, x, C, dx, _, _, rfl, s1 _ _ i0', X.cl, X.n2, lk2, .ref x, rfl, x, C, dx, _, _, rfl, s1 _ _ i0', X.cl, X.n3, lk3, ?_⟩
      refine ⟨.ref x, rfl, x, dx, _, rfl, s1 _ _ i0', lkm, x, D, T, h, rfl, ha.same s1, l40, sm.wl, fun H2 Y ys s2 eY yL => ⟨.ref x, rfl, x, dx, _, rfl, (s1.trans s2) _ _ i0', lkm, x, D, T, h, rfl, ha.same (s1.trans s2), l40, sm.wl, fun H3 B bs s3 bA bL => ⟨_, rfl, (show 6 ≤ sizeLine by decide), fun W nW => ?_⟩⟩⟩
      have sW := same_new (o := HO.lst [V.int (h.thing : Int), .int h.place, v, .ref Y, .ref B, .ref R]) nW
      have s4 := (s2.trans s3).trans sW
      have rows : ∀ (ms : List Int) (bs' : List Addr), bs'.length = ms.length → (∀ i a n, bs'[i]? = some a → ms[i]? = some n → H1 a = some (.tup [.int n, .int (h.cntN n), .bl (h.lv n)])) → DpAll K (upd H3 W (HO.lst [V.int (h.thing : Int), .int h.place, v, .ref Y, .ref B, .ref R])) (bs'.map V.ref) (ms.map (rowD h)) := fun ms => by
        induction ms with
        | nil =>
          intro bs' lb _
          rw [List.eq_nil_of_length_eq_zero lb]
          exact .nil
        | cons n ms ih =>
          intro bs' lb hb
          cases bs' with
          | nil => cases lb
          | cons b bs' =>
            exact .cons (.tup (.inl (.inl (s4 _ _ (hb 0 b n rfl rfl)))) (.cons (.int _) (.cons (.int _) (.cons (.bl _) .nil)))) (ih bs' (Nat.succ.inj lb) fun i a m h1 h2 => hb (i + 1) a m h1 h2)
      have dR := rows ns as la ra
      have dp : Dp K (upd H3 W (HO.lst [V.int (h.thing : Int), .int h.place, v, .ref Y, .ref B, .ref R])) (.ref W) (stD h ns ys bs) := .lst (.inl (.inl upd_same)) (.cons (.int _) (.cons (.int _) (.cons (dp_wish (wv.keep (.same (s1.trans s4)))) (.cons (dp_tup (.inl (.inl ((s3.trans sW) _ _ eY)))) (.cons (dp_bat (bA.tk (tk_same sW))) (.cons (.lst (.inl (.inl (s4 _ _ eR))) dR) .nil))))))
      exact ⟨W, _, rfl, dp, st_shown sm sn l5 yL bL, q _ ys bs (s1.trans s4) yL bL⟩
end
end K61

set_option Elab.async false
set_option linter.all false
set_option maxRecDepth 100000
namespace K61
open PySem PySem.Spec PyProof.Rows L2 NB

/-! ### data and pots -/
theorem PotAt.lst {H : Hp} {a : Addr} {c : Nat} (h : PotAt H a c) : ∃ zs, H a = some (.lst zs) := by
  obtain ⟨p, q, r, e, _⟩ := h
  exact ⟨_, e⟩
theorem da_but {a : Addr} {H H' : Hp} {c : Nat} {v : V} {d : PyData} (h : Da a H v d) (p : PotAt H a c) (b : But a H H') : Da a H' v d := Da.keep p.lst b d v h
theorem daAll_but {a : Addr} {H H' : Hp} {c : Nat} {vs : List V} {ds : List PyData} (h : DaAll a H vs ds) (p : PotAt H a c) (b : But a H H') : DaAll a H' vs ds := DaAll.keep p.lst b ds vs h
theorem new_tup {n t : Addr} {H : Hp} {xs : List V} {ds : List PyData} (nt : H t = none) (h : DaAll n H xs ds) : Same H (upd H t (.tup xs)) ∧ Da n (upd H t (.tup xs)) (.ref t) (.tuple ds) := ⟨same_new nt, .tup upd_same (h.same (same_new nt))⟩
theorem new_lst {n t : Addr} {H : Hp} {xs : List V} {ds : List PyData} {c : Nat} (nt : H t = none) (ns : t ≠ sysModules) (p : PotAt H n c) (h : DaAll n H xs ds) : Same H (upd H t (.lst xs)) ∧ Da n (upd H t (.lst xs)) (.ref t) (.list ds) := ⟨same_new nt, .lst upd_same ns (p.ne nt) (h.same (same_new nt))⟩
theorem new_dct {n t : Addr} {H : Hp} (nt : H t = none) : Same H (upd H t (.dK [])) ∧ Da n (upd H t (.dK [])) (.ref t) (.dict []) := ⟨same_new nt, .dct upd_same .nil⟩
theorem but_same {a : Addr} {H H' H'' : Hp} (b : But a H H') (s : Same H' H'') : But a H H'' := b.trans (But.of s)
theorem wt_at {ds : List PyData} {i : Nat} {d : PyData} (h : ds[i]? = some d) : PyData.weightAll ds = PyData.weightAll (ds.take i) + (d.weight + 1) + PyData.weightAll (ds.drop (i + 1)) := by
  have hi := (List.getElem?_eq_some_iff.mp h).1
  have e : ds = ds.take i ++ (d :: ds.drop (i + 1)) := by
    have e2 := (List.getElem?_eq_some_iff.mp h).2
    rw [← e2, ← List.drop_eq_getElem_cons hi, List.take_append_drop]
  have := wt_app (ds.take i) (d :: ds.drop (i + 1))
  rw [← e] at this
  simp only [PyData.weightAll] at this
  omega
theorem wt_two (ds : List PyData) (i : Nat) : PyData.weightAll ds = PyData.weightAll (ds.take i) + PyData.weightAll (ds.drop i) := by
  have := wt_app (ds.take i) (ds.drop i)
  rw [List.take_append_drop] at this
  exact this
theorem SmE.mono {ds : List PyData} {k m : Nat} (h : SmE ds k) (le : k ≤ m) : SmE ds m := fun d hd => ⟨(h d hd).1, Nat.le_trans (h d hd).2.1 le, (h d hd).2.2⟩
theorem SmE.app {ds es : List PyData} {k : Nat} (h : SmE ds k) (h' : SmE es k) : SmE (ds ++ es) k := fun d hd => by
  rcases List.mem_append.mp hd with q | q
  · exact h d q
  · exact h' d q
theorem SmE.take {ds : List PyData} {k : Nat} (h : SmE ds k) (i : Nat) : SmE (ds.take i) k := fun d hd => h d (List.mem_of_mem_take hd)
theorem SmE.drop {ds : List PyData} {k : Nat} (h : SmE ds k) (i : Nat) : SmE (ds.drop i) k := fun d hd => h d (List.mem_of_mem_drop hd)
theorem SmE.one {d : PyData} {w k : Nat} (h : Sm d w k) : SmE [d] k := fun x hx => by
  rw [List.mem_singleton.mp hx]
  exact h.e
theorem SmE.ints {xs : List Int} (h : ∀ x ∈ xs, x.natAbs < 10 ^ 90) : SmE (xs.map PyData.int) 0 := fun d hd => by
  obtain ⟨x, hx, rfl⟩ := List.mem_map.mp hd
  exact (Sm.int (h x hx)).e
theorem wt_ints : ∀ {xs : List Int}, (∀ x ∈ xs, x.natAbs < 10 ^ 90) → PyData.weightAll (xs.map PyData.int) ≤ 311 * xs.length
  | [], _ => Nat.le_refl _
  | x :: xs, h => by
    have a := (Sm.int (h x List.mem_cons_self)).wt
    have b := wt_ints fun y hy => h y (List.mem_cons_of_mem _ hy)
    simp only [List.map_cons, PyData.weightAll, List.length_cons]
    omega

/-! ### data that are apart from whatever was there before -/
mutual
theorem Da.keepg {n z : Addr} {H H' : Hp} (hn : ∃ zs, H z = some (.lst zs)) (k : ∀ b o, b ≠ z → (∀ ps, o ≠ .tbl ps) → H b = some o → H' b = some o) : ∀ (d : PyData) (v : V), Da n H v d → Da z H v d → Da n H' v d
  | .none, _, h, _ => by cases h; exact .non
  | .bool b, _, h, _ => by cases h; exact .bl b
  | .int i, _, h, _ => by cases h; exact .int i
  | .str x, _, h, _ => by cases h; exact .str x
  | .list ds, _, h, g => by
    cases h with
    | lst e n1 n2 ha =>
      cases g with
      | lst e' _ n3 hb =>
        have z := e.symm.trans e'
        cases z
        exact .lst (k _ _ n3 (fun _ w => by cases w) e) n1 n2 (DaAll.keepg hn k ds _ ha hb)
  | .tuple ds, _, h, g => by
    cases h with
    | tup e ha =>
      cases g with
      | tup e' hb =>
        have z := e.symm.trans e'
        cases z
        refine .tup (k _ _ (fun z => ?_) (fun _ w => by cases w) e) (DaAll.keepg hn k ds _ ha hb)
        obtain ⟨zs, q⟩ := hn
        rw [z, q] at e
        cases e
  | .dict ds, _, h, g => by
    cases h with
    | dct e ha =>
      cases g with
      | dct e' hb =>
        have z := e.symm.trans e'
        cases z
        refine .dct (k _ _ (fun z => ?_) (fun _ w => by cases w) e) (DaKv.keepg hn k ds _ ha hb)
        obtain ⟨zs, q⟩ := hn
        rw [z, q] at e
        cases e
theorem DaAll.keepg {n z : Addr} {H H' : Hp} (hn : ∃ zs, H z = some (.lst zs)) (k : ∀ b o, b ≠ z → (∀ ps, o ≠ .tbl ps) → H b = some o → H' b = some o) : ∀ (ds : List PyData) (vs : List V), DaAll n H vs ds → DaAll z H vs ds → DaAll n H' vs ds
  | [], _, h, _ => by cases h; exact .nil
  | d :: ds, _, h, g => by
    cases h with
    | cons h hs =>
      cases g with
      | cons g gs => exact .cons (Da.keepg hn k d _ h g) (DaAll.keepg hn k ds _ hs gs)
theorem DaKv.keepg {n z : Addr} {H H' : Hp} (hn : ∃ zs, H z = some (.lst zs)) (k : ∀ b o, b ≠ z → (∀ ps, o ≠ .tbl ps) → H b = some o → H' b = some o) : ∀ (ds : List (PyData × PyData)) (kvs : List (Key × V)), DaKv n H kvs ds → DaKv z H kvs ds → DaKv n H' kvs ds
  | [], _, h, _ => by cases h; exact .nil
  | (_, d) :: ds, (key, v) :: kvs, h, g => by
    cases h with
    | cons h hs =>
      cases g with
      | cons g gs => exact .cons (Da.keepg hn k d _ h g) (DaKv.keepg hn k ds _ hs gs)
end
theorem Da.keepx {n z : Addr} {H H' : Hp} (hn : ∃ zs, H z = some (.lst zs)) (k : ∀ b o, b ≠ z → H b = some o → H' b = some o) (d : PyData) (v : V) (h : Da n H v d) (g : Da z H v d) : Da n H' v d := Da.keepg hn (fun b o n _ e => k b o n e) d v h g
/-- what was there when the heap was H0, and the pot -/
def EX (a : Addr) (H0 : Hp) (z : Addr) : Prop := z = a ∨ H0 z ≠ none
def DaN (E : Addr → Prop) (H : Hp) (v : V) (d : PyData) : Prop := ∀ z, E z → Da z H v d
def DaAN (E : Addr → Prop) (H : Hp) (vs : List V) (ds : List PyData) : Prop := ∀ z, E z → DaAll z H vs ds
theorem DaN.non {E : Addr → Prop} {H : Hp} : DaN E H .non .none := fun _ _ => .non
theorem DaN.bl {E : Addr → Prop} {H : Hp} (b : Bool) : DaN E H (.bl b) (.bool b) := fun _ _ => .bl b
theorem DaN.int {E : Addr → Prop} {H : Hp} (b : Int) : DaN E H (.int b) (.int b) := fun _ _ => .int b
theorem DaN.str {E : Addr → Prop} {H : Hp} (b : Str) : DaN E H (.str b) (.str b) := fun _ _ => .str b
theorem DaAN.nil {E : Addr → Prop} {H : Hp} : DaAN E H [] [] := fun _ _ => .nil
theorem DaAN.cons {E : Addr → Prop} {H : Hp} {v : V} {d : PyData} {vs : List V} {ds : List PyData} (h : DaN E H v d) (t : DaAN E H vs ds) : DaAN E H (v :: vs) (d :: ds) := fun z e => .cons (h z e) (t z e)
theorem DaN.same {E : Addr → Prop} {H H' : Hp} {v : V} {d : PyData} (h : DaN E H v d) (k : Same H H') : DaN E H' v d := fun z e => (h z e).same k
theorem DaN.but {a : Addr} {H0 H H' : Hp} {c : Nat} {v : V} {d : PyData} (h : DaN (EX a H0) H v d) (p : PotAt H a c) (b : But a H H') : DaN (EX a H0) H' v d := fun z e => Da.keepx p.lst b d v (h z e) (h a (.inl rfl))
theorem DaN.own {a : Addr} {H0 H : Hp} {v : V} {d : PyData} (h : DaN (EX a H0) H v d) : Da a H v d := h a (.inl rfl)
/-- it stays when a list that was there before changes -/
theorem DaN.push {a D : Addr} {H0 H H' : Hp} {v : V} {d : PyData} {zs : List V} (h : DaN (EX a H0) H v d) (i : EX a H0 D) (e : H D = some (.lst zs)) (k : ∀ b o, b ≠ D → H b = some o → H' b = some o) : DaN (EX a H0) H' v d := fun z y => Da.keepx ⟨zs, e⟩ k d v (h z y) (h D i)
theorem new_tupN {E : Addr → Prop} {t : Addr} {H : Hp} {xs : List V} {ds : List PyData} (nt : H t = none) (h : DaAN E H xs ds) : Same H (upd H t (.tup xs)) ∧ DaN E (upd H t (.tup xs)) (.ref t) (.tuple ds) := ⟨same_new nt, fun z e => (new_tup nt (h z e)).2⟩
theorem new_dctN {E : Addr → Prop} {t : Addr} {H : Hp} (nt : H t = none) : Same H (upd H t (.dK [])) ∧ DaN E (upd H t (.dK [])) (.ref t) (.dict []) := ⟨same_new nt, fun _ _ => .dct upd_same .nil⟩
theorem new_lstN {a t : Addr} {H0 H : Hp} {xs : List V} {ds : List PyData} {c : Nat} (b : But a H0 H) (nt : H t = none) (ns : t ≠ sysModules) (p : PotAt H a c) (h : DaAN (EX a H0) H xs ds) : Same H (upd H t (.lst xs)) ∧ DaN (EX a H0) (upd H t (.lst xs)) (.ref t) (.list ds) := ⟨same_new nt, fun z e => by
  have ne : t ≠ z := fun q => by
    rcases e with rfl | e
    · exact p.ne nt q
    · cases hz : H0 z with
      | none => exact e hz
      | some o =>
        by_cases za : z = a
        · exact p.ne nt (q.trans za)
        · rw [q, b z o za hz] at nt
          cases nt
  have s := same_new (o := HO.lst xs) nt
  exact .lst upd_same ns ne ((h z e).same s)⟩
theorem DaN.butE {E : Addr → Prop} {a : Addr} {H H' : Hp} {c : Nat} {v : V} {d : PyData} (ha : E a) (h : DaN E H v d) (p : PotAt H a c) (b : But a H H') : DaN E H' v d := fun z e => Da.keepx p.lst b d v (h z e) (h a ha)
theorem DaN.pushE {E : Addr → Prop} {D : Addr} {H H' : Hp} {v : V} {d : PyData} {zs : List V} (h : DaN E H v d) (i : E D) (e : H D = some (.lst zs)) (k : ∀ b o, b ≠ D → H b = some o → H' b = some o) : DaN E H' v d := fun z y => Da.keepx ⟨zs, e⟩ k d v (h z y) (h D i)
/-- all but the pot and the tables stays -/
def BN (a : Addr) (H H' : Hp) : Prop := ∀ b o, b ≠ a → H b = some o → (∀ ps, o ≠ .tbl ps) → H' b = some o
theorem BN.but {a : Addr} {H H' : Hp} (b : But a H H') : BN a H H' := fun x o n e _ => b x o n e
theorem BN.trans {a : Addr} {H H' H'' : Hp} (b : BN a H H') (c : BN a H' H'') : BN a H H'' := fun x o n e t => c x o n (b x o n e t) t
theorem BN.da {a : Addr} {H H' : Hp} {c : Nat} {v : V} {d : PyData} (h : Da a H v d) (p : PotAt H a c) (b : BN a H H') : Da a H' v d := Da.keepg p.lst (fun x o n t e => b x o n e t) d v h h

/-! ### things of any kind: none is a letter, none the number of a rule -/
def OdP (d : PyData) : Prop := letterD d = false ∧ ∀ i, d = .int i → i < 0 ∨ 99 ≤ i
section
variable {P : Program} {w : World} {K : PySem.W.Frag} {mg : Str → Option Value} {base : Heap}
def spOdd : Sp := fun vs H Q _ => ∃ (a : Addr) (c : Nat), vs = [.ref a] ∧ PotAt H a c ∧ c < 970000 ∧ ∀ v d H', But a H H' → PotAt H' a (c + 20) → DaN (EX a H) H' v d → Sm d 1300 21 → OdP d → Q v H'
abbrev a__law_odd : Stmt := topS 30
abbrev n__law_odd : List Str := ["_law_pot_here", "_law_some", "_law_thing", "_law_turn"]
theorem sc__law_odd : FnScope n__law_odd ["_law_pot_here"] (defScope a__law_odd) := ⟨rfl, rfl, rfl, by decide +kernel, rfl, by decide +kernel, by decide +kernel⟩
set_option maxHeartbeats 8000000 in
theorem ok__law_odd {f fO fT : Addr} {fd fdO fdT : FuncData} {k : Nat}  (F : Fun K "_law_odd" "_law_odd" a__law_odd f fd) (O : Kn P w K mg base 2 "_law_of" ["_law_pot_here", "_law_some"] (spOf K) fO fdO) (T : Kn P w K mg base 1 "_law_take" ["_law_pot_here", "_law_many"] spTake fT fdT)  (m_range : mg "range" = none) : FnOk P w K mg base CX0 (k + 3) f fd ["_law_pot_here"] spOdd := by
  refine F.ok sc__law_odd (fun vs H Q E h => ?_) (fun cdv A outer s H vs Q E hr h => ?_)
  · obtain ⟨a, c, rfl, _⟩ := h
    rfl
  · obtain ⟨a, c, rfl, pa, hc, q⟩ := h
    refine ⟨_, (pss_cons (ps_set (i := 1) sc__law_odd.nd rfl (.inl rfl) (pe_lstN (pa_cons pe_non (pa_cons pe_bl (pa_cons pe_bl (pa_cons pe_str (pa_cons pe_str (pa_cons (pe_tup pa_nil) (pa_cons (pe_tup (pa_cons pe_int pa_nil)) (pa_cons (pe_lstN (pa_cons pe_int pa_nil)) (pa_cons pe_dnewK (pa_cons (pe_un un_neg pe_int) (pa_cons (pe_op op_pow pe_int pe_int) (pa_cons pe_int (pa_cons (pe_lstN (pa_cons (pe_lstN pa_nil) pa_nil)) (pa_cons (pe_tup (pa_cons pe_str pa_nil)) (pa_cons pe_int pa_nil)))))))))))))))))
      (pss_cons (ps_set (i := 2) sc__law_odd.nd rfl (.inl rfl) (pe_kn O hr (by omega) (pa_cons (pv 0) (pa_cons (pv 1) pa_nil))))
      (pss_cons (ps_for PassesOwn.never rfl (pi_range1 (by rfl) m_range (pa_cons (pe_kn O hr (by omega) (pa_cons (pv 0) (pa_cons (pe_lstN (pa_cons pe_int (pa_cons pe_int (pa_cons pe_int (pa_cons pe_int pa_nil))))) pa_nil))) pa_nil)) (pg_name (i := 3) sc__law_odd.nd rfl (.inl rfl))
        (pss_one (ps_set (i := 2) sc__law_odd.nd rfl (.inl rfl) (pe_ix ix_list (pe_lstN (pa_cons (pe_tup (pa_cons (pv 2) pa_nil)) (pa_cons (pe_lstN (pa_cons (pv 2) pa_nil)) pa_nil))) (pe_kn T hr (by omega) (pa_cons (pv 0) (pa_cons pe_int pa_nil))) (fun _ _ => rfl)))))
      (pss_one (ps_ret (pv 2)))))), ?_⟩
    have B0 : But a H H := fun _ _ _ e => e
    refine ⟨(show 0 ≤ sizeLine by decide), fun t1 n1 => ?_⟩
    obtain ⟨s1, D1⟩ := new_tupN (E := EX a H) n1 .nil
    have p1 := pa.keep s1
    have B1 := but_same B0 s1
    generalize upd H t1 (.tup []) = H1 at s1 D1 p1 B1 ⊢
    refine ⟨(show 1 ≤ sizeLine by decide), fun t2 n2 => ?_⟩
    obtain ⟨s2, D2⟩ := new_tupN (E := EX a H) n2 (.cons (.int 0) .nil)
    have p2 := p1.keep s2
    have B2 := but_same B1 s2
    have D1 := D1.same s2
    generalize upd H1 t2 (.tup [.int 0]) = H2 at s2 D2 p2 B2 D1 ⊢
    refine ⟨(show 1 ≤ sizeLine by decide), fun t3 n3 m3 => ?_⟩
    obtain ⟨s3, D3⟩ := new_lstN B2 n3 m3 p2 (.cons (.int 0) .nil)
    have p3 := p2.keep s3
    have B3 := but_same B2 s3
    have D1 := D1.same s3
    have D2 := D2.same s3
    generalize upd H2 t3 (.lst [.int 0]) = H3 at s3 D3 p3 B3 D1 D2 ⊢
    refine fun t4 n4 => ?_
    obtain ⟨s4, D4⟩ := new_dctN (E := EX a H) n4
    have p4 := p3.keep s4
    have B4 := but_same B3 s4
    have D1 := D1.same s4
    have D2 := D2.same s4
    have D3 := D3.same s4
    generalize upd H3 t4 (.dK []) = H4 at s4 D4 p4 B4 D1 D2 D3 ⊢
    refine ⟨1, rfl, 10, 29, rfl, rfl, ⟨by decide, by decide, by decide⟩, ?_⟩
    refine ⟨(show 0 ≤ sizeLine by decide), fun t5 n5 m5 => ?_⟩
    obtain ⟨s5, D5⟩ := new_lstN B4 n5 m5 p4 .nil
    have p5 := p4.keep s5
    have B5 := but_same B4 s5
    have D1 := D1.same s5
    have D2 := D2.same s5
    have D3 := D3.same s5
    have D4 := D4.same s5
    generalize upd H4 t5 (.lst []) = H5 at s5 D5 p5 B5 D1 D2 D3 D4 ⊢
    refine ⟨(show 1 ≤ sizeLine by decide), fun t6 n6 m6 => ?_⟩
    obtain ⟨s6, D6⟩ := new_lstN B5 n6 m6 p5 (.cons D5 .nil)
    have p6 := p5.keep s6
    have B6 := but_same B5 s6
    have D1 := D1.same s6
    have D2 := D2.same s6
    have D3 := D3.same s6
    have D4 := D4.same s6
    have D5 := D5.same s6
    generalize upd H5 t6 (.lst [.ref t5]) = H6 at s6 D6 p6 B6 D1 D2 D3 D4 D5 ⊢
    refine ⟨(show 1 ≤ sizeLine by decide), fun t7 n7 => ?_⟩
    obtain ⟨s7, D7⟩ := new_tupN (E := EX a H) n7 (.cons (.str "ask") .nil)
    have p7 := p6.keep s7
    have B7 := but_same B6 s7
    have D1 := D1.same s7
    have D2 := D2.same s7
    have D3 := D3.same s7
    have D4 := D4.same s7
    have D5 := D5.same s7
    have D6 := D6.same s7
    generalize upd H6 t7 (.tup [.str "ask"]) = H7 at s7 D7 p7 B7 D1 D2 D3 D4 D5 D6 ⊢
    refine ⟨(show 15 ≤ sizeLine by decide), fun L nL mL => ?_⟩
    have s8 := same_new (o := HO.lst [V.non, .bl true, .bl false, .str "0", .str "", .ref t1, .ref t2, .ref t3, .ref t4, .int (-1), .int (10 ^ (29 : Int).toNat), .int 99, .ref t6, .ref t7, .int 500]) nL
    have eL : (upd H7 L (HO.lst [V.non, .bl true, .bl false, .str "0", .str "", .ref t1, .ref t2, .ref t3, .ref t4, .int (-1), .int (10 ^ (29 : Int).toNat), .int 99, .ref t6, .ref t7, .int 500])) L = some (HO.lst [V.non, .bl true, .bl false, .str "0", .str "", .ref t1, .ref t2, .ref t3, .ref t4, .int (-1), .int (10 ^ (29 : Int).toNat), .int 99, .ref t6, .ref t7, .int 500]) := upd_same
    have p8 := p7.keep s8
    have nLa := p7.ne nL
    have D1 := D1.same s8
    have D2 := D2.same s8
    have D3 := D3.same s8
    have D4 := D4.same s8
    have D5 := D5.same s8
    have D6 := D6.same s8
    have D7 := D7.same s8
    generalize upd H7 L (HO.lst [V.non, .bl true, .bl false, .str "0", .str "", .ref t1, .ref t2, .ref t3, .ref t4, .int (-1), .int (10 ^ (29 : Int).toNat), .int 99, .ref t6, .ref t7, .int 500]) = H8 at s8 eL p8 D1 D2 D3 D4 D5 D6 D7 ⊢
    have s08 := ((((((s1.trans s2).trans s3).trans s4).trans s5).trans s6).trans s7).trans s8
    dsimp only [List.set]
    refine ⟨.ref a, rfl, .ref L, rfl, a, L, _, c, rfl, p8, nLa, .inl (.inl (.inl eL)), (show 1 ≤ 15 by decide), (show 15 ≤ 1000000 by decide), by omega, fun x H9 hx b9 p9 => ?_⟩
    have hx' : ∃ d, DaN (EX a H) H8 x d ∧ Sm d 1100 3 ∧ OdP d := by
      simp only [List.mem_cons, List.not_mem_nil, or_false] at hx
      rcases hx with rfl | rfl | rfl | rfl | rfl | rfl | rfl | rfl | rfl | rfl | rfl | rfl | rfl | rfl | rfl
      · exact ⟨_, .non, Sm.none.mono (by decide) (by decide), ⟨rfl, fun i z => by cases z⟩⟩
      · exact ⟨_, .bl _, (Sm.bool _).mono (by decide) (by decide), ⟨rfl, fun i z => by cases z⟩⟩
      · exact ⟨_, .bl _, (Sm.bool _).mono (by decide) (by decide), ⟨rfl, fun i z => by cases z⟩⟩
      · exact ⟨_, .str _, ⟨by decide +kernel, by decide +kernel, by decide +kernel, by decide +kernel⟩, ⟨rfl, fun i z => by cases z⟩⟩
      · exact ⟨_, .str _, ⟨by decide +kernel, by decide +kernel, by decide +kernel, by decide +kernel⟩, ⟨rfl, fun i z => by cases z⟩⟩
      · exact ⟨_, D1, ⟨by decide +kernel, by decide +kernel, by decide +kernel, by decide +kernel⟩, ⟨rfl, fun i z => by cases z⟩⟩
      · exact ⟨_, D2, ⟨by decide +kernel, by decide +kernel, by decide +kernel, by decide +kernel⟩, ⟨rfl, fun i z => by cases z⟩⟩
      · exact ⟨_, D3, ⟨by decide +kernel, by decide +kernel, by decide +kernel, by decide +kernel⟩, ⟨rfl, fun i z => by cases z⟩⟩
      · exact ⟨_, D4, ⟨by decide +kernel, by decide +kernel, by decide +kernel, by decide +kernel⟩, ⟨rfl, fun i z => by cases z⟩⟩
      · exact ⟨_, .int _, (Sm.int (by decide +kernel)).mono (by decide) (by decide), rfl, fun i z => by cases z; exact .inl (by decide)⟩
      · exact ⟨_, .int _, (Sm.int (by decide +kernel)).mono (by decide) (by decide), rfl, fun i z => by cases z; exact .inr (by decide +kernel)⟩
      · exact ⟨_, .int _, (Sm.int (by decide +kernel)).mono (by decide) (by decide), rfl, fun i z => by cases z; exact .inr (by decide)⟩
      · exact ⟨_, D6, ⟨by decide +kernel, by decide +kernel, by decide +kernel, by decide +kernel⟩, ⟨rfl, fun i z => by cases z⟩⟩
      · exact ⟨_, D7, ⟨by decide +kernel, by decide +kernel, by decide +kernel, by decide +kernel⟩, ⟨rfl, fun i z => by cases z⟩⟩
      · exact ⟨_, .int _, (Sm.int (by decide +kernel)).mono (by decide) (by decide), rfl, fun i z => by cases z; exact .inr (by decide)⟩
    obtain ⟨dx, Dx, Sx, Ox⟩ := hx'
    have Dx' := DaN.but Dx p8 b9
    have b0 : But a H H9 := (But.of s08).trans b9
    clear D1 D2 D3 D4 D5 D6 D7
    dsimp only [List.set]
    refine ⟨.ref a, rfl, (show 4 ≤ sizeLine by decide), fun O nO mO => ?_⟩
    have nOa := p9.ne nO
    refine ⟨a, O, _, _, rfl, pot_upd p9 nOa, nOa, .inl (.inl (.inl upd_same)), (show 1 ≤ 4 by decide), (show 4 ≤ 1000000 by decide), by omega, fun y H12 hy b12 p12 => ?_⟩
    have b912 : But a H9 H12 := fun b o ne e => b12 b o ne (same_new nO _ _ e)
    have hy' : ∃ m : Int, y = .int m ∧ 0 ≤ m ∧ m ≤ 18 := by
      simp only [List.mem_cons, List.not_mem_nil, or_false] at hy
      rcases hy with rfl | rfl | rfl | rfl
      · exact ⟨_, rfl, by decide, by decide⟩
      · exact ⟨_, rfl, by decide, by decide⟩
      · exact ⟨_, rfl, by decide, by decide⟩
      · exact ⟨_, rfl, by decide, by decide⟩
    obtain ⟨m, rfl, m0, m18⟩ := hy'
    refine ⟨m, rfl, by omega, by omega, for_it walk_range (fun i σ H' => (∃ (v : V) (d : PyData) (u3 : Option V), σ = [some (.ref a), some (.ref L), some v, u3] ∧ DaN (EX a H) H' v d ∧ Sm d (1100 + 10 * i) (3 + i) ∧ OdP d) ∧ But a H12 H' ∧ PotAt H' a (c + 2 + i)) ⟨⟨x, dx, none, rfl, DaN.but Dx' p9 b912, Sx, Ox⟩, (fun _ _ _ e => e), p12⟩ (fun _ _ _ _ _ => trivial) (fun i v σ H13' H13 hi p y => ?_) (fun σ H13 p => ?_)⟩
    · obtain ⟨⟨v', d', u3, rfl, Dv, Sv, Ov⟩, b13, p13⟩ := p
      obtain ⟨rfl, rfl⟩ := y
      have wv := Sv.wt
      refine ⟨v', rfl, (show 1 ≤ sizeLine by decide), fun w1 l1 => ?_⟩
      obtain ⟨f1, F1⟩ := new_tupN (E := EX a H) l1 (.cons Dv .nil)
      have g1 := p13.keep f1
      have Dv1 := Dv.same f1
      have bI := but_same ((b0.trans b912).trans b13) f1
      generalize upd H13 w1 (.tup [v']) = I1 at f1 F1 g1 Dv1 bI ⊢
      refine ⟨v', rfl, (show 1 ≤ sizeLine by decide), fun w2 l2 e2 => ?_⟩
      obtain ⟨f2, F2⟩ := new_lstN bI l2 e2 g1 (.cons Dv1 .nil)
      have g2 := g1.keep f2
      have F1' := F1.same f2
      generalize upd I1 w2 (.lst [v']) = I2 at f2 F2 g2 F1' ⊢
      refine ⟨(show 2 ≤ sizeLine by decide), fun w4 l4 _ => ?_⟩
      have f4 := same_new (o := HO.lst [V.ref w1, .ref w2]) l4
      have e4 : (upd I2 w4 (HO.lst [V.ref w1, .ref w2])) w4 = some (HO.lst [V.ref w1, .ref w2]) := upd_same
      have g4 := g2.keep f4
      have n4 := g2.ne l4
      have F1 := F1'.same f4
      have F2 := F2.same f4
      generalize upd I2 w4 (HO.lst [V.ref w1, .ref w2]) = I4 at f4 e4 g4 F1 F2 ⊢
      have f14 := (f1.trans f2).trans f4
      refine ⟨.ref a, rfl, a, 2, _, rfl, g4, by decide, by decide, by omega, fun z H14 b14 p14 z0' z2 => ?_⟩
      have e14 := b14 _ _ n4 e4
      have fin : ∀ (u : Addr) (du : PyData), DaN (EX a H) I4 (.ref u) du → Sm du (1100 + 10 * (i + 1)) (3 + (i + 1)) → OdP du → (∃ (v : V) (d : PyData) (u3 : Option V), [some (V.ref a), some (.ref L), some (.ref u), some (.int (0 + (i : Int)))] = [some (.ref a), some (.ref L), some v, u3] ∧ DaN (EX a H) H14 v d ∧ Sm d (1100 + 10 * (i + 1)) (3 + (i + 1)) ∧ OdP d) ∧ But a H12 H14 ∧ PotAt H14 a (c + 2 + (i + 1)) := fun u du h1 h2 h3 => ⟨⟨_, du, _, rfl, DaN.but h1 g4 b14, h2, h3⟩, (but_same b13 f14).trans b14, p14⟩
      have hw : PyData.weightAll [d'] ≤ 1100 + 10 * (i + 1) := by
        simp only [PyData.weightAll]
        omega
      rcases (show z = 0 ∨ z = 1 by omega) with rfl | rfl
      · exact ⟨w4, _, 0, .ref w1, rfl, rfl, .inl (.inl e14), atI_nat (j := 0) rfl, fin w1 _ F1 (Sm.tup (SmE.one Sv) hw) ⟨rfl, fun i z => by cases z⟩⟩
      · exact ⟨w4, _, 1, .ref w2, rfl, rfl, .inl (.inl e14), atI_nat (j := 1) rfl, fin w2 _ F2 (Sm.lst (SmE.one Sv) hw) ⟨rfl, fun i z => by cases z⟩⟩
    · obtain ⟨⟨v', d', u3, rfl, Dv, Sv, Ov⟩, b13, p13⟩ := p
      have m' : (m - 0).toNat ≤ 18 := by omega
      exact ⟨v', rfl, q v' d' H13 ((b0.trans b912).trans b13) (p13.mono (by omega)) Dv (Sv.mono (by omega) (by omega)) Ov⟩
end
end K61

set_option Elab.async false
set_option linter.all false
set_option maxRecDepth 100000
set_option maxHeartbeats 4000000
/-! tuple * int, once or more: once is the tuple itself. -/
namespace NB
open PySem PySem.Spec PyProof.Rows L2
theorem tuple_mul1 (l : Addr) (items : Array Value) (n : Nat) (dd : Option Addr) (sl : Array (Option Value)) (u : Tok) :
    Meets (Builtin.«tuple.__mul__» ⟨[.ref l, .int 1 u], []⟩) (fun _ R s => s.heap.get? l = some { cls := .type "tuple", dict := dd, data := .seq items n, slots := sl } ∧ R (.ok (.ret (Value.ref l))) s) :=
  .of_wp fun prog w A R s h => by
    obtain ⟨hp, g, d, tk, os⟩ := s
    obtain ⟨hl, h⟩ := h
    have f1 := AutoSeq1.idx_int
    have c0 : (decide ((1 : Int) < -(2 ^ 63)) || decide ((1 : Int) ≥ 2 ^ 63)) = false := by decide
    have c1 : (items.isEmpty || (1 : Int) == 1) = true := by rw [show ((1 : Int) == 1) = true from rfl, Bool.or_true]
    wp_walk using wpAny_loadPart' hl
    repeat (first
      | (refine wpAny_ite_false (decide_eq_false (by rw [c0]; exact Bool.false_ne_true)) ?_; wp_walk using wpAny_loadPart' hl)
      | (refine wpAny_ite_true (decide_eq_true (by rw [c1])) ?_; wp_walk using wpAny_loadPart' hl))
    exact ⟨_, rfl, h⟩
def rRepT1 (K : PySem.W.Frag) : R2 := fun x y H Q => ∃ l k xs, x = .ref l ∧ y = .int k ∧ SqT K H l xs ∧ xs ≠ [] ∧ 1 ≤ k ∧ k ≤ 1000 ∧ xs.length ≤ 1000 ∧ (k = 1 → Q (.ref l) H) ∧ (2 ≤ k → ∀ p, H p = none → Q (.ref p) (upd H p (.tup (List.replicate k.toNat xs).flatten)))
section
variable {X : Cx}
theorem op_repT1 : OpR X (binaryOp .Mult) (rRepT1 X.K) := by
  intro pins s σ H x y v u Q I rx ry h
  obtain ⟨l, k, xs, rfl, rfl, hT, hne, h1, h2, hz, q1, q2⟩ := h
  by_cases k2 : 2 ≤ k
  · exact op_repT pins s σ H _ _ v u Q I rx ry ⟨l, k, xs, rfl, rfl, hT, hne, k2, h2, hz, q2 k2⟩
  · obtain rfl : k = 1 := by omega
    cases rx
    obtain ⟨t, rfl⟩ := ry
    obtain ⟨its, r, ⟨⟨cls, dd, data, sl⟩, ho, hc, n, hd⟩, hs⟩ := I.tuple hT
    simp only at hc hd
    subst hc hd
    refine wpAny_binaryOp_repeat_ref (T := "tuple") (U := "int") (by decide) ⟨_, ho, rfl⟩ (fun s' => typeIs_int s' 1 t) noFill_tuple_mul F.fills_int_mul F.slot_int_rmul repeat_tuple F.slot_int_index.lookup
      (call_meets F.slot_int_rmul (typeIs_int s 1 t) F.entry_int_rmul (F.args_int_rmul_2 _ _) (int_rmul_tuple 1 t l its.toArray n dd sl)
        ⟨ho, rfl, ⟨_, ho, rfl⟩, call_meets F.slot_tuple_mul ⟨_, ho, rfl⟩ F.entry_tuple_mul (F.args_tuple_mul_2 _ _) (tuple_mul1 l its.toArray n dd sl t) ⟨ho, ?_⟩⟩)
    exact ⟨.ref l, H, I, rfl, q1 rfl⟩
end
end NB

set_option Elab.async false
set_option linter.all false
set_option maxRecDepth 100000
namespace K61
open PySem PySem.Spec PyProof.Rows L2 NB

/-! ### what is no letter for a hand -/
theorem smTup {ds : List PyData} {w k v m : Nat} (h : ∀ d ∈ ds, Sm d w k) (hw : (w + 1) * ds.length ≤ v) (hk : k + 1 ≤ m) : Sm (.tuple ds) v m := by
  have hl : PyData.weightAll ds ≤ (w + 1) * ds.length := by
    clear hw
    induction ds with
    | nil => exact Nat.le_refl _
    | cons d ds ih =>
      have h1 := (h d List.mem_cons_self).wt
      have h2 := ih fun e he => h e (List.mem_cons_of_mem _ he)
      simp only [PyData.weightAll, List.length_cons, Nat.mul_add]
      omega
  exact (Sm.tup (k := k) (fun d hd => (h d hd).e) (Nat.le_trans hl hw)).mono (Nat.le_refl _) hk
theorem smLst {ds : List PyData} {w k v m : Nat} (h : ∀ d ∈ ds, Sm d w k) (hw : (w + 1) * ds.length ≤ v) (hk : k + 1 ≤ m) : Sm (.list ds) v m := by
  have hl : PyData.weightAll ds ≤ (w + 1) * ds.length := by
    clear hw
    induction ds with
    | nil => exact Nat.le_refl _
    | cons d ds ih =>
      have h1 := (h d List.mem_cons_self).wt
      have h2 := ih fun e he => h e (List.mem_cons_of_mem _ he)
      simp only [PyData.weightAll, List.length_cons, Nat.mul_add]
      omega
  exact (Sm.lst (k := k) (fun d hd => (h d hd).e) (Nat.le_trans hl hw)).mono (Nat.le_refl _) hk
theorem smn {w k : Nat} : ∀ e ∈ ([] : List PyData), Sm e w k := fun _ h => absurd h List.not_mem_nil
theorem smc {d : PyData} {ds : List PyData} {w k : Nat} (h : Sm d w k) (t : ∀ e ∈ ds, Sm e w k) : ∀ e ∈ d :: ds, Sm e w k := fun e he => by
  rcases List.mem_cons.mp he with rfl | he
  · exact h
  · exact t e he
theorem l4 {s a b c : PyData} : letterD (.tuple [s, a, b, c]) = ((strIs "ask" s || strIs "leave" s) && ((countD a && countD b) && (noneD c || wishD c))) := rfl
theorem l4s {s a b c : PyData} (h : (strIs "ask" s || strIs "leave" s) = false) : letterD (.tuple [s, a, b, c]) = false := by rw [l4, h]; rfl
theorem l4a {s a b c : PyData} (h : countD a = false) : letterD (.tuple [s, a, b, c]) = false := by rw [l4, h]; simp
theorem l4b {s a b c : PyData} (h : countD b = false) : letterD (.tuple [s, a, b, c]) = false := by rw [l4, h]; simp
theorem l2w {s c : PyData} (h : wishD c = false) : letterD (.tuple [s, c]) = false := by
  show (strIs "word" s && wishD c) = false
  rw [h, Bool.and_false]
/-- no letter, or one whose wish has no place for the thing -/
def NlP (H : Hp) (a : Addr) (th : Nat) (v : V) : Prop := ∃ d, Da a H v d ∧ Sm d 80000 30 ∧ (letterD d = false ∨ ∃ b l w, v = .ref b ∧ d = ltD l ∧ LetAt H b l ∧ LetP l ∧ l.2.2 = some w ∧ w.2.length ≤ th)
def NlA (H : Hp) (a : Addr) (th : Nat) (xs : List V) : Prop := ∀ v ∈ xs, NlP H a th v
theorem But.tkP {a : Addr} {H H' : Hp} {c : Nat} (b : But a H H') (p : PotAt H a c) : TupK H H' := fun x xs e => b _ _ (fun z => by
  obtain ⟨_, _, _, e2, _⟩ := p
  rw [z, e2] at e
  cases e) e
theorem NlA.but {H H' : Hp} {a : Addr} {th c : Nat} {xs : List V} (h : NlA H a th xs) (p : PotAt H a c) (b : But a H H') : NlA H' a th xs := fun v hv => by
  obtain ⟨d, h1, h2, h3⟩ := h v hv
  refine ⟨d, da_but h1 p b, h2, h3.imp id ?_⟩
  rintro ⟨b', l, w, h4, h5, h6, h7⟩
  exact ⟨b', l, w, h4, h5, h6.tk (b.tkP p), h7⟩
theorem NlA.app {H : Hp} {a : Addr} {th : Nat} {xs ys : List V} (h : NlA H a th xs) (h' : NlA H a th ys) : NlA H a th (xs ++ ys) := fun v hv => by
  rcases List.mem_append.mp hv with q | q
  · exact h v q
  · exact h' v q
theorem rep_zero : ∀ k : Nat, (List.replicate k [V.int 0]).flatten = (List.replicate k (0 : Int)).map V.int
  | 0 => rfl
  | k + 1 => by rw [List.replicate_succ, List.replicate_succ, List.flatten_cons, List.map_cons, rep_zero k]; rfl
theorem nat90 {i : Int} (h0 : 0 ≤ i) (h1 : i < 10 ^ 30) : i.natAbs < 10 ^ 90 := by
  have : (i.natAbs : Int) < 10 ^ 30 := by omega
  have : i.natAbs < 10 ^ 30 := by omega
  exact Nat.lt_of_lt_of_le this (by decide)
/-- a wish of k places, none of them far -/
theorem shW {x : Int} {k : Nat} (h0 : 1 ≤ x) (h1 : x < 10 ^ 30) (k1 : 1 ≤ k) (k2 : k ≤ 12) : WiP (x, List.replicate k 0) := ⟨h0, h1, by
  show List.replicate k (0 : Int) ≠ []
  intro z
  have := congrArg List.length z
  rw [List.length_replicate] at this
  simp at this
  omega, by show (List.replicate k (0 : Int)).length ≤ 12; rw [List.length_replicate]; exact k2, fun y hy => by
  rw [List.eq_of_mem_replicate hy]
  exact ⟨by decide, by decide⟩⟩
theorem shS {x : Int} {k : Nat} (h0 : 1 ≤ x) (h1 : x < 10 ^ 30) (k2 : k ≤ 12) : Sm (wiD (some (x, List.replicate k 0))) 8000 3 := by
  have z : ∀ y ∈ List.replicate k (0 : Int), y.natAbs < 10 ^ 90 := fun y hy => by
    rw [List.eq_of_mem_replicate hy]
    decide
  have w0 := wt_ints z
  rw [List.length_replicate] at w0
  have h2 : Sm (.tuple ((List.replicate k (0 : Int)).map PyData.int)) 3800 1 := (Sm.tup (SmE.ints z) (Nat.le_refl _)).mono (by omega) (Nat.le_refl _)
  exact smTup (w := 3800) (k := 1) (smc ((Sm.int (nat90 (by omega) h1)).mono (by decide) (by decide)) (smc h2 smn)) (by show (3800 + 1) * 2 ≤ 8000; decide) (by decide)
theorem shN {H : Hp} {a b : Addr} {l : Lt} {th k : Nat} {x : Int} (h0 : 1 ≤ x) (h1 : x < 10 ^ 30) (k1 : 1 ≤ k) (k2 : k ≤ 12) (kt : k ≤ th) (e : LetAt H b l) (ho : l.2.2 = some (x, List.replicate k 0)) (hp : LetP l) (sm : Sm (ltD l) 80000 30) : NlP H a th (.ref b) :=
  ⟨ltD l, da_let e, sm, .inr ⟨b, l, _, rfl, rfl, e, hp, ho, by show (List.replicate k (0 : Int)).length ≤ th; rw [List.length_replicate]; exact kt⟩⟩
def spNls (C : Addr) : Sp := fun vs H Q _ => ∃ (a x D T R : Addr) (h : Hd) (kvs : List (Key × V)) (ns : List Int) (c : Nat), vs = [.ref a, .ref x, .ref R] ∧ PotAt H a c ∧ c < 900000 ∧ HandAt C H x D T h ∧ h.thing ≤ 11 ∧ H R = some (.dK kvs) ∧ kvs.map (·.1) = ns.map Sum.inl ∧ ns.length ≤ 5 ∧ (∀ n ∈ ns, 0 ≤ n ∧ n ≤ 98) ∧
  ∀ H' L xs, But a H H' → PotAt H' a (c + 200) → H L = none → L ≠ a → H' L = some (.lst xs) → NlA H' a h.thing xs → xs.length ≤ 80 → Q (.ref L) H'
/-- things of any kind, so many, in a list that grows -/
def Od6 (a Dd : Addr) (H2 : Hp) (c j : Nat) (ys : List V) (H' : Hp) : Prop := But a H2 H' ∧ PotAt H' a (c + 20 * j) ∧ H' Dd = some (.lst ys) ∧ ys.length = j ∧ ∀ u ∈ ys, ∃ d, DaN (fun z => z = a ∨ z = Dd) H' u d ∧ Sm d 1300 21 ∧ OdP d
theorem od_zero {a Dd : Addr} {H2 : Hp} {c c' : Nat} (p : PotAt H2 a c') (cc : c' ≤ c) (nD : H2 Dd = none) : Od6 a Dd H2 c 0 [] (upd H2 Dd (.lst [])) :=
  ⟨But.of (same_new nD), (p.keep (same_new nD)).mono (by omega), upd_same, rfl, fun _ h => absurd h List.not_mem_nil⟩
theorem od_step {a Dd : Addr} {H2 H5 H7 : Hp} {c j : Nat} {ys : List V} {v : V} {d : PyData} (na : Dd ≠ a) (nD : H2 Dd = none) (h : Od6 a Dd H2 c j ys H5) (b : But a H5 H7) (p : PotAt H7 a (c + 20 * j + 20)) (dv : DaN (EX a H5) H7 v d) (sm : Sm d 1300 21) (od : OdP d) : H7 Dd = some (.lst ys) ∧ Od6 a Dd H2 c (j + 1) (ys ++ [v]) (upd H7 Dd (.lst (ys ++ [v]))) := by
  obtain ⟨b2, p2, e, l, g⟩ := h
  have e7 := b _ _ na e
  have k : ∀ x o, x ≠ Dd → H7 x = some o → (upd H7 Dd (HO.lst (ys ++ [v]))) x = some o := fun x o nx h => by rw [upd_ne nx]; exact h
  refine ⟨e7, ?_, ?_, upd_same, by rw [List.length_append, l]; rfl, fun u hu => ?_⟩
  · intro x o nx h
    exact k _ _ (fun z => by rw [z, nD] at h; cases h) ((b2.trans b) x o nx h)
  · exact pot_upd (p.mono (by omega)) na
  · rcases List.mem_append.mp hu with hu | hu
    · obtain ⟨d', h1, h2, h3⟩ := g u hu
      exact ⟨d', (h1.butE (.inl rfl) p2 b).pushE (.inr rfl) e7 k, h2, h3⟩
    · rw [List.mem_singleton.mp hu]
      have dv' : DaN (fun z => z = a ∨ z = Dd) H7 v d := fun z y => dv z (by
        rcases y with y | y
        · exact .inl y
        · refine .inr ?_
          rw [y, e]
          exact fun z => nomatch z)
      exact ⟨d, dv'.pushE (.inr rfl) e7 k, sm, od⟩
theorem Od6.nl {a Dd : Addr} {H2 H' : Hp} {c j th : Nat} {ys : List V} (h : Od6 a Dd H2 c j ys H') : NlA H' a th ys := fun v hv => by
  obtain ⟨d, h1, h2, h3⟩ := h.2.2.2.2 v hv
  exact ⟨d, h1 a (.inl rfl), h2.mono (by decide) (by decide), .inl h3.1⟩
end K61

set_option Elab.async false
set_option linter.all false
set_option maxRecDepth 100000
namespace K61
open PySem PySem.Spec PyProof.Rows L2 NB

section
variable {P : Program} {w : World} {K : PySem.W.Frag} {mg : Str → Option Value} {base : Heap}
abbrev a__law_no_letters : Stmt := topS 31
abbrev n__law_no_letters : List Str := ["_law_pot_here", "_law_hand", "_law_rules", "_law_number", "_law_wish", "_law_some", "_law_many", "_law_short", "_law_turn"]
theorem sc__law_no_letters : FnScope n__law_no_letters ["_law_pot_here", "_law_hand", "_law_rules"] (defScope a__law_no_letters) := ⟨rfl, rfl, rfl, by decide +kernel, rfl, by decide +kernel, by decide +kernel⟩
set_option maxHeartbeats 8000000 in
theorem ok__law_no_letters {f fO fOd : Addr} {fd fdO fdOd : FuncData} {k : Nat} {C : Addr} (F : Fun K "_law_no_letters" "_law_no_letters" a__law_no_letters f fd) (O : Kn P w K mg base 2 "_law_of" ["_law_pot_here", "_law_some"] (spOf K) fO fdO) (Od : Kn P w K mg base 3 "_law_odd" ["_law_pot_here"] spOdd fOd fdOd) (X : HandTxt K C) (m_range : mg "range" = none) (m_sorted : mg "sorted" = none) (m_tuple : mg "tuple" = none) : FnOk P w K mg base CX0 (k + 4) f fd ["_law_pot_here", "_law_hand", "_law_rules"] (spNls C) := by
  refine F.ok sc__law_no_letters (fun vs H Q E h => ?_) (fun cdv A outer s H vs Q E hr h => ?_)
  · obtain ⟨a, x, D, T, R, h, kvs, ns, c, rfl, _⟩ := h
    rfl
  · obtain ⟨a, x, D, T, R, h, kvs, ns, c, rfl, pa, hc, ha, th, eR, ky, l5, nb, q⟩ := h
    refine ⟨_, (pss_cons (ps_set (i := 3) sc__law_no_letters.nd rfl (.inl rfl) (pe_kn O hr (by omega) (pa_cons (pv 0) (pa_cons (pe_op op_cat (pe_callB (call_sortedDI rfl) (by rfl) m_sorted (by decide +kernel) (pa_cons (pv 2) pa_nil)) (pe_lstN (pa_cons pe_int pa_nil))) pa_nil))))
      (pss_cons (ps_set (i := 4) sc__law_no_letters.nd rfl (.inl rfl) (pe_tup (pa_cons (pe_op op_pow pe_int pe_int) (pa_cons (pe_callTy call_tuple_of (by rfl) m_tuple (by decide +kernel) (pa_cons (pe_op op_rep (pe_lstN (pa_cons pe_int pa_nil)) pe_int) pa_nil)) pa_nil))))
      (pss_cons (ps_set (i := 5) sc__law_no_letters.nd rfl (.inl rfl) (pe_lstN (pa_cons (pe_tup (pa_cons pe_str (pa_cons (pv 3) (pa_cons pe_int pa_nil)))) (pa_cons (pe_tup (pa_cons pe_str (pa_cons (pv 3) (pa_cons pe_int (pa_cons (pv 4) (pa_cons pe_int pa_nil)))))) (pa_cons (pe_tup (pa_cons pe_str (pa_cons pe_non pa_nil))) (pa_cons (pe_tup (pa_cons pe_str (pa_cons (pv 3) (pa_cons pe_int (pa_cons (pv 4) pa_nil))))) pa_nil))))))
      (pss_cons (ps_set (i := 5) sc__law_no_letters.nd rfl (.inl rfl) (pe_op op_cat (pv 5) (pe_lstN (pa_cons (pe_lstN (pa_cons pe_str (pa_cons (pv 4) pa_nil))) (pa_cons (pe_tup (pa_cons pe_str (pa_cons (pe_un un_neg pe_int) (pa_cons pe_int (pa_cons (pv 4) pa_nil))))) (pa_cons (pe_tup (pa_cons pe_str (pa_cons (pv 3) (pa_cons pe_bl (pa_cons (pv 4) pa_nil))))) (pa_cons (pe_tup (pa_cons pe_str (pa_cons (pe_lstN (pa_cons (pv 4) pa_nil)) pa_nil))) pa_nil)))))))
      (pss_cons (ps_set (i := 5) sc__law_no_letters.nd rfl (.inl rfl) (pe_op op_cat (pv 5) (pe_lstN (pa_cons (pe_tup (pa_cons pe_str (pa_cons (pv 3) (pa_cons pe_str (pa_cons pe_non pa_nil))))) (pa_cons (pe_tup (pa_cons pe_str (pa_cons (pe_tup (pa_cons pe_int (pa_cons (pe_op op_repT1 (pe_tup (pa_cons pe_int pa_nil)) pe_int) pa_nil))) pa_nil))) (pa_cons (pe_tup (pa_cons pe_str (pa_cons (pe_tup (pa_cons pe_int (pa_cons (pe_tup pa_nil) pa_nil))) pa_nil))) pa_nil))))))
      (pss_cons (ps_set (i := 5) sc__law_no_letters.nd rfl (.inl rfl) (pe_op op_cat (pv 5) (pe_lstN (pa_cons (pe_tup (pa_cons pe_str (pa_cons (pe_tup (pa_cons pe_int (pa_cons (pe_op op_repT1 (pe_tup (pa_cons pe_int pa_nil)) pe_int) pa_nil))) pa_nil))) (pa_cons (pe_tup (pa_cons pe_str (pa_cons pe_non (pa_cons pe_int (pa_cons (pv 4) pa_nil))))) pa_nil)))))
      (pss_cons (ps_for PassesOwn.never rfl (pi_range2 (by rfl) m_range (pa_cons pe_int (pa_cons (pe_op op_add (pe_fld (pv 1) rfl) pe_int) pa_nil))) (pg_name (i := 6) sc__law_no_letters.nd rfl (.inl rfl))
        (pss_cons (ps_set (i := 7) sc__law_no_letters.nd rfl (.inl rfl) (pe_tup (pa_cons (pe_op op_add (pe_op op_pow pe_int pe_int) (pv 6)) (pa_cons (pe_op op_repT1 (pe_tup (pa_cons pe_int pa_nil)) (pv 6)) pa_nil))))
      (pss_one (ps_set (i := 5) sc__law_no_letters.nd rfl (.inl rfl) (pe_op op_cat (pv 5) (pe_lstN (pa_cons (pe_tup (pa_cons pe_str (pa_cons (pv 7) pa_nil))) (pa_cons (pe_tup (pa_cons pe_str (pa_cons (pv 3) (pa_cons pe_int (pa_cons (pv 7) pa_nil))))) (pa_cons (pe_tup (pa_cons pe_str (pa_cons (pv 3) (pa_cons pe_int (pa_cons (pv 7) pa_nil))))) pa_nil)))))))))
      (pss_one (ps_ret (pe_op op_cat (pv 5) (
        pe_lc (own := [("_law_turn", 8)]) (g := (gName 8)) (tt := tYes) (te := (tCall spOdd [] E0 (tCons (tVar 0) tNil))) rfl sc__law_no_letters.nd (pi_range1 (by rfl) m_range (pa_cons pe_int pa_nil)) (blkOk_by (N := n__law_no_letters) (sc := defScope a__law_no_letters) (by decide +kernel))
          (fun _ _ _ _ _ => (pg_name (i := 8) sc__law_no_letters.nd rfl (.inl rfl) (hf := .inr rfl))) (fun _ _ _ _ _ => pts_nil) (fun _ _ _ _ _ => (pe_kn Od hr (by omega) (pa_cons (pv 0) pa_nil)))))))))))))), ?_⟩
    obtain ⟨dx, v, hs, i0, wv, _⟩ := id ha
    refine ⟨.ref a, rfl, .ref R, rfl, R, kvs, ns, rfl, .inl eR, ky, by omega, fun zs S pm pw nS => ?_⟩
    have s1 := same_new (o := HO.lst (zs.map V.int)) nS
    have eS : (upd H S (HO.lst (zs.map V.int))) S = some (HO.lst (zs.map V.int)) := upd_same
    have p1 := pa.keep s1
    generalize upd H S (HO.lst (zs.map V.int)) = H1 at s1 eS p1 ⊢
    refine ⟨(show 1 ≤ sizeLine by decide), fun M nM mM => ?_⟩
    have s2 := same_new (o := HO.lst [V.int 0]) nM
    have eM : (upd H1 M (HO.lst [V.int 0])) M = some (HO.lst [V.int 0]) := upd_same
    have p2 := p1.keep s2
    have eS2 := s2 _ _ eS
    generalize upd H1 M (HO.lst [V.int 0]) = H2 at s2 eM p2 eS2 ⊢
    have lz : zs.length ≤ 5 := by rw [pm.length_eq]; exact l5
    refine ⟨S, M, _, _, rfl, rfl, eS2, eM, by rw [List.length_map]; exact small1000 (show zs.length ≤ 1000 by omega), fun N nN => ?_⟩
    have s3 := same_new (o := HO.lst (zs.map V.int ++ [V.int 0])) nN
    have eN : (upd H2 N (HO.lst (zs.map V.int ++ [V.int 0]))) N = some (HO.lst (zs.map V.int ++ [V.int 0])) := upd_same
    have p3 := p2.keep s3
    have nNa := p2.ne nN
    generalize upd H2 N (HO.lst (zs.map V.int ++ [V.int 0])) = H3 at s3 eN p3 ⊢
    refine ⟨a, N, _, c, rfl, p3, nNa, .inl (.inl (.inl eN)), by rw [List.length_append, List.length_map]; simp, by rw [List.length_append, List.length_map]; show zs.length + 1 ≤ 1000000; omega, by omega, fun u H5 hu b5 p5 => ?_⟩
    have b5' : But a H H5 := (But.of ((s1.trans s2).trans s3)).trans b5
    have hn : ∃ m : Int, u = .int m ∧ 0 ≤ m ∧ m ≤ 98 := by
      rcases List.mem_append.mp hu with z | z
      · obtain ⟨m, hm, rfl⟩ := List.mem_map.mp z
        exact ⟨m, rfl, nb m (pm.mem_iff.mp hm)⟩
      · rw [List.mem_singleton.mp z]
        exact ⟨0, rfl, by decide, by decide⟩
    obtain ⟨m, rfl, m0, m98⟩ := hn
    have hn9 : m.natAbs < 10 ^ 90 := Nat.lt_of_le_of_lt (show m.natAbs ≤ 98 by omega) (by decide)
    clear eS eS2 eM eN
    dsimp only [List.set]
    refine ⟨10, 9, rfl, rfl, ⟨by decide, by decide, by decide⟩, (show 1 ≤ sizeLine by decide), fun Z1 nz1 mz1 => ?_⟩
    have z1 := same_new (o := HO.lst [V.int 0]) nz1
    have ez : (upd H5 Z1 (HO.lst [V.int 0])) Z1 = some (HO.lst [V.int 0]) := upd_same
    have pz := p5.keep z1
    generalize upd H5 Z1 (HO.lst [V.int 0]) = HZ at z1 ez pz ⊢
    refine ⟨Z1, 12, [V.int 0], rfl, rfl, ez, by decide, by decide, (show 1 * 12 ≤ sizeLine by decide), fun Z2 nz2 => ?_⟩
    have rep : (List.replicate (12 : Int).toNat [V.int 0]).flatten = (List.replicate 12 (0 : Int)).map V.int := by decide +kernel
    rw [rep]
    have z2 := same_new (o := HO.lst ((List.replicate 12 (0 : Int)).map V.int)) nz2
    have ez2 : (upd HZ Z2 (HO.lst ((List.replicate 12 (0 : Int)).map V.int))) Z2 = some (HO.lst ((List.replicate 12 (0 : Int)).map V.int)) := upd_same
    have pz2 := pz.keep z2
    generalize upd HZ Z2 (HO.lst ((List.replicate 12 (0 : Int)).map V.int)) = HY at z2 ez2 pz2 ⊢
    refine ⟨Z2, _, rfl, .inl ⟨.inl (.inl ez2), fun Z3 nz3 => ?_⟩⟩
    obtain ⟨z3, DZ⟩ := new_tup (n := a) nz3 (DaAll.ints (List.replicate 12 0))
    have pz3 := pz2.keep z3
    have bz := but_same (but_same (but_same b5' z1) z2) z3
    generalize upd HY Z3 (.tup ((List.replicate 12 (0 : Int)).map V.int)) = H6 at z3 DZ pz3 bz ⊢
    refine ⟨(show 2 ≤ sizeLine by decide), fun t7 n7 => ?_⟩
    obtain ⟨s7, D7⟩ := new_tup (n := a) n7 (.cons (.int _) (.cons DZ .nil))
    have p7 := pz3.keep s7
    replace DZ := DZ.same s7
    have B7 := but_same bz s7
    generalize upd H6 t7 (.tup [.int (10 ^ (9 : Int).toNat), .ref Z3]) = H7 at s7 D7 p7 B7 DZ ⊢
    clear bz pz3 s7 n7
    clear DZ
    dsimp only [List.set]
    have sW1 : Sm (.tuple [.int (10 ^ (9 : Int).toNat), .tuple ((List.replicate 12 (0 : Int)).map PyData.int)]) 1000 2 := ⟨by decide +kernel, by decide +kernel, by decide +kernel, by decide +kernel⟩
    have sW : Sm (.tuple [.int (10 ^ (9 : Int).toNat), .tuple ((List.replicate 12 (0 : Int)).map PyData.int)]) 5000 3 := ⟨by decide +kernel, by decide +kernel, by decide +kernel, by decide +kernel⟩
    refine ⟨_, rfl, ?_⟩
    refine ⟨(show 3 ≤ sizeLine by decide), fun t8 n8 => ?_⟩
    obtain ⟨s8, D8⟩ := new_tup (n := a) n8 (.cons (.str _) (.cons (.int _) (.cons (.int _) .nil)))
    have p8 := p7.keep s8
    replace D7 := D7.same s8
    have B8 := but_same B7 s8
    generalize upd H7 t8 (.tup [.str "ask", .int m, .int 0]) = H8 at s8 D8 p8 B8 D7 ⊢
    clear B7 p7 s8 n8
    refine ⟨_, rfl, _, rfl, ?_⟩
    refine ⟨(show 5 ≤ sizeLine by decide), fun t9 n9 => ?_⟩
    obtain ⟨s9, D9⟩ := new_tup (n := a) n9 (.cons (.str _) (.cons (.int _) (.cons (.int _) (.cons D7 (.cons (.int _) .nil)))))
    have p9 := p8.keep s9
    replace D7 := D7.same s9
    replace D8 := D8.same s9
    have B9 := but_same B8 s9
    generalize upd H8 t9 (.tup [.str "ask", .int m, .int 0, .ref t7, .int 0]) = H9 at s9 D9 p9 B9 D7 D8 ⊢
    clear B8 p8 s9 n9
    refine ⟨(show 2 ≤ sizeLine by decide), fun t10 n10 => ?_⟩
    obtain ⟨s10, D10⟩ := new_tup (n := a) n10 (.cons (.str _) (.cons .non .nil))
    have p10 := p9.keep s10
    replace D7 := D7.same s10
    replace D8 := D8.same s10
    replace D9 := D9.same s10
    have B10 := but_same B9 s10
    generalize upd H9 t10 (.tup [.str "word", .non]) = H10 at s10 D10 p10 B10 D7 D8 D9 ⊢
    clear B9 p9 s10 n10
    refine ⟨_, rfl, _, rfl, ?_⟩
    refine ⟨(show 4 ≤ sizeLine by decide), fun t11 n11 => ?_⟩
    obtain ⟨s11, D11⟩ := new_tup (n := a) n11 (.cons (.str _) (.cons (.int _) (.cons (.int _) (.cons D7 .nil))))
    have p11 := p10.keep s11
    replace D7 := D7.same s11
    replace D8 := D8.same s11
    replace D9 := D9.same s11
    replace D10 := D10.same s11
    have B11 := but_same B10 s11
    generalize upd H10 t11 (.tup [.str "Ask", .int m, .int 0, .ref t7]) = H11 at s11 D11 p11 B11 D7 D8 D9 D10 ⊢
    clear B10 p10 s11 n11
    refine ⟨(show 4 ≤ sizeLine by decide), fun M12 n12 m12 => ?_⟩
    have r12 : NlA H11 a h.thing [.ref t8, .ref t9, .ref t10, .ref t11] := fun v hv => by
      simp only [List.mem_cons, List.not_mem_nil, or_false] at hv
      rcases hv with rfl | rfl | rfl | rfl
      · exact ⟨_, D8, (smTup (smc (show Sm (.str "ask") 5000 3 from ⟨rfl, by decide, by decide +kernel, by decide +kernel⟩) (smc ((Sm.int hn9).mono (by decide) (by decide)) (smc ((Sm.int (by decide)).mono (by decide) (by decide)) smn))) (by show (5000 + 1) * 3 ≤ 80000; decide) (by decide)), .inl rfl⟩
      · exact ⟨_, D9, (smTup (smc (show Sm (.str "ask") 5000 3 from ⟨rfl, by decide, by decide +kernel, by decide +kernel⟩) (smc ((Sm.int hn9).mono (by decide) (by decide)) (smc ((Sm.int (by decide)).mono (by decide) (by decide)) (smc sW (smc ((Sm.int (by decide)).mono (by decide) (by decide)) smn))))) (by show (5000 + 1) * 5 ≤ 80000; decide) (by decide)), .inl rfl⟩
      · exact ⟨_, D10, (smTup (smc (show Sm (.str "word") 5000 3 from ⟨rfl, by decide, by decide +kernel, by decide +kernel⟩) (smc (Sm.none.mono (by decide) (by decide)) smn)) (by show (5000 + 1) * 2 ≤ 80000; decide) (by decide)), .inl (l2w rfl)⟩
      · exact ⟨_, D11, (smTup (smc (show Sm (.str "Ask") 5000 3 from ⟨rfl, by decide, by decide +kernel, by decide +kernel⟩) (smc ((Sm.int hn9).mono (by decide) (by decide)) (smc ((Sm.int (by decide)).mono (by decide) (by decide)) (smc sW smn)))) (by show (5000 + 1) * 4 ≤ 80000; decide) (by decide)), .inl (l4s (by decide +kernel))⟩
    clear D8 D9 D10 D11
    have s12 := same_new (o := HO.lst [.ref t8, .ref t9, .ref t10, .ref t11]) n12
    have e12 : (upd H11 M12 (HO.lst [.ref t8, .ref t9, .ref t10, .ref t11])) M12 = some (HO.lst [.ref t8, .ref t9, .ref t10, .ref t11]) := upd_same
    have q12 := NlA.but (r12) p11 (But.of s12)
    have p12 := p11.keep s12
    replace D7 := D7.same s12
    have l12 := p11.ne n12
    have f12 := B11.free l12 n12
    have B12 := but_same B11 s12
    generalize upd H11 M12 (HO.lst [.ref t8, .ref t9, .ref t10, .ref t11]) = H12 at s12 e12 p12 q12 B12 D7 ⊢
    clear B11 p11 s12 n12
    clear r12
    dsimp only [List.set]
    refine ⟨_, rfl, ?_⟩
    refine ⟨_, rfl, ?_⟩
    refine ⟨(show 2 ≤ sizeLine by decide), fun t13 n13 m13 => ?_⟩
    obtain ⟨s13, D13⟩ := new_lst n13 m13 p12 (.cons (.str _) (.cons D7 .nil))
    have p13 := p12.keep s13
    replace D7 := D7.same s13
    have B13 := but_same B12 s13
    replace e12 := s13 _ _ e12
    replace q12 := NlA.but q12 p12 (But.of s13)
    generalize upd H12 t13 (.lst [.str "word", .ref t7]) = H13 at s13 D13 p13 B13 D7 e12 q12 ⊢
    clear B12 p12 s13 n13 m13
    refine ⟨1, rfl, _, rfl, ?_⟩
    refine ⟨(show 4 ≤ sizeLine by decide), fun t14 n14 => ?_⟩
    obtain ⟨s14, D14⟩ := new_tup (n := a) n14 (.cons (.str _) (.cons (.int _) (.cons (.int _) (.cons D7 .nil))))
    have p14 := p13.keep s14
    replace D7 := D7.same s14
    replace D13 := D13.same s14
    have B14 := but_same B13 s14
    replace e12 := s14 _ _ e12
    replace q12 := NlA.but q12 p13 (But.of s14)
    generalize upd H13 t14 (.tup [.str "ask", .int (-1), .int 0, .ref t7]) = H14 at s14 D14 p14 B14 D7 D13 e12 q12 ⊢
    clear B13 p13 s14 n14
    refine ⟨_, rfl, _, rfl, ?_⟩
    refine ⟨(show 4 ≤ sizeLine by decide), fun t15 n15 => ?_⟩
    obtain ⟨s15, D15⟩ := new_tup (n := a) n15 (.cons (.str _) (.cons (.int _) (.cons (.bl _) (.cons D7 .nil))))
    have p15 := p14.keep s15
    replace D7 := D7.same s15
    replace D13 := D13.same s15
    replace D14 := D14.same s15
    have B15 := but_same B14 s15
    replace e12 := s15 _ _ e12
    replace q12 := NlA.but q12 p14 (But.of s15)
    generalize upd H14 t15 (.tup [.str "leave", .int m, .bl true, .ref t7]) = H15 at s15 D15 p15 B15 D7 D13 D14 e12 q12 ⊢
    clear B14 p14 s15 n15
    refine ⟨_, rfl, ?_⟩
    refine ⟨(show 1 ≤ sizeLine by decide), fun t16 n16 m16 => ?_⟩
    obtain ⟨s16, D16⟩ := new_lst n16 m16 p15 (.cons D7 .nil)
    have p16 := p15.keep s16
    replace D7 := D7.same s16
    replace D13 := D13.same s16
    replace D14 := D14.same s16
    replace D15 := D15.same s16
    have B16 := but_same B15 s16
    replace e12 := s16 _ _ e12
    replace q12 := NlA.but q12 p15 (But.of s16)
    generalize upd H15 t16 (.lst [.ref t7]) = H16 at s16 D16 p16 B16 D7 D13 D14 D15 e12 q12 ⊢
    clear B15 p15 s16 n16 m16
    refine ⟨(show 2 ≤ sizeLine by decide), fun t17 n17 => ?_⟩
    obtain ⟨s17, D17⟩ := new_tup (n := a) n17 (.cons (.str _) (.cons D16 .nil))
    have p17 := p16.keep s17
    replace D7 := D7.same s17
    replace D13 := D13.same s17
    replace D14 := D14.same s17
    replace D15 := D15.same s17
    replace D16 := D16.same s17
    have B17 := but_same B16 s17
    replace e12 := s17 _ _ e12
    replace q12 := NlA.but q12 p16 (But.of s17)
    generalize upd H16 t17 (.tup [.str "word", .ref t16]) = H17 at s17 D17 p17 B17 D7 D13 D14 D15 D16 e12 q12 ⊢
    clear B16 p16 s17 n17
    refine ⟨(show 4 ≤ sizeLine by decide), fun M18 n18 m18 => ?_⟩
    have r18 : NlA H17 a h.thing [.ref t13, .ref t14, .ref t15, .ref t17] := fun v hv => by
      simp only [List.mem_cons, List.not_mem_nil, or_false] at hv
      rcases hv with rfl | rfl | rfl | rfl
      · exact ⟨_, D13, (smLst (smc (show Sm (.str "word") 5000 3 from ⟨rfl, by decide, by decide +kernel, by decide +kernel⟩) (smc sW smn)) (by show (5000 + 1) * 2 ≤ 80000; decide) (by decide)), .inl rfl⟩
      · exact ⟨_, D14, (smTup (smc (show Sm (.str "ask") 5000 3 from ⟨rfl, by decide, by decide +kernel, by decide +kernel⟩) (smc ((Sm.int (by decide)).mono (by decide) (by decide)) (smc ((Sm.int (by decide)).mono (by decide) (by decide)) (smc sW smn)))) (by show (5000 + 1) * 4 ≤ 80000; decide) (by decide)), .inl (l4a (by decide))⟩
      · exact ⟨_, D15, (smTup (smc (show Sm (.str "leave") 5000 3 from ⟨rfl, by decide, by decide +kernel, by decide +kernel⟩) (smc ((Sm.int hn9).mono (by decide) (by decide)) (smc ((Sm.bool _).mono (by decide) (by decide)) (smc sW smn)))) (by show (5000 + 1) * 4 ≤ 80000; decide) (by decide)), .inl (l4b rfl)⟩
      · exact ⟨_, D17, (smTup (smc (show Sm (.str "word") 5000 3 from ⟨rfl, by decide, by decide +kernel, by decide +kernel⟩) (smc (smLst (k := 2) (w := 1000) (m := 3) (v := 5000) (smc sW1 smn) (by show (1000 + 1) * 1 ≤ 5000; decide) (by decide)) smn)) (by show (5000 + 1) * 2 ≤ 80000; decide) (by decide)), .inl (l2w rfl)⟩
    clear D13 D14 D15 D16 D17
    have s18 := same_new (o := HO.lst [.ref t13, .ref t14, .ref t15, .ref t17]) n18
    have e18 : (upd H17 M18 (HO.lst [.ref t13, .ref t14, .ref t15, .ref t17])) M18 = some (HO.lst [.ref t13, .ref t14, .ref t15, .ref t17]) := upd_same
    have q18 := NlA.but (r18) p17 (But.of s18)
    have p18 := p17.keep s18
    replace D7 := D7.same s18
    have l18 := p17.ne n18
    have f18 := B17.free l18 n18
    have B18 := but_same B17 s18
    replace e12 := s18 _ _ e12
    replace q12 := NlA.but q12 p17 (But.of s18)
    generalize upd H17 M18 (HO.lst [.ref t13, .ref t14, .ref t15, .ref t17]) = H18 at s18 e18 p18 q18 B18 D7 e12 q12 ⊢
    clear B17 p17 s18 n18
    clear r18
    refine ⟨M12, M18, _, _, rfl, rfl, e12, e18, (show 4 + 4 ≤ sizeLine by decide), fun M19 n19 => ?_⟩
    have s19 := same_new (o := HO.lst ([.ref t8, .ref t9, .ref t10, .ref t11] ++ [.ref t13, .ref t14, .ref t15, .ref t17])) n19
    have e19 : (upd H18 M19 (HO.lst ([.ref t8, .ref t9, .ref t10, .ref t11] ++ [.ref t13, .ref t14, .ref t15, .ref t17]))) M19 = some (HO.lst ([.ref t8, .ref t9, .ref t10, .ref t11] ++ [.ref t13, .ref t14, .ref t15, .ref t17])) := upd_same
    have q19 := NlA.but (NlA.app q12 q18) p18 (But.of s19)
    have p19 := p18.keep s19
    replace D7 := D7.same s19
    have l19 := p18.ne n19
    have f19 := B18.free l19 n19
    have B19 := but_same B18 s19
    generalize upd H18 M19 (HO.lst ([.ref t8, .ref t9, .ref t10, .ref t11] ++ [.ref t13, .ref t14, .ref t15, .ref t17])) = H19 at s19 e19 p19 q19 B19 D7 ⊢
    clear B18 p18 s19 n19
    clear e12 e18 q12 q18
    dsimp only [List.cons_append, List.nil_append] at e19 q19
    dsimp only [List.set]
    refine ⟨_, rfl, ?_⟩
    refine ⟨_, rfl, ?_⟩
    refine ⟨(show 4 ≤ sizeLine by decide), fun t20 n20 => ?_⟩
    obtain ⟨s20, D20⟩ := new_tup (n := a) n20 (.cons (.str _) (.cons (.int _) (.cons (.str _) (.cons .non .nil))))
    have p20 := p19.keep s20
    replace D7 := D7.same s20
    have B20 := but_same B19 s20
    replace e19 := s20 _ _ e19
    replace q19 := NlA.but q19 p19 (But.of s20)
    generalize upd H19 t20 (.tup [.str "leave", .int m, .str "1", .non]) = H20 at s20 D20 p20 B20 D7 e19 q19 ⊢
    clear B19 p19 s20 n20
    refine ⟨(show 1 ≤ sizeLine by decide), fun y20 ny20 => ?_⟩
    have s21 := same_new (o := HO.tup [V.int 0]) ny20
    have e21 : (upd H20 y20 (HO.tup [V.int 0])) y20 = some (.tup [V.int 0]) := upd_same
    have p21 := p20.keep s21
    replace D7 := D7.same s21
    replace D20 := D20.same s21
    have B21 := but_same B20 s21
    replace e19 := s21 _ _ e19
    replace q19 := NlA.but q19 p20 (But.of s21)
    generalize upd H20 y20 (HO.tup [V.int 0]) = H21 at s21 e21 p21 B21 D7 D20 e19 q19 ⊢
    clear B20 p20 s21 ny20
    refine ⟨y20, 12, _, rfl, rfl, .inl (.inl e21), by simp, by decide, by decide, by decide, fun z => absurd z (by decide), fun _ => ?_⟩
    have rep21 : (List.replicate (12 : Int).toNat [V.int 0]).flatten = (List.replicate 12 (0 : Int)).map V.int := by decide +kernel
    rw [rep21]
    clear rep21 e21
    refine fun t22 n22 => ?_
    obtain ⟨s22, D22⟩ := new_tup (n := a) n22 (DaAll.ints (List.replicate 12 0))
    have p22 := p21.keep s22
    replace D7 := D7.same s22
    replace D20 := D20.same s22
    have B22 := but_same B21 s22
    replace e19 := s22 _ _ e19
    replace q19 := NlA.but q19 p21 (But.of s22)
    generalize upd H21 t22 (.tup ((List.replicate 12 (0 : Int)).map V.int)) = H22 at s22 D22 p22 B22 D7 D20 e19 q19 ⊢
    clear B21 p21 s22 n22
    refine ⟨(show 2 ≤ sizeLine by decide), fun t23 n23 => ?_⟩
    obtain ⟨s23, D23⟩ := new_tup (n := a) n23 (.cons (.int _) (.cons D22 .nil))
    have p23 := p22.keep s23
    replace D7 := D7.same s23
    replace D20 := D20.same s23
    replace D22 := D22.same s23
    have B23 := but_same B22 s23
    replace e19 := s23 _ _ e19
    replace q19 := NlA.but q19 p22 (But.of s23)
    generalize upd H22 t23 (.tup [.int 0, .ref t22]) = H23 at s23 D23 p23 B23 D7 D20 D22 e19 q19 ⊢
    clear B22 p22 s23 n23
    refine ⟨(show 2 ≤ sizeLine by decide), fun t24 n24 => ?_⟩
    obtain ⟨s24, D24⟩ := new_tup (n := a) n24 (.cons (.str _) (.cons D23 .nil))
    have p24 := p23.keep s24
    replace D7 := D7.same s24
    replace D20 := D20.same s24
    replace D22 := D22.same s24
    replace D23 := D23.same s24
    have B24 := but_same B23 s24
    replace e19 := s24 _ _ e19
    replace q19 := NlA.but q19 p23 (But.of s24)
    generalize upd H23 t24 (.tup [.str "word", .ref t23]) = H24 at s24 D24 p24 B24 D7 D20 D22 D23 e19 q19 ⊢
    clear B23 p23 s24 n24
    refine ⟨(show 0 ≤ sizeLine by decide), fun t25 n25 => ?_⟩
    obtain ⟨s25, D25⟩ := new_tup (n := a) n25 .nil
    have p25 := p24.keep s25
    replace D7 := D7.same s25
    replace D20 := D20.same s25
    replace D22 := D22.same s25
    replace D23 := D23.same s25
    replace D24 := D24.same s25
    have B25 := but_same B24 s25
    replace e19 := s25 _ _ e19
    replace q19 := NlA.but q19 p24 (But.of s25)
    generalize upd H24 t25 (.tup []) = H25 at s25 D25 p25 B25 D7 D20 D22 D23 D24 e19 q19 ⊢
    clear B24 p24 s25 n25
    refine ⟨(show 2 ≤ sizeLine by decide), fun t26 n26 => ?_⟩
    obtain ⟨s26, D26⟩ := new_tup (n := a) n26 (.cons (.int _) (.cons D25 .nil))
    have p26 := p25.keep s26
    replace D7 := D7.same s26
    replace D20 := D20.same s26
    replace D22 := D22.same s26
    replace D23 := D23.same s26
    replace D24 := D24.same s26
    replace D25 := D25.same s26
    have B26 := but_same B25 s26
    replace e19 := s26 _ _ e19
    replace q19 := NlA.but q19 p25 (But.of s26)
    generalize upd H25 t26 (.tup [.int 7, .ref t25]) = H26 at s26 D26 p26 B26 D7 D20 D22 D23 D24 D25 e19 q19 ⊢
    clear B25 p25 s26 n26
    refine ⟨(show 2 ≤ sizeLine by decide), fun t27 n27 => ?_⟩
    obtain ⟨s27, D27⟩ := new_tup (n := a) n27 (.cons (.str _) (.cons D26 .nil))
    have p27 := p26.keep s27
    replace D7 := D7.same s27
    replace D20 := D20.same s27
    replace D22 := D22.same s27
    replace D23 := D23.same s27
    replace D24 := D24.same s27
    replace D25 := D25.same s27
    replace D26 := D26.same s27
    have B27 := but_same B26 s27
    replace e19 := s27 _ _ e19
    replace q19 := NlA.but q19 p26 (But.of s27)
    generalize upd H26 t27 (.tup [.str "word", .ref t26]) = H27 at s27 D27 p27 B27 D7 D20 D22 D23 D24 D25 D26 e19 q19 ⊢
    clear B26 p26 s27 n27
    refine ⟨(show 3 ≤ sizeLine by decide), fun M28 n28 m28 => ?_⟩
    have r28 : NlA H27 a h.thing [.ref t20, .ref t24, .ref t27] := fun v hv => by
      simp only [List.mem_cons, List.not_mem_nil, or_false] at hv
      rcases hv with rfl | rfl | rfl
      · exact ⟨_, D20, (smTup (smc (show Sm (.str "leave") 5000 3 from ⟨rfl, by decide, by decide +kernel, by decide +kernel⟩) (smc ((Sm.int hn9).mono (by decide) (by decide)) (smc (show Sm (.str "1") 5000 3 from ⟨rfl, by decide, by decide +kernel, by decide +kernel⟩) (smc (Sm.none.mono (by decide) (by decide)) smn)))) (by show (5000 + 1) * 4 ≤ 80000; decide) (by decide)), .inl (l4b rfl)⟩
      · exact ⟨_, D24, ⟨by decide +kernel, by decide +kernel, by decide +kernel, by decide +kernel⟩, .inl (l2w (by decide +kernel))⟩
      · exact ⟨_, D27, ⟨by decide +kernel, by decide +kernel, by decide +kernel, by decide +kernel⟩, .inl (l2w (by decide +kernel))⟩
    clear D20 D22 D23 D24 D25 D26 D27
    have s28 := same_new (o := HO.lst [.ref t20, .ref t24, .ref t27]) n28
    have e28 : (upd H27 M28 (HO.lst [.ref t20, .ref t24, .ref t27])) M28 = some (HO.lst [.ref t20, .ref t24, .ref t27]) := upd_same
    have q28 := NlA.but (r28) p27 (But.of s28)
    have p28 := p27.keep s28
    replace D7 := D7.same s28
    have l28 := p27.ne n28
    have f28 := B27.free l28 n28
    have B28 := but_same B27 s28
    replace e19 := s28 _ _ e19
    replace q19 := NlA.but q19 p27 (But.of s28)
    generalize upd H27 M28 (HO.lst [.ref t20, .ref t24, .ref t27]) = H28 at s28 e28 p28 q28 B28 D7 e19 q19 ⊢
    clear B27 p27 s28 n28
    clear r28
    refine ⟨M19, M28, _, _, rfl, rfl, e19, e28, (show 8 + 3 ≤ sizeLine by decide), fun M29 n29 => ?_⟩
    have s29 := same_new (o := HO.lst ([.ref t8, .ref t9, .ref t10, .ref t11, .ref t13, .ref t14, .ref t15, .ref t17] ++ [.ref t20, .ref t24, .ref t27])) n29
    have e29 : (upd H28 M29 (HO.lst ([.ref t8, .ref t9, .ref t10, .ref t11, .ref t13, .ref t14, .ref t15, .ref t17] ++ [.ref t20, .ref t24, .ref t27]))) M29 = some (HO.lst ([.ref t8, .ref t9, .ref t10, .ref t11, .ref t13, .ref t14, .ref t15, .ref t17] ++ [.ref t20, .ref t24, .ref t27])) := upd_same
    have q29 := NlA.but (NlA.app q19 q28) p28 (But.of s29)
    have p29 := p28.keep s29
    replace D7 := D7.same s29
    have l29 := p28.ne n29
    have f29 := B28.free l29 n29
    have B29 := but_same B28 s29
    generalize upd H28 M29 (HO.lst ([.ref t8, .ref t9, .ref t10, .ref t11, .ref t13, .ref t14, .ref t15, .ref t17] ++ [.ref t20, .ref t24, .ref t27])) = H29 at s29 e29 p29 q29 B29 D7 ⊢
    clear B28 p28 s29 n29
    clear e19 e28 q19 q28
    dsimp only [List.cons_append, List.nil_append] at e29 q29
    dsimp only [List.set]
    refine ⟨_, rfl, ?_⟩
    refine ⟨(show 1 ≤ sizeLine by decide), fun y29 ny29 => ?_⟩
    have s30 := same_new (o := HO.tup [V.int 0]) ny29
    have e30 : (upd H29 y29 (HO.tup [V.int 0])) y29 = some (.tup [V.int 0]) := upd_same
    have p30 := p29.keep s30
    replace D7 := D7.same s30
    have B30 := but_same B29 s30
    replace e29 := s30 _ _ e29
    replace q29 := NlA.but q29 p29 (But.of s30)
    generalize upd H29 y29 (HO.tup [V.int 0]) = H30 at s30 e30 p30 B30 D7 e29 q29 ⊢
    clear B29 p29 s30 ny29
    refine ⟨y29, 13, _, rfl, rfl, .inl (.inl e30), by simp, by decide, by decide, by decide, fun z => absurd z (by decide), fun _ => ?_⟩
    have rep30 : (List.replicate (13 : Int).toNat [V.int 0]).flatten = (List.replicate 13 (0 : Int)).map V.int := by decide +kernel
    rw [rep30]
    clear rep30 e30
    refine fun t31 n31 => ?_
    obtain ⟨s31, D31⟩ := new_tup (n := a) n31 (DaAll.ints (List.replicate 13 0))
    have p31 := p30.keep s31
    replace D7 := D7.same s31
    have B31 := but_same B30 s31
    replace e29 := s31 _ _ e29
    replace q29 := NlA.but q29 p30 (But.of s31)
    generalize upd H30 t31 (.tup ((List.replicate 13 (0 : Int)).map V.int)) = H31 at s31 D31 p31 B31 D7 e29 q29 ⊢
    clear B30 p30 s31 n31
    refine ⟨(show 2 ≤ sizeLine by decide), fun t32 n32 => ?_⟩
    obtain ⟨s32, D32⟩ := new_tup (n := a) n32 (.cons (.int _) (.cons D31 .nil))
    have p32 := p31.keep s32
    replace D7 := D7.same s32
    replace D31 := D31.same s32
    have B32 := but_same B31 s32
    replace e29 := s32 _ _ e29
    replace q29 := NlA.but q29 p31 (But.of s32)
    generalize upd H31 t32 (.tup [.int 7, .ref t31]) = H32 at s32 D32 p32 B32 D7 D31 e29 q29 ⊢
    clear B31 p31 s32 n32
    refine ⟨(show 2 ≤ sizeLine by decide), fun t33 n33 => ?_⟩
    obtain ⟨s33, D33⟩ := new_tup (n := a) n33 (.cons (.str _) (.cons D32 .nil))
    have p33 := p32.keep s33
    replace D7 := D7.same s33
    replace D31 := D31.same s33
    replace D32 := D32.same s33
    have B33 := but_same B32 s33
    replace e29 := s33 _ _ e29
    replace q29 := NlA.but q29 p32 (But.of s33)
    generalize upd H32 t33 (.tup [.str "word", .ref t32]) = H33 at s33 D33 p33 B33 D7 D31 D32 e29 q29 ⊢
    clear B32 p32 s33 n33
    refine ⟨_, rfl, ?_⟩
    refine ⟨(show 4 ≤ sizeLine by decide), fun t34 n34 => ?_⟩
    obtain ⟨s34, D34⟩ := new_tup (n := a) n34 (.cons (.str _) (.cons .non (.cons (.int _) (.cons D7 .nil))))
    have p34 := p33.keep s34
    replace D7 := D7.same s34
    replace D31 := D31.same s34
    replace D32 := D32.same s34
    replace D33 := D33.same s34
    have B34 := but_same B33 s34
    replace e29 := s34 _ _ e29
    replace q29 := NlA.but q29 p33 (But.of s34)
    generalize upd H33 t34 (.tup [.str "leave", .non, .int 0, .ref t7]) = H34 at s34 D34 p34 B34 D7 D31 D32 D33 e29 q29 ⊢
    clear B33 p33 s34 n34
    refine ⟨(show 2 ≤ sizeLine by decide), fun M35 n35 m35 => ?_⟩
    have r35 : NlA H34 a h.thing [.ref t33, .ref t34] := fun v hv => by
      simp only [List.mem_cons, List.not_mem_nil, or_false] at hv
      rcases hv with rfl | rfl
      · exact ⟨_, D33, ⟨by decide +kernel, by decide +kernel, by decide +kernel, by decide +kernel⟩, .inl (l2w (by decide +kernel))⟩
      · exact ⟨_, D34, (smTup (smc (show Sm (.str "leave") 5000 3 from ⟨rfl, by decide, by decide +kernel, by decide +kernel⟩) (smc (Sm.none.mono (by decide) (by decide)) (smc ((Sm.int (by decide)).mono (by decide) (by decide)) (smc sW smn)))) (by show (5000 + 1) * 4 ≤ 80000; decide) (by decide)), .inl (l4a rfl)⟩
    clear D31 D32 D33 D34
    have s35 := same_new (o := HO.lst [.ref t33, .ref t34]) n35
    have e35 : (upd H34 M35 (HO.lst [.ref t33, .ref t34])) M35 = some (HO.lst [.ref t33, .ref t34]) := upd_same
    have q35 := NlA.but (r35) p34 (But.of s35)
    have p35 := p34.keep s35
    replace D7 := D7.same s35
    have l35 := p34.ne n35
    have f35 := B34.free l35 n35
    have B35 := but_same B34 s35
    replace e29 := s35 _ _ e29
    replace q29 := NlA.but q29 p34 (But.of s35)
    generalize upd H34 M35 (HO.lst [.ref t33, .ref t34]) = H35 at s35 e35 p35 q35 B35 D7 e29 q29 ⊢
    clear B34 p34 s35 n35
    clear r35
    refine ⟨M29, M35, _, _, rfl, rfl, e29, e35, (show 11 + 2 ≤ sizeLine by decide), fun M36 n36 => ?_⟩
    have s36 := same_new (o := HO.lst ([.ref t8, .ref t9, .ref t10, .ref t11, .ref t13, .ref t14, .ref t15, .ref t17, .ref t20, .ref t24, .ref t27] ++ [.ref t33, .ref t34])) n36
    have e36 : (upd H35 M36 (HO.lst ([.ref t8, .ref t9, .ref t10, .ref t11, .ref t13, .ref t14, .ref t15, .ref t17, .ref t20, .ref t24, .ref t27] ++ [.ref t33, .ref t34]))) M36 = some (HO.lst ([.ref t8, .ref t9, .ref t10, .ref t11, .ref t13, .ref t14, .ref t15, .ref t17, .ref t20, .ref t24, .ref t27] ++ [.ref t33, .ref t34])) := upd_same
    have q36 := NlA.but (NlA.app q29 q35) p35 (But.of s36)
    have p36 := p35.keep s36
    replace D7 := D7.same s36
    have l36 := p35.ne n36
    have f36 := B35.free l36 n36
    have B36 := but_same B35 s36
    generalize upd H35 M36 (HO.lst ([.ref t8, .ref t9, .ref t10, .ref t11, .ref t13, .ref t14, .ref t15, .ref t17, .ref t20, .ref t24, .ref t27] ++ [.ref t33, .ref t34])) = H36 at s36 e36 p36 q36 B36 D7 ⊢
    clear B35 p35 s36 n36
    clear e29 e35 q29 q35
    dsimp only [List.cons_append, List.nil_append] at e36 q36
    dsimp only [List.set]
    have i0' : H x = some (.ins C dx [("thing", .int (h.thing : Int)), ("place", .int h.place), ("wish", v), ("held", .ref D), ("tally", .ref T)]) := i0
    have nxa : x ≠ a := fun z => by
      obtain ⟨_, _, _, e2, _⟩ := pa
      rw [z, e2] at i0'
      cases i0'
    have bx : ∀ {H' : Hp}, But a H H' → H' x = some (.ins C dx [("thing", .int (h.thing : Int)), ("place", .int h.place), ("wish", v), ("held", .ref D), ("tally", .ref T)]) := fun b => b _ _ nxa i0'
    have D7' : Da a H36 (.ref t7) (.tuple [.int (10 ^ (9 : Int).toNat), .tuple ((List.replicate 12 (0 : Int)).map PyData.int)]) := D7
    dsimp only [gName, List.set]
    refine ⟨.ref x, rfl, x, C, dx, _, _, rfl, bx B36, X.cl, X.n1, lk1, _, _, rfl, rfl, 1, _, rfl, ⟨by omega, by omega, by omega, by omega⟩, for_it walk_range (fun i σ H' => ∃ (Lc : Addr) (xs : List V) (u6 u7 u8 : Option V), σ = [some (.ref a), some (.ref x), some (.ref R), some (.int m), some (.ref t7), some (.ref Lc), u6, u7, u8] ∧ But a H H' ∧ PotAt H' a (c + 1) ∧ Lc ≠ a ∧ H Lc = none ∧ H' Lc = some (.lst xs) ∧ NlA H' a h.thing xs ∧ xs.length = 13 + 3 * i) ⟨M36, _, none, none, none, rfl, B36, p36, l36, f36, e36, q36, rfl⟩ (fun _ _ _ _ _ => trivial) (fun i v' σ H2 H3 hi y z => ?_) (fun σ H2 y => ?_)⟩
    · obtain ⟨Lc, xs, u6, u7, u8, rfl, b2, p2', nLa, nLH, eL, qL, lx⟩ := y
      obtain ⟨rfl, rfl⟩ := z
      have ith : 1 + i ≤ h.thing := by omega
      have i11 : i ≤ 10 := by omega
      have tk : ((1 + (i : Int)).toNat) = 1 + i := by omega
      refine ⟨10, 9, rfl, rfl, ⟨by decide, by decide, by decide⟩, _, rfl, _, _, rfl, rfl, (show 1 ≤ sizeLine by decide), fun y0 ny0 => ?_⟩
      have s1 := same_new (o := HO.tup [V.int 0]) ny0
      have ey : (upd H3 y0 (HO.tup [V.int 0])) y0 = some (.tup [V.int 0]) := upd_same
      have p4 := p2'.keep s1
      have e4 := s1 _ _ eL
      have q4 := NlA.but qL p2' (But.of s1)
      have b4 := but_same b2 s1
      generalize upd H3 y0 (HO.tup [V.int 0]) = H4 at s1 ey p4 e4 q4 b4 ⊢
      refine ⟨_, rfl, y0, 1 + (i : Int), [V.int 0], rfl, rfl, .inl (.inl ey), by simp, by omega, by omega, by decide, fun k1 => ?_, fun k2 T0 nT0 => ?_⟩
      · have iz : i = 0 := by omega
        have eT : H4 y0 = some (.tup ((List.replicate (1 + i) (0 : Int)).map V.int)) := by
          rw [ey, iz]
          rfl
        generalize hT : y0 = T0 at eT ⊢
        clear hT s1 ey iz
        generalize hH : H4 = Hs at eT p4 e4 q4 b4 ⊢
        clear hH
        refine ⟨(show 2 ≤ sizeLine by decide), fun Wd nW => ?_⟩
        have wx1 : (1 : Int) ≤ 10 ^ (9 : Int).toNat + (1 + (i : Int)) := by
          rw [show (10 : Int) ^ (9 : Int).toNat = 1000000000 from by decide]
          omega
        have wx2 : (10 : Int) ^ (9 : Int).toNat + (1 + (i : Int)) < 10 ^ 30 := by
          rw [show (10 : Int) ^ (9 : Int).toNat = 1000000000 from by decide]
          omega
        dsimp only
        generalize (10 : Int) ^ (9 : Int).toNat + (1 + (i : Int)) = wx at wx1 wx2 ⊢
        have s6 := same_new (o := HO.tup [V.int wx, .ref T0]) nW
        have eW : (upd Hs Wd (HO.tup [V.int wx, .ref T0])) Wd = some (.tup [V.int wx, .ref T0]) := upd_same
        have wW : WV (upd Hs Wd (HO.tup [V.int wx, .ref T0])) (.ref Wd) (some (wx, List.replicate (1 + i) 0)) := ⟨Wd, T0, rfl, eW, s6 _ _ eT⟩
        have p6 := p4.keep s6
        have e6 := s6 _ _ e4
        have q6 := NlA.but q4 p4 (But.of s6)
        have b6 := but_same b4 s6
        generalize upd Hs Wd (HO.tup [V.int wx, .ref T0]) = H6 at wW p6 e6 q6 b6 ⊢
        clear eW s6 eT
        have sW := shS (k := 1 + i) wx1 wx2 (by omega)
        have wp := shW (k := 1 + i) wx1 wx2 (by omega) (by omega)
        dsimp only [gName, List.set]
        refine ⟨_, rfl, _, rfl, (show 2 ≤ sizeLine by decide), fun X1 n1 => ?_⟩
        have s7 := same_new (o := HO.tup [V.str "word", .ref Wd]) n1
        have x1 : LetAt (upd H6 X1 (HO.tup [V.str "word", .ref Wd])) X1 (("word", [], some (wx, List.replicate (1 + i) 0)) : Lt) := ⟨.ref Wd, upd_same, wW.keep (.same s7)⟩
        have w7 := wW.keep (.same s7)
        have p7 := p6.keep s7
        have e7 := s7 _ _ e6
        have q7 := NlA.but q6 p6 (But.of s7)
        have b7 := but_same b6 s7
        generalize upd H6 X1 (HO.tup [V.str "word", .ref Wd]) = H7 at x1 w7 p7 e7 q7 b7 ⊢
        clear s7 q6 e6 b6 wW
        refine ⟨_, rfl, _, rfl, (show 4 ≤ sizeLine by decide), fun X2 n2 => ?_⟩
        have s8 := same_new (o := HO.tup [V.str "ask", .int m, .int 9, .ref Wd]) n2
        have x2 : LetAt (upd H7 X2 (HO.tup [V.str "ask", .int m, .int 9, .ref Wd])) X2 (("ask", [m, 9], some (wx, List.replicate (1 + i) 0)) : Lt) := ⟨.ref Wd, upd_same, w7.keep (.same s8)⟩
        have w8 := w7.keep (.same s8)
        have x1 := x1.keep (.same s8)
        have p8 := p7.keep s8
        have e8 := s8 _ _ e7
        have q8 := NlA.but q7 p7 (But.of s8)
        have b8 := but_same b7 s8
        generalize upd H7 X2 (HO.tup [V.str "ask", .int m, .int 9, .ref Wd]) = H8 at x1 x2 w8 p8 e8 q8 b8 ⊢
        clear s8 q7 e7 b7 w7
        refine ⟨_, rfl, _, rfl, (show 4 ≤ sizeLine by decide), fun X3 n3 => ?_⟩
        have s9 := same_new (o := HO.tup [V.str "leave", .int m, .int 9, .ref Wd]) n3
        have x3 : LetAt (upd H8 X3 (HO.tup [V.str "leave", .int m, .int 9, .ref Wd])) X3 (("leave", [m, 9], some (wx, List.replicate (1 + i) 0)) : Lt) := ⟨.ref Wd, upd_same, w8.keep (.same s9)⟩
        have x1 := x1.keep (.same s9)
        have x2 := x2.keep (.same s9)
        have p9 := p8.keep s9
        have e9 := s9 _ _ e8
        have q9 := NlA.but q8 p8 (But.of s9)
        have b9 := but_same b8 s9
        generalize upd H8 X3 (HO.tup [V.str "leave", .int m, .int 9, .ref Wd]) = H9 at x1 x2 x3 p9 e9 q9 b9 ⊢
        clear s9 q8 e8 b8 w8
        have pl2 : Pl [m, 9] := fun y hy => by
          rcases List.mem_cons.mp hy with rfl | hy
          · exact ⟨m0, Int.lt_of_le_of_lt m98 (by decide)⟩
          · rw [List.mem_singleton.mp hy]
            exact ⟨by decide, by decide⟩
        have wp' : ∀ w', (some (wx, List.replicate (1 + i) (0 : Int)) : Option Wi) = some w' → WiP w' := fun w' e => by cases e; exact wp
        have hm8 : Sm (.int m) 8000 3 := (Sm.int hn9).mono (by decide) (by decide)
        have h98 : Sm (.int 9) 8000 3 := (Sm.int (by decide)).mono (by decide) (by decide)
        have sw1 : Sm (.str "word") 8000 3 := Sm.mono (w := 5000) (k := 3) ⟨rfl, by decide, by decide +kernel, by decide +kernel⟩ (by decide) (by decide)
        have sw2 : Sm (.str "ask") 8000 3 := Sm.mono (w := 5000) (k := 3) ⟨rfl, by decide, by decide +kernel, by decide +kernel⟩ (by decide) (by decide)
        have sw3 : Sm (.str "leave") 8000 3 := Sm.mono (w := 5000) (k := 3) ⟨rfl, by decide, by decide +kernel, by decide +kernel⟩ (by decide) (by decide)
        have nl : NlA H9 a h.thing [V.ref X1, .ref X2, .ref X3] := fun v hv => by
          simp only [List.mem_cons, List.not_mem_nil, or_false] at hv
          rcases hv with rfl | rfl | rfl
          · exact shN wx1 wx2 (by omega) (by omega) ith x1 rfl ⟨.inr ⟨rfl, rfl, fun z => by cases z⟩, fun y hy => absurd hy List.not_mem_nil, wp'⟩ (smTup (smc sw1 (smc sW smn)) (by show (8000 + 1) * 2 ≤ 80000; decide) (by decide))
          · exact shN wx1 wx2 (by omega) (by omega) ith x2 rfl ⟨.inl ⟨.inl rfl, rfl⟩, pl2, wp'⟩ (smTup (smc sw2 (smc hm8 (smc h98 (smc sW smn)))) (by show (8000 + 1) * 4 ≤ 80000; decide) (by decide))
          · exact shN wx1 wx2 (by omega) (by omega) ith x3 rfl ⟨.inl ⟨.inr rfl, rfl⟩, pl2, wp'⟩ (smTup (smc sw3 (smc hm8 (smc h98 (smc sW smn)))) (by show (8000 + 1) * 4 ≤ 80000; decide) (by decide))
        refine ⟨(show 3 ≤ sizeLine by decide), fun M3 n3' m3' => ?_⟩
        have s10 := same_new (o := HO.lst [V.ref X1, .ref X2, .ref X3]) n3'
        have e10 : (upd H9 M3 (HO.lst [V.ref X1, .ref X2, .ref X3])) M3 = some (.lst [V.ref X1, .ref X2, .ref X3]) := upd_same
        have nl := NlA.but nl p9 (But.of s10)
        have p10 := p9.keep s10
        have eL10 := s10 _ _ e9
        have q10 := NlA.but q9 p9 (But.of s10)
        have b10 := but_same b9 s10
        generalize upd H9 M3 (HO.lst [V.ref X1, .ref X2, .ref X3]) = H10 at e10 nl p10 eL10 q10 b10 ⊢
        refine ⟨Lc, M3, _, _, rfl, rfl, eL10, e10, (show xs.length + 3 ≤ sizeLine from Nat.le_trans (show xs.length + 3 ≤ 1000 by omega) (by decide)), fun Ln nLn => ?_⟩
        have s11 := same_new (o := HO.lst (xs ++ [V.ref X1, .ref X2, .ref X3])) nLn
        exact ⟨Ln, _, _, _, _, rfl, but_same b10 s11, p10.keep s11, p10.ne nLn, b10.free (p10.ne nLn) nLn, upd_same, NlA.but (NlA.app q10 nl) p10 (But.of s11), by rw [List.length_append, lx]; show 13 + 3 * i + 3 = 13 + 3 * (i + 1); omega⟩
      · have s5 := same_new (o := HO.tup (List.replicate (1 + (i : Int)).toNat [V.int 0]).flatten) nT0
        have eT : (upd H4 T0 (HO.tup (List.replicate (1 + (i : Int)).toNat [V.int 0]).flatten)) T0 = some (.tup ((List.replicate (1 + i) (0 : Int)).map V.int)) := by
          rw [upd_same, tk]
          rw [rep_zero]
        have p4 := p4.keep s5
        have e4 := s5 _ _ e4
        have q4 := NlA.but q4 (p2'.keep s1) (But.of s5)
        have b4 := but_same b4 s5
        generalize (upd H4 T0 (HO.tup (List.replicate (1 + (i : Int)).toNat [V.int 0]).flatten)) = Hs at eT p4 e4 q4 b4 ⊢
        clear s1 ey s5
        refine ⟨(show 2 ≤ sizeLine by decide), fun Wd nW => ?_⟩
        have wx1 : (1 : Int) ≤ 10 ^ (9 : Int).toNat + (1 + (i : Int)) := by
          rw [show (10 : Int) ^ (9 : Int).toNat = 1000000000 from by decide]
          omega
        have wx2 : (10 : Int) ^ (9 : Int).toNat + (1 + (i : Int)) < 10 ^ 30 := by
          rw [show (10 : Int) ^ (9 : Int).toNat = 1000000000 from by decide]
          omega
        dsimp only
        generalize (10 : Int) ^ (9 : Int).toNat + (1 + (i : Int)) = wx at wx1 wx2 ⊢
        have s6 := same_new (o := HO.tup [V.int wx, .ref T0]) nW
        have eW : (upd Hs Wd (HO.tup [V.int wx, .ref T0])) Wd = some (.tup [V.int wx, .ref T0]) := upd_same
        have wW : WV (upd Hs Wd (HO.tup [V.int wx, .ref T0])) (.ref Wd) (some (wx, List.replicate (1 + i) 0)) := ⟨Wd, T0, rfl, eW, s6 _ _ eT⟩
        have p6 := p4.keep s6
        have e6 := s6 _ _ e4
        have q6 := NlA.but q4 p4 (But.of s6)
        have b6 := but_same b4 s6
        generalize upd Hs Wd (HO.tup [V.int wx, .ref T0]) = H6 at wW p6 e6 q6 b6 ⊢
        clear eW s6 eT
        have sW := shS (k := 1 + i) wx1 wx2 (by omega)
        have wp := shW (k := 1 + i) wx1 wx2 (by omega) (by omega)
        dsimp only [gName, List.set]
        refine ⟨_, rfl, _, rfl, (show 2 ≤ sizeLine by decide), fun X1 n1 => ?_⟩
        have s7 := same_new (o := HO.tup [V.str "word", .ref Wd]) n1
        have x1 : LetAt (upd H6 X1 (HO.tup [V.str "word", .ref Wd])) X1 (("word", [], some (wx, List.replicate (1 + i) 0)) : Lt) := ⟨.ref Wd, upd_same, wW.keep (.same s7)⟩
        have w7 := wW.keep (.same s7)
        have p7 := p6.keep s7
        have e7 := s7 _ _ e6
        have q7 := NlA.but q6 p6 (But.of s7)
        have b7 := but_same b6 s7
        generalize upd H6 X1 (HO.tup [V.str "word", .ref Wd]) = H7 at x1 w7 p7 e7 q7 b7 ⊢
        clear s7 q6 e6 b6 wW
        refine ⟨_, rfl, _, rfl, (show 4 ≤ sizeLine by decide), fun X2 n2 => ?_⟩
        have s8 := same_new (o := HO.tup [V.str "ask", .int m, .int 9, .ref Wd]) n2
        have x2 : LetAt (upd H7 X2 (HO.tup [V.str "ask", .int m, .int 9, .ref Wd])) X2 (("ask", [m, 9], some (wx, List.replicate (1 + i) 0)) : Lt) := ⟨.ref Wd, upd_same, w7.keep (.same s8)⟩
        have w8 := w7.keep (.same s8)
        have x1 := x1.keep (.same s8)
        have p8 := p7.keep s8
        have e8 := s8 _ _ e7
        have q8 := NlA.but q7 p7 (But.of s8)
        have b8 := but_same b7 s8
        generalize upd H7 X2 (HO.tup [V.str "ask", .int m, .int 9, .ref Wd]) = H8 at x1 x2 w8 p8 e8 q8 b8 ⊢
        clear s8 q7 e7 b7 w7
        refine ⟨_, rfl, _, rfl, (show 4 ≤ sizeLine by decide), fun X3 n3 => ?_⟩
        have s9 := same_new (o := HO.tup [V.str "leave", .int m, .int 9, .ref Wd]) n3
        have x3 : LetAt (upd H8 X3 (HO.tup [V.str "leave", .int m, .int 9, .ref Wd])) X3 (("leave", [m, 9], some (wx, List.replicate (1 + i) 0)) : Lt) := ⟨.ref Wd, upd_same, w8.keep (.same s9)⟩
        have x1 := x1.keep (.same s9)
        have x2 := x2.keep (.same s9)
        have p9 := p8.keep s9
        have e9 := s9 _ _ e8
        have q9 := NlA.but q8 p8 (But.of s9)
        have b9 := but_same b8 s9
        generalize upd H8 X3 (HO.tup [V.str "leave", .int m, .int 9, .ref Wd]) = H9 at x1 x2 x3 p9 e9 q9 b9 ⊢
        clear s9 q8 e8 b8 w8
        have pl2 : Pl [m, 9] := fun y hy => by
          rcases List.mem_cons.mp hy with rfl | hy
          · exact ⟨m0, Int.lt_of_le_of_lt m98 (by decide)⟩
          · rw [List.mem_singleton.mp hy]
            exact ⟨by decide, by decide⟩
        have wp' : ∀ w', (some (wx, List.replicate (1 + i) (0 : Int)) : Option Wi) = some w' → WiP w' := fun w' e => by cases e; exact wp
        have hm8 : Sm (.int m) 8000 3 := (Sm.int hn9).mono (by decide) (by decide)
        have h98 : Sm (.int 9) 8000 3 := (Sm.int (by decide)).mono (by decide) (by decide)
        have sw1 : Sm (.str "word") 8000 3 := Sm.mono (w := 5000) (k := 3) ⟨rfl, by decide, by decide +kernel, by decide +kernel⟩ (by decide) (by decide)
        have sw2 : Sm (.str "ask") 8000 3 := Sm.mono (w := 5000) (k := 3) ⟨rfl, by decide, by decide +kernel, by decide +kernel⟩ (by decide) (by decide)
        have sw3 : Sm (.str "leave") 8000 3 := Sm.mono (w := 5000) (k := 3) ⟨rfl, by decide, by decide +kernel, by decide +kernel⟩ (by decide) (by decide)
        have nl : NlA H9 a h.thing [V.ref X1, .ref X2, .ref X3] := fun v hv => by
          simp only [List.mem_cons, List.not_mem_nil, or_false] at hv
          rcases hv with rfl | rfl | rfl
          · exact shN wx1 wx2 (by omega) (by omega) ith x1 rfl ⟨.inr ⟨rfl, rfl, fun z => by cases z⟩, fun y hy => absurd hy List.not_mem_nil, wp'⟩ (smTup (smc sw1 (smc sW smn)) (by show (8000 + 1) * 2 ≤ 80000; decide) (by decide))
          · exact shN wx1 wx2 (by omega) (by omega) ith x2 rfl ⟨.inl ⟨.inl rfl, rfl⟩, pl2, wp'⟩ (smTup (smc sw2 (smc hm8 (smc h98 (smc sW smn)))) (by show (8000 + 1) * 4 ≤ 80000; decide) (by decide))
          · exact shN wx1 wx2 (by omega) (by omega) ith x3 rfl ⟨.inl ⟨.inr rfl, rfl⟩, pl2, wp'⟩ (smTup (smc sw3 (smc hm8 (smc h98 (smc sW smn)))) (by show (8000 + 1) * 4 ≤ 80000; decide) (by decide))
        refine ⟨(show 3 ≤ sizeLine by decide), fun M3 n3' m3' => ?_⟩
        have s10 := same_new (o := HO.lst [V.ref X1, .ref X2, .ref X3]) n3'
        have e10 : (upd H9 M3 (HO.lst [V.ref X1, .ref X2, .ref X3])) M3 = some (.lst [V.ref X1, .ref X2, .ref X3]) := upd_same
        have nl := NlA.but nl p9 (But.of s10)
        have p10 := p9.keep s10
        have eL10 := s10 _ _ e9
        have q10 := NlA.but q9 p9 (But.of s10)
        have b10 := but_same b9 s10
        generalize upd H9 M3 (HO.lst [V.ref X1, .ref X2, .ref X3]) = H10 at e10 nl p10 eL10 q10 b10 ⊢
        refine ⟨Lc, M3, _, _, rfl, rfl, eL10, e10, (show xs.length + 3 ≤ sizeLine from Nat.le_trans (show xs.length + 3 ≤ 1000 by omega) (by decide)), fun Ln nLn => ?_⟩
        have s11 := same_new (o := HO.lst (xs ++ [V.ref X1, .ref X2, .ref X3])) nLn
        exact ⟨Ln, _, _, _, _, rfl, but_same b10 s11, p10.keep s11, p10.ne nLn, b10.free (p10.ne nLn) nLn, upd_same, NlA.but (NlA.app q10 nl) p10 (But.of s11), by rw [List.length_append, lx]; show 13 + 3 * i + 3 = 13 + 3 * (i + 1); omega⟩
    · obtain ⟨Lc, xs, u6, u7, u8, rfl, b2, p2', nLa, nLH, eL, qL, lx⟩ := y
      refine ⟨_, rfl, 6, rfl, by decide, by decide, fun Dd nD => lc_it walk_range (fun j H' => ∃ ys, Od6 a Dd H2 (c + 1) j ys H') ⟨[], od_zero p2' (Nat.le_refl _) nD⟩ (fun _ _ _ _ => trivial) (fun j v' H5' H5 hj y z => ?_) (fun H5 y => ?_)⟩
      · obtain ⟨ys, od⟩ := y
        obtain ⟨rfl, rfl⟩ := z
        refine ⟨rfl, .ref a, rfl, a, c + 1 + 20 * j, rfl, od.2.1, by omega, fun v d H7 b7 p7 dv sm oq => ?_⟩
        obtain ⟨e7, od'⟩ := od_step (p2'.ne nD) nD od b7 p7 dv sm oq
        exact ⟨_, e7, by rw [od.2.2.2.1]; exact small1000 (by omega), _, od'⟩
      · obtain ⟨ys, od⟩ := y
        obtain ⟨b7, p7, e7, l7, _⟩ := id od
        have eL7 := b7 _ _ nLa eL
        refine ⟨Lc, Dd, _, _, rfl, rfl, eL7, e7, Nat.le_of_lt (small1000 (show xs.length + ys.length ≤ 1000 by omega)), fun Ln nLn => ?_⟩
        have s7 := same_new (o := HO.lst (xs ++ ys)) nLn
        exact q _ Ln _ (but_same (b2.trans b7) s7) ((p7.keep s7).mono (by omega)) ((b2.trans b7).free (p7.ne nLn) nLn) (p7.ne nLn) upd_same (NlA.but (NlA.app (NlA.but qL p2' b7) od.nl) p7 (But.of s7)) (by rw [List.length_append]; omega)
end
end K61

set_option Elab.async false
set_option linter.all false
set_option maxRecDepth 100000
set_option maxHeartbeats 1000000
/-! The end of a law that shows data and whose lambdas make one table grow. -/
namespace NB
open PySem PySem.Spec PyProof.Rows L2 LamX

section
variable {P : Program} {w : World} {K : PySem.W.Frag} {mg mb : Str → Option Value} {k : Nat} {fa a cA tA : Addr} {fd : FuncData} {x : Str} {sp : Sp} {s : Shared} {vs : List Value} {ns : List Int}
/-- with the script, or nothing, and the one table tracked -/
theorem law_endT (hK : K.In s.heap) (hN : s.heap.Ns mainGlobals mg) (hB : s.heap.Ns builtinsNs mb) (hbb : ∀ x : Str, x ≠ "__name__" → mb x = bootBuiltins x) (lim : s.heap.NoLimit) (hg : s.gens = #[])
    (hP : s.heap.get? tA = some { cls := .none, data := .fields #[] }) (kP : K.lookup tA = none) (hC : PySem.W.CodeHd s.heap cA tA)
    (bi : ∃ (bm : Addr) (ob : Obj), mg "__builtins__" = some (.ref bm) ∧ bm ≠ builtinsNs ∧ s.heap.get? bm = some ob ∧ ob.cls = .type "module" ∧ ob.dict = some builtinsNs ∧ ob.data = .plain)
    (ha : s.heap.get? a = some { cls := .type "list", data := .seq vs.toArray }) (hi : IntsAre vs ns) (hl : ns.length ≤ sizeLine) (hr : Room k callerA)
    (F : ∀ base : Heap, K.In base → base.Ns mainGlobals mg → TabB base mg cA tA → FnG P w K mg base k fa fd [x] sp) (hb : ∀ (s : Shared) (u : Value), BindsTo s fd ⟨[u], []⟩ [(x, u)])
    (hsp : ∀ H : Hp, H tA = some (.tbl #[]) → SqL K H a (ns.map V.int) → sp [.ref a] H (fun v _ => v = .bl true) E0) :
    codeAny (model P w) callerA (.call (.ref fa) ⟨[.ref a], []⟩) (fun r s' => r = .ok (.ret (.bool true)) ∧ OldK s.heap s'.heap ∧ s'.os = s.os ∧ AllBare s'.gens) s := by
  have rv := vals_ints hi
  have lv := hi.length
  have aP : a ≠ tA := fun z => by
    rw [z, hP] at ha
    have := congrArg Obj.data (Option.some.inj ha)
    cases this
  suffices go : ∀ H : Hp, H tA = some (.tbl #[]) → (∀ b, H b ≠ none → b = tA ∨ (b = a ∧ K.lookup a = none ∧ ∃ o xs, H b = some (.frz o (.lst xs)))) → SqL K H a (ns.map V.int) → HOk P w H s.heap →
      codeAny (model P w) callerA (.call (.ref fa) ⟨[.ref a], []⟩) (fun r s' => r = .ok (.ret (.bool true)) ∧ OldK s.heap s'.heap ∧ s'.os = s.os ∧ AllBare s'.gens) s by
    cases hk : K.lookup a with
    | some o =>
      have e := hK a o hk
      rw [ha] at e
      cases e
      refine go (fun b => if b = tA then some (.tbl #[]) else none) (if_pos rfl) (fun b q => ?_) (.inr ⟨_, vs.toArray, _, hk, rfl, rfl, rfl, ?_, by simpa using rv⟩) (fun b u q => ?_)
      · by_cases h : b = tA
        · exact .inl h
        · exact absurd (if_neg h) q
      · rw [List.size_toArray, lv]
        exact hl
      · by_cases h : b = tA
        · have q' := (if_pos h).symm.trans q
          cases q'
          rw [h]
          exact hP
        · have q' := (if_neg h).symm.trans q
          cases q'
    | none =>
      refine go (fun b => if b = tA then some (.tbl #[]) else if b = a then some (.frz { cls := .type "list", data := .seq vs.toArray } (.lst (ns.map V.int))) else none) (if_pos rfl) (fun b q => ?_) (.inl (.inr ⟨_, (if_neg aP).trans (if_pos rfl)⟩)) (fun b u q => ?_)
      · by_cases h : b = tA
        · exact .inl h
        · by_cases h2 : b = a
          · exact .inr ⟨h2, hk, _, _, (if_neg h).trans (if_pos h2)⟩
          · exact absurd ((if_neg h).trans (if_neg h2)) q
      · by_cases h : b = tA
        · have q' := (if_pos h).symm.trans q
          cases q'
          rw [h]
          exact hP
        · by_cases h2 : b = a
          · have q' := ((if_neg h).trans (if_pos h2)).symm.trans q
            cases q'
            subst h2
            exact ⟨ha, by rw [List.length_map]; exact hl, vs, _, rv, ha⟩
          · have q' := ((if_neg h).trans (if_neg h2)).symm.trans q
            cases q'
  intro H hH hO hS ok
  -- what is neither a list nor the table is not tracked
  have off : ∀ {b : Addr} {o : Obj}, s.heap.get? b = some o → (∀ us n, o.data ≠ .seq us n) → o.data ≠ .fields #[] → H b = none := fun {b o} e n1 n2 => by
    cases q : H b with
    | none => rfl
    | some u =>
      rcases hO b (by rw [q]; simp) with rfl | ⟨rfl, _⟩
      · rw [hP] at e
        cases e
        exact absurd rfl n2
      · rw [ha] at e
        cases e
        exact absurd rfl (n1 _ _)
  have seen : ∀ {b : Addr} {o : Obj}, s.heap.get? b = some o → H b = none → (hidT s.heap H).get? b = some o := fun e n => hidT_get e n
  have ns' : ∀ {b : Addr} {m : Str → Option Value}, s.heap.Ns b m → (hidT s.heap H).Ns b m := by
    rintro b m ⟨o, es, ep, e, d, r⟩
    refine ⟨o, es, ep, seen e (off e (fun us n z => ?_) fun z => ?_), d, r⟩
    · rw [d] at z
      cases z
    · rw [d] at z
      cases z
  have kB : K.In (hidT s.heap H) := by
    intro b o e
    refine seen (hK b o e) ?_
    cases q : H b with
    | none => rfl
    | some u =>
      rcases hO b (by rw [q]; simp) with rfl | ⟨rfl, n, _⟩
      · rw [kP] at e
        cases e
      · rw [n] at e
        cases e
  have md : Mod K mg (hidT s.heap H) := by
    obtain ⟨mc, h1, h2⟩ := lim
    exact ⟨kB, ns' hN, ⟨mb, ns' hB, hbb⟩, ⟨mc, ns' h1, h2⟩⟩
  have tb : TabB (hidT s.heap H) mg cA tA := by
    refine ⟨?_, ?_, fun z => ?_⟩
    · obtain ⟨o, us, v1, v2, v3, v4, v5, v6, v7, e, d1, d2, d3⟩ := hC
      refine ⟨o, us, v1, v2, v3, v4, v5, v6, v7, seen e (off e (fun us' n z => ?_) fun z => ?_), d1, d2, d3⟩
      · rw [d2] at z
        cases z
      · rw [d2] at z
        cases z
        have d4 := d3.1
        simp at d4
    · obtain ⟨bm, ob, b1, b2, b3, b4, b5, b6⟩ := bi
      refine ⟨bm, ob, b1, b2, fun q => ?_, fun q => ?_, seen b3 (off b3 (fun us n z => ?_) fun z => ?_), b4, b5, b6⟩
      · obtain ⟨o, es, ep, e, d, _⟩ := hN
        rw [← q, b3] at e
        cases e
        rw [b6] at d
        cases d
      · rw [q, hP] at b3
        cases b3
        cases b6
      · rw [b6] at z
        cases z
      · rw [b6] at z
        cases z
    · obtain ⟨o, es, ep, e, d, _⟩ := hN
      rw [z, hP] at e
      cases e
      cases d
  have e0 : Env0 P w K mg (hidT s.heap H) callerA [] s H :=
    ⟨rfl, md, fun b o e => of_hidT e, Nat.le_of_eq (hidT_size _ _), trivial, fun b q => absurd (show b ∈ ([] : List Addr) from q) (by simp), ok, .of_eq hg⟩
  refine codeAny_mono ((F _ kB (ns' hN) tb).go callerA [] s H ⟨[.ref a], []⟩ [.ref a] [.ref a] _ _ rfl hr e0 (hb s (.ref a)) (.cons rfl .nil) (hsp H hH hS)) ?_
  intro r s' q
  cases r with
  | error e => exact False.elim q
  | ok fl =>
    cases fl with
    | next => exact False.elim q
    | brk => exact False.elim q
    | cont => exact False.elim q
    | ret u =>
      obtain ⟨v, H', os, bare, un, ok', r', q'⟩ := q
      have q2 : v = .bl true := q'
      subst q2
      obtain rfl : u = Value.bool true := r'
      have old : ∀ b o, b ≠ tA → s.heap.get? b = some o → s'.heap.get? b = some o := fun b o nb e => by
        cases q : H b with
        | none => exact un.keep b o e q (fun z => absurd (show b ∈ ([] : List Addr) from z) (by simp)) (by simp)
        | some u =>
          rcases hO b (by rw [q]; simp) with z | ⟨_, _, ob, xs, z⟩
          · exact absurd z nb
          · obtain ⟨e1, _⟩ := ok b _ z
            obtain ⟨e2, _⟩ := ok' b _ (un.frzs b ob _ z)
            rw [e] at e1
            cases e1
            exact e2
      obtain ⟨more, zm⟩ := un.tbls tA #[] hH
      have new : s'.heap.get? tA = some { cls := .none, data := .fields (#[] ++ more) } := ok' tA _ zm
      have still : ∀ b o, s.heap.get? b = some o → ∃ o', s'.heap.get? b = some o' := fun b o e => by
        by_cases h : b = tA
        · subst h
          exact ⟨_, new⟩
        · exact ⟨o, old b o h e⟩
      refine ⟨rfl, ⟨?_, still⟩, os, bare⟩
      · intro b o e
        by_cases h : b = tA
        · subst h
          rw [hP] at e
          cases e
          exact .inr (.inl ⟨(hC.tab hP).isCodeTable, rfl, #[], more, rfl, new⟩)
        · exact .inl (old b o h e)
end
/-- what k_head leaves, from the promise of such a law's def -/
theorem walkGT {x : Str} {K : Params → PySem.W.Frag} {l : PySem.W.OpenLaw} {n k : Nat} {q : Program} {loose : List Str} {XP : (Str → Option Value) → Heap → Prop} {YP : World → Heap → Prop} {d : DefRec}
    (most : l.most = some n) (fit : n ≤ sizeLine) (plain : d.params.defaults = []) (hr : Room k callerA) (hY : ∀ (w : World) (h : Heap), YP w h → (K w.params).In h)
    (F : ∀ (w : World) (mg : Str → Option Value) (fa : Addr) (h : Heap), YP w h → (K w.params).In h → h.Ns mainGlobals mg → mg d.name = some (.ref fa) →
      ∃ (fd : FuncData) (cA tA : Addr) (sp : Sp), h.get? tA = some { cls := .none, data := .fields #[] } ∧ (K w.params).lookup tA = none ∧ PySem.W.CodeHd h cA tA ∧ (∀ (s : Shared) (u : Value), BindsTo s fd ⟨[u], []⟩ [(x, u)]) ∧
        (∀ (H : Hp) (a : Addr) (ns : List Int), ns.length ≤ n → H tA = some (.tbl #[]) → SqL (K w.params) H a (ns.map V.int) → sp [.ref a] H (fun v _ => v = .bl true) E0) ∧
        ∀ base : Heap, (K w.params).In base → base.Ns mainGlobals mg → TabB base mg cA tA → FnG l.prog w (K w.params) mg base k fa fd [x] sp) :
    PySem.W.WalkO q loose XP YP l.row.toRowW d [] (fun f vs => PySem.call f vs) := by
  refine Att.attach_callB most plain ?_
  intro w s₀ s₁ mg mb fa o pm cd doc a vs ns G Y ho hd hcd hmg hobj hints hlen hbits hg
  have kX := hY w _ Y
  obtain ⟨fd, cA, tA, sp, h1, h2, h3, hb, hsp, hF⟩ := F w mg fa _ Y kX G.T.g hmg
  exact law_endT kX G.T.g G.T.b G.T.builtins G.T.nolimit hg h1 h2 h3 G.T.bmain hobj hints (Nat.le_trans hlen fit) hr hF hb fun H hH hS => hsp H a ns hlen hH hS
end NB

set_option Elab.async false
set_option linter.all false
set_option maxRecDepth 100000
set_option maxHeartbeats 1000000
/-! The end of a law that shows data and whose lambdas make tables grow: some defs with lambdas. -/
namespace NB
open PySem PySem.Spec PyProof.Rows L2 LamX

section
variable {P : Program} {w : World} {K : PySem.W.Frag} {mg mb : Str → Option Value} {k : Nat} {fa a : Addr} {T : List (Addr × Addr)} {fd : FuncData} {x : Str} {sp : Sp} {s : Shared} {vs : List Value} {ns : List Int}
/-- with the script, or nothing, and the one table tracked -/
theorem law_endTs (hK : K.In s.heap) (hN : s.heap.Ns mainGlobals mg) (hB : s.heap.Ns builtinsNs mb) (hbb : ∀ x : Str, x ≠ "__name__" → mb x = bootBuiltins x) (lim : s.heap.NoLimit) (hg : s.gens = #[])
    (hP0 : ∀ p ∈ T, s.heap.get? p.2 = some { cls := .none, data := .fields #[] }) (kP0 : ∀ p ∈ T, K.lookup p.2 = none) (hC0 : ∀ p ∈ T, PySem.W.CodeHd s.heap p.1 p.2)
    (bi : ∃ (bm : Addr) (ob : Obj), mg "__builtins__" = some (.ref bm) ∧ bm ≠ builtinsNs ∧ s.heap.get? bm = some ob ∧ ob.cls = .type "module" ∧ ob.dict = some builtinsNs ∧ ob.data = .plain)
    (ha : s.heap.get? a = some { cls := .type "list", data := .seq vs.toArray }) (hi : IntsAre vs ns) (hl : ns.length ≤ sizeLine) (hr : Room k callerA)
    (F : ∀ base : Heap, K.In base → base.Ns mainGlobals mg → (∀ p ∈ T, TabB base mg p.1 p.2) → FnG P w K mg base k fa fd [x] sp) (hb : ∀ (s : Shared) (u : Value), BindsTo s fd ⟨[u], []⟩ [(x, u)])
    (hsp : ∀ H : Hp, (∀ p ∈ T, H p.2 = some (.tbl #[])) → SqL K H a (ns.map V.int) → sp [.ref a] H (fun v _ => v = .bl true) E0) :
    codeAny (model P w) callerA (.call (.ref fa) ⟨[.ref a], []⟩) (fun r s' => r = .ok (.ret (.bool true)) ∧ OldK s.heap s'.heap ∧ s'.os = s.os ∧ AllBare s'.gens) s := by
  have rv := vals_ints hi
  have lv := hi.length
  have hP : ∀ t ∈ T.map Prod.snd, s.heap.get? t = some { cls := .none, data := .fields #[] } := fun t h => by
    obtain ⟨p, hp, rfl⟩ := List.mem_map.mp h
    exact hP0 p hp
  have kP : ∀ t ∈ T.map Prod.snd, K.lookup t = none := fun t h => by
    obtain ⟨p, hp, rfl⟩ := List.mem_map.mp h
    exact kP0 p hp
  have aP : a ∉ T.map Prod.snd := fun z => by
    rw [hP a z] at ha
    have := congrArg Obj.data (Option.some.inj ha)
    cases this
  suffices go : ∀ H : Hp, (∀ t ∈ T.map Prod.snd, H t = some (.tbl #[])) → (∀ b, H b ≠ none → b ∈ T.map Prod.snd ∨ (b = a ∧ K.lookup a = none ∧ ∃ o xs, H b = some (.frz o (.lst xs)))) → SqL K H a (ns.map V.int) → HOk P w H s.heap →
      codeAny (model P w) callerA (.call (.ref fa) ⟨[.ref a], []⟩) (fun r s' => r = .ok (.ret (.bool true)) ∧ OldK s.heap s'.heap ∧ s'.os = s.os ∧ AllBare s'.gens) s by
    cases hk : K.lookup a with
    | some o =>
      have e := hK a o hk
      rw [ha] at e
      cases e
      refine go (fun b => if b ∈ T.map Prod.snd then some (.tbl #[]) else none) (fun t h => if_pos h) (fun b q => ?_) (.inr ⟨_, vs.toArray, _, hk, rfl, rfl, rfl, ?_, by simpa using rv⟩) (fun b u q => ?_)
      · by_cases h : b ∈ T.map Prod.snd
        · exact .inl h
        · exact absurd (if_neg h) q
      · rw [List.size_toArray, lv]
        exact hl
      · by_cases h : b ∈ T.map Prod.snd
        · have q' := (if_pos h).symm.trans q
          cases q'
          exact hP b h
        · have q' := (if_neg h).symm.trans q
          cases q'
    | none =>
      refine go (fun b => if b ∈ T.map Prod.snd then some (.tbl #[]) else if b = a then some (.frz { cls := .type "list", data := .seq vs.toArray } (.lst (ns.map V.int))) else none) (fun t h => if_pos h) (fun b q => ?_) (.inl (.inr ⟨_, (if_neg aP).trans (if_pos rfl)⟩)) (fun b u q => ?_)
      · by_cases h : b ∈ T.map Prod.snd
        · exact .inl h
        · by_cases h2 : b = a
          · exact .inr ⟨h2, hk, _, _, (if_neg h).trans (if_pos h2)⟩
          · exact absurd ((if_neg h).trans (if_neg h2)) q
      · by_cases h : b ∈ T.map Prod.snd
        · have q' := (if_pos h).symm.trans q
          cases q'
          exact hP b h
        · by_cases h2 : b = a
          · have q' := ((if_neg h).trans (if_pos h2)).symm.trans q
            cases q'
            subst h2
            exact ⟨ha, by rw [List.length_map]; exact hl, vs, _, rv, ha⟩
          · have q' := ((if_neg h).trans (if_neg h2)).symm.trans q
            cases q'
  intro H hH hO hS ok
  -- what is neither a list nor the table is not tracked
  have off : ∀ {b : Addr} {o : Obj}, s.heap.get? b = some o → (∀ us n, o.data ≠ .seq us n) → o.data ≠ .fields #[] → H b = none := fun {b o} e n1 n2 => by
    cases q : H b with
    | none => rfl
    | some u =>
      rcases hO b (by rw [q]; simp) with h | ⟨rfl, _⟩
      · rw [hP b h] at e
        cases e
        exact absurd rfl n2
      · rw [ha] at e
        cases e
        exact absurd rfl (n1 _ _)
  have seen : ∀ {b : Addr} {o : Obj}, s.heap.get? b = some o → H b = none → (hidT s.heap H).get? b = some o := fun e n => hidT_get e n
  have ns' : ∀ {b : Addr} {m : Str → Option Value}, s.heap.Ns b m → (hidT s.heap H).Ns b m := by
    rintro b m ⟨o, es, ep, e, d, r⟩
    refine ⟨o, es, ep, seen e (off e (fun us n z => ?_) fun z => ?_), d, r⟩
    · rw [d] at z
      cases z
    · rw [d] at z
      cases z
  have kB : K.In (hidT s.heap H) := by
    intro b o e
    refine seen (hK b o e) ?_
    cases q : H b with
    | none => rfl
    | some u =>
      rcases hO b (by rw [q]; simp) with h | ⟨rfl, n, _⟩
      · rw [kP b h] at e
        cases e
      · rw [n] at e
        cases e
  have md : Mod K mg (hidT s.heap H) := by
    obtain ⟨mc, h1, h2⟩ := lim
    exact ⟨kB, ns' hN, ⟨mb, ns' hB, hbb⟩, ⟨mc, ns' h1, h2⟩⟩
  have tb : ∀ p ∈ T, TabB (hidT s.heap H) mg p.1 p.2 := fun p hp => by
    have hC := hC0 p hp
    have hPp := hP0 p hp
    refine ⟨?_, ?_, fun z => ?_⟩
    · obtain ⟨o, us, v1, v2, v3, v4, v5, v6, v7, e, d1, d2, d3⟩ := hC
      refine ⟨o, us, v1, v2, v3, v4, v5, v6, v7, seen e (off e (fun us' n z => ?_) fun z => ?_), d1, d2, d3⟩
      · rw [d2] at z
        cases z
      · rw [d2] at z
        cases z
        have d4 := d3.1
        simp at d4
    · obtain ⟨bm, ob, b1, b2, b3, b4, b5, b6⟩ := bi
      refine ⟨bm, ob, b1, b2, fun q => ?_, fun q => ?_, seen b3 (off b3 (fun us n z => ?_) fun z => ?_), b4, b5, b6⟩
      · obtain ⟨o, es, ep, e, d, _⟩ := hN
        rw [← q, b3] at e
        cases e
        rw [b6] at d
        cases d
      · rw [q, hPp] at b3
        cases b3
        cases b6
      · rw [b6] at z
        cases z
      · rw [b6] at z
        cases z
    · obtain ⟨o, es, ep, e, d, _⟩ := hN
      rw [z, hPp] at e
      cases e
      cases d
  have e0 : Env0 P w K mg (hidT s.heap H) callerA [] s H :=
    ⟨rfl, md, fun b o e => of_hidT e, Nat.le_of_eq (hidT_size _ _), trivial, fun b q => absurd (show b ∈ ([] : List Addr) from q) (by simp), ok, .of_eq hg⟩
  refine codeAny_mono ((F _ kB (ns' hN) tb).go callerA [] s H ⟨[.ref a], []⟩ [.ref a] [.ref a] _ _ rfl hr e0 (hb s (.ref a)) (.cons rfl .nil) (hsp H (fun p hp => hH p.2 (List.mem_map.mpr ⟨p, hp, rfl⟩)) hS)) ?_
  intro r s' q
  cases r with
  | error e => exact False.elim q
  | ok fl =>
    cases fl with
    | next => exact False.elim q
    | brk => exact False.elim q
    | cont => exact False.elim q
    | ret u =>
      obtain ⟨v, H', os, bare, un, ok', r', q'⟩ := q
      have q2 : v = .bl true := q'
      subst q2
      obtain rfl : u = Value.bool true := r'
      have old : ∀ b o, b ∉ T.map Prod.snd → s.heap.get? b = some o → s'.heap.get? b = some o := fun b o nb e => by
        cases q : H b with
        | none => exact un.keep b o e q (fun z => absurd (show b ∈ ([] : List Addr) from z) (by simp)) (by simp)
        | some u =>
          rcases hO b (by rw [q]; simp) with z | ⟨_, _, ob, xs, z⟩
          · exact absurd z nb
          · obtain ⟨e1, _⟩ := ok b _ z
            obtain ⟨e2, _⟩ := ok' b _ (un.frzs b ob _ z)
            rw [e] at e1
            cases e1
            exact e2
      have new : ∀ t ∈ T.map Prod.snd, ∃ more, s'.heap.get? t = some { cls := .none, data := .fields (#[] ++ more) } := fun t ht => by
        obtain ⟨more, zm⟩ := un.tbls t #[] (hH t ht)
        exact ⟨more, ok' t _ zm⟩
      have still : ∀ b o, s.heap.get? b = some o → ∃ o', s'.heap.get? b = some o' := fun b o e => by
        by_cases h : b ∈ T.map Prod.snd
        · obtain ⟨more, nw⟩ := new b h
          exact ⟨_, nw⟩
        · exact ⟨o, old b o h e⟩
      refine ⟨rfl, ⟨?_, still⟩, os, bare⟩
      · intro b o e
        by_cases h : b ∈ T.map Prod.snd
        · rw [hP b h] at e
          cases e
          obtain ⟨p, hp, rfl⟩ := List.mem_map.mp h
          obtain ⟨more, new⟩ := new p.2 h
          have hC := hC0 p hp
          have hP := hP0 p hp
          exact .inr (.inl ⟨(hC.tab hP).isCodeTable, rfl, #[], more, rfl, new⟩)
        · exact .inl (old b o h e)
end
/-- what k_head leaves, from the promise of such a law's def -/
theorem walkGTs {x : Str} {K : Params → PySem.W.Frag} {l : PySem.W.OpenLaw} {n k : Nat} {q : Program} {loose : List Str} {XP : (Str → Option Value) → Heap → Prop} {YP : World → Heap → Prop} {d : DefRec}
    (most : l.most = some n) (fit : n ≤ sizeLine) (plain : d.params.defaults = []) (hr : Room k callerA) (hY : ∀ (w : World) (h : Heap), YP w h → (K w.params).In h)
    (F : ∀ (w : World) (mg : Str → Option Value) (fa : Addr) (h : Heap), YP w h → (K w.params).In h → h.Ns mainGlobals mg → mg d.name = some (.ref fa) →
      ∃ (fd : FuncData) (T : List (Addr × Addr)) (sp : Sp), (∀ p ∈ T, h.get? p.2 = some { cls := .none, data := .fields #[] }) ∧ (∀ p ∈ T, (K w.params).lookup p.2 = none) ∧ (∀ p ∈ T, PySem.W.CodeHd h p.1 p.2) ∧ (∀ (s : Shared) (u : Value), BindsTo s fd ⟨[u], []⟩ [(x, u)]) ∧
        (∀ (H : Hp) (a : Addr) (ns : List Int), ns.length ≤ n → (∀ p ∈ T, H p.2 = some (.tbl #[])) → SqL (K w.params) H a (ns.map V.int) → sp [.ref a] H (fun v _ => v = .bl true) E0) ∧
        ∀ base : Heap, (K w.params).In base → base.Ns mainGlobals mg → (∀ p ∈ T, TabB base mg p.1 p.2) → FnG l.prog w (K w.params) mg base k fa fd [x] sp) :
    PySem.W.WalkO q loose XP YP l.row.toRowW d [] (fun f vs => PySem.call f vs) := by
  refine Att.attach_callB most plain ?_
  intro w s₀ s₁ mg mb fa o pm cd doc a vs ns G Y ho hd hcd hmg hobj hints hlen hbits hg
  have kX := hY w _ Y
  obtain ⟨fd, T, sp, h1, h2, h3, hb, hsp, hF⟩ := F w mg fa _ Y kX G.T.g hmg
  exact law_endTs kX G.T.g G.T.b G.T.builtins G.T.nolimit hg h1 h2 h3 G.T.bmain hobj hints (Nat.le_trans hlen fit) hr hF hb fun H hH hS => hsp H a ns hlen hH hS
section
variable {P : Program} {w : World} {K : PySem.W.Frag} {mg : Str → Option Value} {base : Heap}
/-- as fnG, with the def's own code object in hand -/
theorem fnGC {x qual : Str} {st : Stmt} {f : Addr} {fd : FuncData} {N ps : List Str} {k : Nat} {sp : Sp} (F : Fun K x qual st f fd)
    (S : FnScope N ps (defScope st)) (len : ∀ vs H Q E, sp vs H Q E → vs.length = ps.length)
    (body : ∀ (A : Around) (out : List Env) (s : Shared) (H : Hp) (vs : List V) (Q : VK) (E : XK),
      A.guards = some [] → Room k (A.deeper (envOfC qual (defScope st) s.heap.objs.size f fd.code)) → sp vs H Q E →
      ∃ t, PSs (cxOf CX0 P w K mg base N qual (defScope st) f fd.code A out s H E).nox (defBody st) t ∧
        t { nx := fun _ H' => Q .non H', rt := Q } (start N vs) H) :
    FnG P w K mg base (k + 1) f fd ps sp := by
  obtain ⟨oc, od, kV, doc, pm, an, c, ct, osl, rfl, lk, hc⟩ := F.ex
  refine ⟨len, fun A out s H ar us vs Q E hg hr e hb r h => ?_⟩
  have stays : ∀ b o, base.get? b = some o → s.heap.get? b = some o := fun b o q => (e.bs b o q).1
  have inH : K.In s.heap := e.mod.kin.keeps stays
  have noLim : s.heap.NoLimit := e.mod.nolimit.keeps stays
  have kinds : ∀ y ∈ ps.zip us, (defScope st).names.lookup y.1 = some .local ∨
      ((defScope st).names.lookup y.1 = some .cell ∧ ((cellsFrom (s.heap.objs.size + 1) (defScope st).names []).lookup y.1).isSome = true) := by
    intro y hy
    obtain ⟨n, v⟩ := y
    cases S.par n (List.of_mem_zip hy).1 with
    | inl q => exact .inl q
    | inr q => exact .inr ⟨q, PySem.W.cellsFrom_some _ _ _ (.inl q)⟩
  refine codeAny_call_function hr.depth (inH _ _ lk) rfl S.co S.gen rfl (PySem.W.codeRec_of inH hc) (hb _ _ _ _ ?_)
  refine wpAny_newFunctionEnv_cells S.kind kinds ?_
  rintro env rfl s1 x
  refine ⟨noLim.keeps x.toInCall.keep, codeAny_func ?_⟩
  obtain ⟨t, ht, hq⟩ := body A out s H vs Q E hg (hr.deeper _) h
  have I := inv_start (CX := CX0) (E := E) S hr.hd e (len _ _ _ _ h) r x
  refine wpAny_mono (ht.nox.run [] s1 (start N vs) H _ I hq) ?_ fun _ _ z => z
  intro fl s' z
  cases fl with
  | ret u =>
    obtain ⟨v, σ', H', J, rv, q⟩ := z
    exact ⟨v, H', J.os, J.bare, J.base, J.hok, rv, q⟩
  | next =>
    obtain ⟨σ', H', J, q⟩ := z
    exact ⟨V.non, H', J.os, J.bare, J.base, J.hok, rfl, q⟩
  | brk => exact False.elim z.choose_spec.choose_spec.2
  | cont => exact False.elim z.choose_spec.choose_spec.2
end
end NB

set_option Elab.async false
set_option linter.all false
set_option maxRecDepth 100000
namespace K61
open PySem PySem.Spec PyProof.Rows L2 NB

/-! ### a hand refuses -/
theorem But.kp {a : Addr} {H H' : Hp} {c : Nat} (b : But a H H') (p : PotAt H a c) : Keep H H' := fun x o n e => b _ _ (fun z => by
  obtain ⟨_, _, _, e2, _⟩ := p
  rw [z, e2] at e
  cases e
  exact n _ rfl) e
theorem HandAt.kp {C : Addr} {H H' : Hp} {x D T : Addr} {h : Hd} (a : HandAt C H x D T h) (k : Keep H H') : HandAt C H' x D T h := by
  obtain ⟨dx, v, hs, e, w, d, t, l⟩ := a
  refine ⟨dx, v, hs, k _ _ (fun _ z => by cases z) e, w.keep k, ?_, k _ _ (fun _ z => by cases z) t, l.keep k⟩
  rcases d with d | ⟨od, d⟩
  · exact .inl (k _ _ (fun _ z => by cases z) d)
  · exact .inr ⟨od, k _ _ (fun _ z => by cases z) d⟩
/-- any thing but the number of a rule that the hand shares -/
def ThP (a : Addr) (h : Hd) (H : Hp) (v : V) : Prop := ∃ d, Da a H v d ∧ Sm d 1300 21 ∧ shD h d = false
def ThA (a : Addr) (h : Hd) (H : Hp) (xs : List V) : Prop := ∀ v ∈ xs, ThP a h H v
theorem ThA.bn {a : Addr} {h : Hd} {H H' : Hp} {c : Nat} {xs : List V} (t : ThA a h H xs) (p : PotAt H a c) (b : BN a H H') : ThA a h H' xs := fun v hv => by
  obtain ⟨d, h1, h2, h3⟩ := t v hv
  exact ⟨d, BN.da h1 p b, h2, h3⟩
theorem no_sh {h : Hd} (nb : ∀ r ∈ h.rows, 0 ≤ r.1 ∧ r.1 ≤ 90) {i : Int} (hi : i < 0 ∨ 91 ≤ i) : look h.rows i = none := by
  cases e : look h.rows i with
  | none => rfl
  | some z =>
    have := nb _ (look_some e)
    simp only at this
    omega
theorem od_sh {h : Hd} (nb : ∀ r ∈ h.rows, 0 ≤ r.1 ∧ r.1 ≤ 90) {d : PyData} (o : OdP d) : shD h d = false := by
  rcases int_or d with ⟨i, rfl⟩ | ⟨_, z⟩
  · show h.shares i = false
    unfold Hd.shares
    rw [no_sh nb (by rcases o.2 i rfl with z | z <;> omega)]
  · exact (z h).1
theorem in_intsR {x : Int} {ns : List Int} (h : x ∈ ns) : inV (.int x) (ns.map V.int) = true := by
  unfold inV
  rw [List.any_eq_true]
  exact ⟨.int x, List.mem_map.mpr ⟨x, h, rfl⟩, by show (x == x) = true; exact beq_self_eq_true x⟩
theorem flat_intsR (ns : List Int) : (ns.map V.int).all flatV = true := by
  rw [List.all_eq_true]
  intro v hv
  obtain ⟨n, _, rfl⟩ := List.mem_map.mp hv
  rfl
abbrev qRt : Str := (envOfC "_law_right" (defScope (topS 32)) 0 0 .none).qual ++ "<lambda>"
section
open LamX
variable {P : Program} {w : World} {K : PySem.W.Frag} {mg : Str → Option Value} {base : Heap}
def spRight (C : Addr) (TT : List (Addr × Str)) : Sp := fun vs H Q _ => ∃ (a x D T R : Addr) (h : Hd) (hs : List (Int × Addr)) (c : Nat), vs = [.ref a, .ref x, .ref R] ∧ PotAt H a c ∧ c < 800000 ∧ HandAt C H x D T h ∧ Hs h ∧ h.thing ≤ 11 ∧ (∀ r ∈ h.rows, 0 ≤ r.1 ∧ r.1 ≤ 90) ∧ (h.rows.map (·.1)).Nodup ∧ H R = some (.dK (kvH hs)) ∧ R ≠ D ∧ R ≠ T ∧ Held H hs h.rows ∧ Tabs TT H ∧
  ∀ H', BN a H H' → PotAt H' a (c + 500) → Tabs TT H' → Q (.bl true) H'
theorem BN.tk {a : Addr} {H H' : Hp} {c : Nat} (b : BN a H H') (p : PotAt H a c) : TupK H H' := fun x xs e => b _ _ (fun z => by
  obtain ⟨_, _, _, e2, _⟩ := p
  rw [z, e2] at e
  cases e) e (fun _ z => by cases z)
theorem BN.ext {a : Addr} {H H' : Hp} (x : ExtN H H') : BN a H H' := fun b o _ e t => x b o e t
theorem HandAt.bn {C a : Addr} {H H' : Hp} {c : Nat} {x D T : Addr} {h : Hd} (g : HandAt C H x D T h) (p : PotAt H a c) (b : BN a H H') : HandAt C H' x D T h := by
  obtain ⟨dx, v, hs, e, w, d, t, l⟩ := g
  have na : ∀ {z : Addr} {o : HO}, H z = some o → (∀ xs, o ≠ .lst xs) → z ≠ a := fun e n z => by
    obtain ⟨_, _, _, e2, _⟩ := p
    rw [z, e2] at e
    cases e
    exact n _ rfl
  have e0 : H x = some (.ins C dx [("thing", .int (h.thing : Int)), ("place", .int h.place), ("wish", v), ("held", .ref D), ("tally", .ref T)]) := e
  refine ⟨dx, v, hs, b _ _ (na e0 (fun _ z => by cases z)) e0 (fun _ z => by cases z), w.tk (b.tk p), ?_, b _ _ (na t (fun _ z => by cases z)) t (fun _ z => by cases z), l.tk (b.tk p)⟩
  rcases d with d | ⟨od, d⟩
  · exact .inl (b _ _ (na d (fun _ z => by cases z)) d (fun _ z => by cases z))
  · exact .inr ⟨od, b _ _ (na d (fun _ z => by cases z)) d (fun _ z => by cases z)⟩
theorem PotAt.ext {H H' : Hp} {a : Addr} {c : Nat} (p : PotAt H a c) (x : ExtN H H') : PotAt H' a c := by
  obtain ⟨i, j, r, e, h1, h2, h3⟩ := p
  exact ⟨i, j, r, x _ _ e (fun _ z => by cases z), h1, h2, h3⟩
theorem TabS.butP {H H' : Hp} {P a : Addr} {q : Str} {c : Nat} (t : TabS H P q) (p : PotAt H a c) (b : But a H H') : TabS H' P q := by
  obtain ⟨ps, h1, h2, h3⟩ := t
  obtain ⟨_, _, _, e2, _⟩ := p
  refine ⟨ps, b _ _ (fun z => by rw [z, e2] at h1; cases h1) h1, h2, fun pos cv hc => ?_⟩
  obtain ⟨c, e1, e3⟩ := h3 pos cv hc
  refine ⟨c, e1, b _ _ (fun z => by rw [z, e2] at e3; cases e3) e3⟩
theorem Tabs.butP {T : List (Addr × Str)} {H H' : Hp} {a : Addr} {c : Nat} (t : Tabs T H) (p : PotAt H a c) (b : But a H H') : Tabs T H' := fun z hz => TabS.butP (t z hz) p b
/-- what is asked raises: the class and the value are told as the law tells them -/
theorem ref_no {K : PySem.W.Frag} {T : List (Addr × Str)} {CE n : Addr} {b1 b2 : Bool} {t : XK → TE} {i : Nat} {σ : L2.St} {H : Hp} {Q : Bool → Hp → Prop} {v : V} {d : PyData} {w k : Nat}
    (hT : Tabs T H) (hv : σ[i]? = some (some v)) (sm : Sm d w k) (hw : w ≤ 150000) (hk : k ≤ 60)
    (h : ∀ G, ExtN H G → Tabs T G → Da n G v d ∧ ∀ E : XK, (∀ H' e, Same G H' → G e = none → H' e = some (.xd [("thing", v)]) → E (.ref CE) (some e) H') → t E σ G (fun _ _ => False))
    (q : ∀ H', ExtN H H' → Tabs T H' → Q false H') :
    tTest (tOp (fun x y H Q => ∃ (a b c d : Addr) (bs : List Bool) (t : Str), x = .ref a ∧ y = .ref b ∧ SqL K H a [.ref c, .str t] ∧ SqL K H b [.ref d, .str t] ∧ SqL K H c (bs.map V.bl) ∧ SqL K H d (bs.map V.bl) ∧ c ≠ d ∧ Q (.bl false) H) (tLam T (TRef CE b1 b2) t) (tCall (spNo b1 b2) [] E0 (tCons (tVar i) tNil))) σ H Q := by
  refine ⟨hT, fun G x tG => ?_⟩
  obtain ⟨dv, hr⟩ := h G x tG
  refine hr _ (fun H' e s1 ne ed => ⟨rfl, e, n, v, d, w, k, rfl, ed, dv.same s1, sm, hw, hk, fun H2 B L s2 nB nL eB eL => ?_⟩)
  refine ⟨v, hv, n, v, d, w, k, rfl, (dv.same s1).same s2, sm, hw, hk, fun H3 B3 L3 s3 nB3 nL3 eB3 eL3 => ?_⟩
  exact ⟨L, L3, B, B3, [b1, b2], d.shown, rfl, rfl, .inl (.inl (s3 _ _ eL)), .inl (.inl eL3), .inl (.inl (s3 _ _ eB)), .inl (.inl eB3), (fun z => by rw [← z, s3 _ _ eB] at eB3; rw [← z, eB] at nB3; cases nB3), ⟨false, rfl, q _ (x.trans (ExtN.of ((s1.trans s2).trans s3))) (tG.ext ((s1.trans s2).trans s3))⟩⟩
theorem ask1 {C x D T : Addr} {m : Str} {H : Hp} {h : Hd} {sp : Sp} {σ : L2.St} {E : XK} {F : VK} {i j : Nat} {v : V} (a : HandAt C H x D T h) (hx : σ[j]? = some (some (.ref x)))
    (lk : ∀ i p v d t : V, ([("thing", i), ("place", p), ("wish", v), ("held", d), ("tally", t)] : List (Str × V)).lookup m = none) (hv : σ[i]? = some (some v)) (hs : sp [.ref x, v] H F E) : tMeth C m sp [] E (tVar j) (tCons (tVar i) tNil) σ H F := by
  obtain ⟨dx, vw, hs2, i0, _⟩ := a
  have i0' : H x = some (.ins C dx [("thing", .int (h.thing : Int)), ("place", .int h.place), ("wish", vw), ("held", .ref D), ("tally", .ref T)]) := i0
  exact ⟨.ref x, hx, x, dx, _, rfl, i0', lk .., v, hv, hs⟩
theorem hand_updR {C : Addr} {H : Hp} {x D T b : Addr} {h : Hd} {kvs : List (Key × V)} {o : HO} (a : HandAt C H x D T h) (e : H b = some (.dK kvs)) (nD : D ≠ b) (nT : T ≠ b) : HandAt C (upd H b o) x D T h := by
  obtain ⟨dx, v, hs, a1, a2, a3, a4, a5⟩ := a
  have tk : TupK H (upd H b o) := fun c xs ec => (upd_ne (fun z => by rw [z, e] at ec; cases ec)).trans ec
  have nx : x ≠ b := fun z => by
    have a1' : H x = some (.ins C dx [("thing", .int (h.thing : Int)), ("place", .int h.place), ("wish", v), ("held", .ref D), ("tally", .ref T)]) := a1
    rw [z, e] at a1'
    cases a1'
  exact ⟨dx, v, hs, (upd_ne nx).trans a1, a2.tk tk, ru nD a3, (upd_ne nT).trans a4, a5.tk tk⟩
theorem TabS.set {H : Hp} {P R : Addr} {q : Str} {o o' : HO} (t : TabS H P q) (e : H R = some o) (n1 : ∀ ps, o ≠ .tbl ps) (n2 : ∀ c q, o ≠ CodeO c q) : TabS (upd H R o') P q := by
  obtain ⟨ps, h1, h2, h3⟩ := t
  refine ⟨ps, (upd_ne (fun z => by rw [z, e] at h1; cases h1; exact n1 _ rfl)).trans h1, h2, fun pos cv hc => ?_⟩
  obtain ⟨c, e1, e3⟩ := h3 pos cv hc
  exact ⟨c, e1, (upd_ne (fun z => by rw [z, e] at e3; exact n2 _ _ (Option.some.inj e3))).trans e3⟩
theorem Tabs.set {T : List (Addr × Str)} {H : Hp} {R : Addr} {o o' : HO} (t : Tabs T H) (e : H R = some o) (n1 : ∀ ps, o ≠ .tbl ps) (n2 : ∀ c q, o ≠ CodeO c q) : Tabs T (upd H R o') := fun z hz => TabS.set (t z hz) e n1 n2
abbrev a__law_right : Stmt := topS 32
abbrev n__law_right : List Str := ["_law_pot_here", "_law_hand", "_law_rules", "_law_number", "_law_shared", "_law_ahead", "_law_here", "_law_own_ones", "_law_beyond", "_law_thing", "_law_turn"]
theorem sc__law_right : FnScope n__law_right ["_law_pot_here", "_law_hand", "_law_rules"] (defScope a__law_right) := ⟨rfl, rfl, rfl, by decide +kernel, rfl, by decide +kernel, by decide +kernel⟩
set_option maxHeartbeats 8000000 in
theorem ok__law_right {f fSt fOd fNr fNl fNs : Addr} {fd fdSt fdOd fdNr fdNl fdNs : FuncData}  {C CB CT CR CL fC cL PL : Addr} {fdC : FuncData} {TT : List (Addr × Str)} (F : Fun K "_law_right" "_law_right" a__law_right f fd) (St : FnG P w K mg base 8 fSt fdSt ["_law_hand", "_law_numbers"] (spState C)) (gSt : mg "_law_state" = some (.ref fSt)) (kSt : PySem.W.keepIn K (.ref fSt) = true) (bSt : Binds K fdSt ["_law_hand", "_law_numbers"] []) (Od : Kn P w K mg base 3 "_law_odd" ["_law_pot_here"] spOdd fOd fdOd) (Nr : FnG P w K mg base 2 fNr fdNr ["_law_thing"] (spNo true false)) (gNr : mg "_law_no_rule" = some (.ref fNr)) (kNr : PySem.W.keepIn K (.ref fNr) = true) (bNr : Binds K fdNr ["_law_thing"] []) (Nl : FnG P w K mg base 2 fNl fdNl ["_law_thing"] (spNo false true)) (gNl : mg "_law_no_letter" = some (.ref fNl)) (kNl : PySem.W.keepIn K (.ref fNl) = true) (bNl : Binds K fdNl ["_law_thing"] []) (Ns : Kn P w K mg base 4 "_law_no_letters" ["_law_pot_here", "_law_hand", "_law_rules"] (spNls C) fNs fdNs) (Hc : MetX P w K mg base 4 C "count_of" (spCountR C CR)) (Hv : MetX P w K mg base 5 C "has_leave" (spCountR C CR)) (Hdr : MetX P w K mg base 3 C "drop" (spDropR C CR)) (Hpu : MetX P w K mg base 3 C "put" (spPutR C CR)) (Her : MetX P w K mg base 7 C "hear" (spHearR C CL)) (X : HandTxt K C) (RT : RefT K mg CB CT CR CL) (RR : RefC K CB CT CR CL CR true false) (RL : RefC K CB CT CR CL CL false true) (FC : Fun K "_law_refusal" "_law_refusal" a__law_refusal fC fdC) (gC : mg "_law_refusal" = some (.ref fC)) (TB : TabB base mg cL PL) (hcd : fd.code = .ref cL) (hm : (PL, qRt) ∈ TT) (hu : ∀ p ∈ TT, p.1 = PL → p.2 = qRt) (m_list : mg "list" = none) (m_max : mg "max" = none) (m_range : mg "range" = none) (m_sorted : mg "sorted" = none) : FnG P w K mg base 12 f fd ["_law_pot_here", "_law_hand", "_law_rules"] (spRight C TT) := by
  refine fnGC F sc__law_right (fun vs H Q E h => ?_) (fun A outer s H vs Q E hG hr h => ?_)
  · obtain ⟨a, x, D, T, R, h, hs, c, rfl, _⟩ := h
    rfl
  · obtain ⟨a, x, D, T, R, h, hs, c, rfl, pa, hc, ha, hS, th, nb, nd, eR, nRD, nRT, hl, tB, q⟩ := h
    refine ⟨_, (pss_cons (ps_set (i := 4) sc__law_right.nd rfl (.inr rfl) (
        pe_lc (own := [("_law_number", 3)]) (g := (gName 3)) (tt := (tTest (tOp rNe (tOp (rIxT K) (tOp (rIxT K) (tDGet (tVar 2) (tVar 3)) (tC (.int 0))) (tC (.int 0))) (tOp (rIxT K) (tOp (rIxT K) (tDGet (tVar 2) (tVar 3)) (tC (.int 1))) (tC (.int 0)))))) (te := (tVar 3)) rfl sc__law_right.nd (pi_list (pe_callB (call_sortedDI rfl) (by rfl) m_sorted (by decide +kernel) (pa_cons (pv 2) pa_nil))) (blkOk_by (N := n__law_right) (sc := defScope a__law_right) (by decide +kernel))
          (fun _ _ _ _ _ => (pg_name (i := 3) sc__law_right.nd rfl (.inl rfl) (hf := .inr rfl))) (fun _ _ _ _ _ => pts_one (pt_cmpR op_ne (pe_ix (r := rIxT K) ix_tup (pe_ix (r := rIxT K) ix_tup (pe_dget (hu_of hr) (pv 2) (pv 3) (fun _ _ => rfl)) pe_int (fun _ _ => rfl)) pe_int (fun _ _ => rfl)) (pe_ix (r := rIxT K) ix_tup (pe_ix (r := rIxT K) ix_tup (pe_dget (hu_of hr) (pv 2) (pv 3) (fun _ _ => rfl)) pe_int (fun _ _ => rfl)) pe_int (fun _ _ => rfl)) (nomark _))) (fun _ _ _ _ _ => (pv 3))))
      (pss_cons (ps_par (i := 5) (j := 6) (by rfl) sc__law_right.nd rfl rfl (by decide) rfl rfl (pa_cons (pe_callG hG St (hr.mono (by omega)) (by rfl) gSt kSt bSt (pa_cons (pv 1) (pa_cons (pv 4) pa_nil))) (pa_cons (
        pe_lc (own := [("_law_turn", 10)]) (g := (gName 10)) (tt := tYes) (te := (tCall spOdd [] E0 (tCons (tVar 0) tNil))) rfl sc__law_right.nd (pi_range1 (by rfl) m_range (pa_cons pe_int pa_nil)) (blkOk_by (N := n__law_right) (sc := defScope a__law_right) (by decide +kernel))
          (fun _ _ _ _ _ => (pg_name (i := 10) sc__law_right.nd rfl (.inl rfl) (hf := .inr rfl))) (fun _ _ _ _ _ => pts_nil) (fun _ _ _ _ _ => (pe_kn Od hr (by omega) (pa_cons (pv 0) pa_nil)))) pa_nil)) (by rfl))
      (pss_cons (ps_par (i := 7) (j := 8) (by rfl) sc__law_right.nd rfl rfl (by decide) rfl rfl (pa_cons (
        pe_lock (pe_lc (own := [("_law_number", 3)]) (g := (gName 3)) (tt := (tTest (tOp (rIn K true) (tVar 3) (tVar 4)))) (te := (tVar 3)) rfl sc__law_right.nd (pi_keys (pv 2)) (blkOk_by (N := n__law_right) (sc := defScope a__law_right) (by decide +kernel))
          (fun _ _ _ _ _ => (pg_name (i := 3) sc__law_right.nd rfl (.inl rfl) (hf := .inr rfl))) (fun _ _ _ _ _ => pts_one (pt_cmpR op_notIn_seq (pv 3) (pv 4) (by rfl))) (fun _ _ _ _ _ => (pv 3)))) (pa_cons (pe_op op_add (pe_callB (cr_max rfl) (by rfl) m_max (by decide +kernel) (pa_cons (pe_op op_cat (pe_lstN (pa_cons pe_int pa_nil)) (pe_callTy (call_listD rfl) (by rfl) m_list (by decide +kernel) (pa_cons (pv 2) pa_nil))) pa_nil)) pe_int) pa_nil)) (by rfl))
      (pss_cons (ps_for PassesOwn.never rfl (pi_list (pe_op op_cat (pe_op op_cat (pv 6) (pv 7)) (pe_lstN (pa_cons (pv 8) (pa_cons pe_bl pa_nil))))) (pg_name (i := 9) sc__law_right.nd rfl (.inr rfl))
        (pss_cons (ps_if (pt_cmpR (op_neLS hr.units) (pe_refusal (t := fun E => tMeth C "count_of" (spCountR C CR) [] E (tVar 1) (tCons (tVar 9) tNil)) RT RR hG FC gC (by rfl) TB hcd hm hu (k := 9) hr (lamS_by (show lamSB (defScope a__law_right) _ = true by decide +kernel)) (by rfl) (fun _ _ _ _ _ => rfl) (fun A' outer' s' H' E' f' c' hr' => pe_mtP Hc hr' (by omega) (takes_of rfl rfl rfl rfl) (pv 1) (pa_cons (pv 9) pa_nil))) (pe_callG hG Nr (hr.mono (by omega)) (by rfl) gNr kNr bNr (pa_cons (pv 9) pa_nil)) (nomark _)) (pss_one (ps_ret pe_bl)) pss_nil)
      (pss_one (ps_if (pt_cmpR (op_neLS hr.units) (pe_refusal (t := fun E => tMeth C "has_leave" (spCountR C CR) [] E (tVar 1) (tCons (tVar 9) tNil)) RT RR hG FC gC (by rfl) TB hcd hm hu (k := 9) hr (lamS_by (show lamSB (defScope a__law_right) _ = true by decide +kernel)) (by rfl) (fun _ _ _ _ _ => rfl) (fun A' outer' s' H' E' f' c' hr' => pe_mtP Hv hr' (by omega) (takes_of rfl rfl rfl rfl) (pv 1) (pa_cons (pv 9) pa_nil))) (pe_callG hG Nr (hr.mono (by omega)) (by rfl) gNr kNr bNr (pa_cons (pv 9) pa_nil)) (nomark _)) (pss_one (ps_ret pe_bl)) pss_nil))))
      (pss_cons (ps_for PassesOwn.never rfl (pi_tup (pe_tup (pa_cons (pv 8) (pa_cons (pe_op op_add (pv 8) pe_int) (pa_cons (pe_op op_pow pe_int pe_int) pa_nil))))) (pg_name (i := 3) sc__law_right.nd rfl (.inr rfl))
        (pss_one (ps_if (pt_cmpR (op_neLS hr.units) (pe_refusal (t := fun E => tMeth C "drop" (spDropR C CR) [] E (tVar 1) (tCons (tVar 3) tNil)) RT RR hG FC gC (by rfl) TB hcd hm hu (k := 9) hr (lamS_by (show lamSB (defScope a__law_right) _ = true by decide +kernel)) (by rfl) (fun _ _ _ _ _ => rfl) (fun A' outer' s' H' E' f' c' hr' => pe_mtP Hdr hr' (by omega) (takes_of rfl rfl rfl rfl) (pv 1) (pa_cons (pv 3) pa_nil))) (pe_callG hG Nr (hr.mono (by omega)) (by rfl) gNr kNr bNr (pa_cons (pv 3) pa_nil)) (nomark _)) (pss_one (ps_ret pe_bl)) pss_nil)))
      (pss_cons (ps_lock (ps_for PassesOwn.never rfl (pi_keys (pv 2)) (pg_name (i := 3) sc__law_right.nd rfl (.inr rfl))
        (pss_one (ps_if (pt_cmpR (op_neLS hr.units) (pe_refusal (t := fun E => tMeth C "put" (spPutR C CR) [] E (tVar 1) (tCons (tVar 3) (tCons (tDGet (tVar 2) (tVar 3)) (tCons (tC (.int 7)) tNil)))) RT RR hG FC gC (by rfl) TB hcd hm hu (k := 9) hr (lamS_by (show lamSB (defScope a__law_right) _ = true by decide +kernel)) (by rfl) (fun _ _ _ _ _ => rfl) (fun A' outer' s' H' E' f' c' hr' => pe_mtP Hpu hr' (by omega) (takes_of rfl rfl rfl rfl) (pv 1) (pa_cons (pv 3) (pa_cons (pe_dget (hu_of hr') (pv 2) (pv 3) (fun _ _ => rfl)) (pa_cons pe_int pa_nil))))) (pe_callG hG Nr (hr.mono (by omega)) (by rfl) gNr kNr bNr (pa_cons (pv 3) pa_nil)) (nomark _)) (pss_one (ps_ret pe_bl)) pss_nil))))
      (pss_cons (ps_for PassesOwn.never rfl (pi_list (pe_kn Ns hr (by omega) (pa_cons (pv 0) (pa_cons (pv 1) (pa_cons (pv 2) pa_nil))))) (pg_name (i := 9) sc__law_right.nd rfl (.inr rfl))
        (pss_one (ps_if (pt_cmpR (op_neLS hr.units) (pe_refusal (t := fun E => tMeth C "hear" (spHearR C CL) [] E (tVar 1) (tCons (tVar 9) tNil)) RT RL hG FC gC (by rfl) TB hcd hm hu (k := 9) hr (lamS_by (show lamSB (defScope a__law_right) _ = true by decide +kernel)) (by rfl) (fun _ _ _ _ _ => rfl) (fun A' outer' s' H' E' f' c' hr' => pe_mtP Her hr' (by omega) (takes_of rfl rfl rfl rfl) (pv 1) (pa_cons (pv 9) pa_nil))) (pe_callG hG Nl (hr.mono (by omega)) (by rfl) gNl kNl bNl (pa_cons (pv 9) pa_nil)) (nomark _)) (pss_one (ps_ret pe_bl)) pss_nil)))
      (pss_one (ps_ret (pe_cmpR op_eq (pe_callG hG St (hr.mono (by omega)) (by rfl) gSt kSt bSt (pa_cons (pv 1) (pa_cons (pv 4) pa_nil))) (pv 5) (nomark _))))))))))), ?_⟩
    have kys : (kvH hs).map (·.1) = (h.rows.map (·.1)).map Sum.inl := by
      rw [← hl.keys]
      unfold kvH
      rw [List.map_map, List.map_map]
      rfl
    have l5 := hS.l5
    refine ⟨.ref R, rfl, R, kvH hs, h.rows.map (·.1), rfl, .inl eR, kys, by rw [List.length_map]; omega, fun zs S pm pw nS => ?_⟩
    have s1 := same_new (o := HO.lst (zs.map V.int)) nS
    have eS : (upd H S (HO.lst (zs.map V.int))) S = some (HO.lst (zs.map V.int)) := upd_same
    have pS := pa.keep s1
    generalize upd H S (HO.lst (zs.map V.int)) = H1 at s1 eS pS ⊢
    have lz : zs.length ≤ 5 := by rw [pm.length_eq, List.length_map]; exact l5
    have mz : ∀ {n : Int}, n ∈ zs → ∃ q c a, look h.rows n = some (q, c) ∧ valV (kvH hs) (Sum.inl n) = some (V.ref a) ∧ RuleAt H a q := fun {n} hn => by
      have hn' := pm.mem_iff.mp hn
      rcases valH n hl with ⟨e, _⟩ | g
      · obtain ⟨_, _, w⟩ := look_of hn'
        rw [e] at w
        cases w
      · exact g
    refine ⟨S, rfl, ⟨_, .inl (.inl eS)⟩, fun D1 nD1 => lc_it (walk_list (xs := zs.map V.int)) (fun j H' => Same H1 H' ∧ H' D1 = some (.lst (((zs.take j).filter h.shares).map V.int))) ⟨same_new nD1, upd_same⟩ (fun j H' _ z => z.1.seq (.inl (.inl eS))) (fun j v' H2 H3 hj y z => ?_) (fun H2 y => ?_)⟩
    · obtain ⟨s2, eD⟩ := y
      obtain ⟨rfl, gv⟩ := z
      obtain ⟨n, en, rfl⟩ := mapGet gv
      obtain ⟨rl, c1, ra, lk, va, rA⟩ := mz (List.mem_of_getElem? en)
      have rA3 : RuleAt H3 ra rl := (rA.keep (.same s1)).keep (.same s2)
      obtain ⟨p1, p2, er, e1, e2⟩ := rA3
      have dg : DGet H3 R (.int n) (some (.ref ra)) := va ▸ DGr (k := .inl n) (.inl (s2 _ _ (s1 _ _ eR)))
      have fe : (zs.take (j + 1)).filter h.shares = (zs.take j).filter h.shares ++ [n].filter h.shares := by
        rw [List.take_add_one, en, List.filter_append]
        rfl
      have sh : h.shares n = shrd rl := by
        unfold Hd.shares
        rw [lk]
      refine ⟨rfl, .ref R, rfl, .int n, rfl, R, .ref ra, rfl, dg, ra, _, 0, .ref p1, rfl, rfl, .inl (.inl er), atI_nat (j := 0) rfl, p1, _, 0, _, rfl, rfl, .inl (.inl e1), atI_nat (j := 0) rfl, .ref R, rfl, .int n, rfl, R, .ref ra, rfl, dg, ra, _, 1, .ref p2, rfl, rfl, .inl (.inl er), atI_nat (j := 1) rfl, p2, _, 0, _, rfl, rfl, .inl (.inl e2), atI_nat (j := 0) rfl, rfl, _, rfl, ?_⟩
      dsimp only
      by_cases z : rl.1.1 = rl.2.1
      · have sf : h.shares n = false := by
          rw [sh]
          unfold shrd
          rw [decide_eq_false (fun w => w z)]
        rw [if_neg (by rw [z]; simp), fe, List.filter_cons_of_neg (by rw [sf]; exact Bool.noConfusion), List.filter_nil, List.append_nil]
        exact ⟨s2, eD⟩
      · have st : h.shares n = true := by
          rw [sh]
          unfold shrd
          rw [decide_eq_true z]
        rw [if_pos (by simp; omega), fe, List.filter_cons_of_pos st, List.filter_nil]
        refine ⟨_, rfl, _, eD, by rw [List.length_map]; exact small1000 (Nat.le_trans (List.length_filter_le _ _) (Nat.le_trans (List.length_take_le' _ _) (by omega))), same_over s2 nD1, by rw [upd_same, List.map_append]; rfl⟩
    · obtain ⟨s2, eD⟩ := y
      have tk : zs.take (zs.map V.int).length = zs := by rw [List.length_map]; exact List.take_length
      rw [tk] at eD
      have nL := same_new (o := HO.lst []) nD1
      have bD : But a H H2 := But.of (s1.trans s2)
      have p2 := pS.keep s2
      have lN : (zs.filter h.shares).length ≤ 5 := Nat.le_trans (List.length_filter_le _ _) lz
      have hN : ShN h (zs.filter h.shares) := fun n hn => by
        obtain ⟨m1, m2⟩ := List.mem_filter.mp hn
        obtain ⟨rl, c1, ra, lk, va, rA⟩ := mz m1
        refine ⟨rl, c1, lk, ?_⟩
        unfold Hd.shares at m2
        rw [lk] at m2
        exact m2
      have hN' : ∀ n, h.shares n = true → n ∈ zs → n ∈ zs.filter h.shares := fun n h1 h2 => List.mem_filter.mpr ⟨h2, h1⟩
      have nDH : H D1 = none := s1.free nD1
      have nDa := pS.ne nD1
      generalize zs.filter h.shares = ns at eD lN hN hN' ⊢
      dsimp only [gName, List.set]
      have a2 := ha.kp (bD.kp pa)
      refine ⟨.ref x, rfl, .ref D1, rfl, x, D, T, D1, h, ns, rfl, a2, hS, eD, lN, hN, fun H3 ys bs s3 lk bt => ⟨6, rfl, by decide, by decide, fun D2 nD2 => lc_it walk_range (fun j H' => ∃ ys, Od6 a D2 H3 c j ys H') ⟨[], od_zero (p2.keep s3) (Nat.le_refl _) nD2⟩ (fun _ _ _ _ => trivial) (fun j v' H5' H5 hj y z => ?_) (fun H5 y => ?_)⟩⟩
      · obtain ⟨us, od⟩ := y
        obtain ⟨rfl, rfl⟩ := z
        refine ⟨rfl, .ref a, rfl, a, c + 20 * j, rfl, od.2.1, by omega, fun v d H7 b7 p7 dv sm oq => ?_⟩
        obtain ⟨e7, od'⟩ := od_step ((p2.keep s3).ne nD2) nD2 od b7 p7 dv sm oq
        exact ⟨_, e7, by rw [od.2.2.2.1]; exact small1000 (by omega), _, od'⟩
      · obtain ⟨us, od⟩ := y
        obtain ⟨b5, p5, e5, l5', u5⟩ := id od
        have t5 : ThA a h H5 us := fun v hv => by
          obtain ⟨d, h1, h2, h3⟩ := u5 v hv
          exact ⟨d, h1 a (.inl rfl), h2, od_sh nb h3⟩
        have bH : But a H H5 := (but_same bD s3).trans b5
        have eD5 := (but_same (fun _ _ _ e => e) s3 |>.trans b5) _ _ nDa eD
        have nL2 := (p2.keep s3).ne nD2
        have eR5 := (bH.kp pa) _ _ (fun _ z => by cases z) eR
        have hl5 := hl.keep (bH.kp pa)
        have a5 := ha.kp (bH.kp pa)
        clear od u5
        refine ⟨_, _, rfl, ?_⟩
        dsimp only [List.set]
        refine ⟨R, _, eR5, trivial, fun od => ?_⟩
        have eF : (upd H5 R (.frz od (.dK (kvH hs)))) R = some (.frz od (.dK (kvH hs))) := upd_same
        have eDF : (upd H5 R (.frz od (.dK (kvH hs)))) D1 = some (.lst (ns.map V.int)) := by
          rw [upd_ne (fun z => by rw [z, eR5] at eD5; cases eD5)]
          exact eD5
        have sF : ∀ H' : Hp, Same (upd H5 R (.frz od (.dK (kvH hs)))) H' → Same H5 (upd H' R (.dK (kvH hs))) := fun H' s b o e => by
          by_cases z : b = R
          · subst z
            rw [upd_same, ← e, eR5]
          · rw [upd_ne z]
            exact s _ _ (by rw [upd_ne z]; exact e)
        generalize upd H5 R (.frz od (.dK (kvH hs))) = HF at eF eDF sF ⊢
        have kl : (kvH hs).length = h.rows.length := by
          have := congrArg List.length kys
          rw [List.length_map, List.length_map, List.length_map] at this
          exact this
        refine ⟨.ref R, rfl, R, od, rfl, .inl ⟨_, eF, fun D3 nD3 => lc_it (walk_keys (kvs := kvH hs)) (fun j H' => Same HF H' ∧ ∃ os : List Int, H' D3 = some (.lst (os.map V.int)) ∧ os.length ≤ j ∧ ∀ n ∈ os, n ∉ ns ∧ 0 ≤ n ∧ n ≤ 90) ⟨same_new nD3, [], upd_same, Nat.le_refl _, fun _ z => absurd z List.not_mem_nil⟩ (fun j H' _ y => y.1 _ _ eF) (fun j v' H6 H7 hj y z => ?_) (fun H6 y => ?_)⟩⟩
        · obtain ⟨s6, os, eO, lo, no⟩ := y
          obtain ⟨rfl, kk, vv, ek, rfl⟩ := z
          have ek' : ((kvH hs).map (·.1))[j]? = some kk := by rw [List.getElem?_map, ek]; rfl
          rw [kys, List.getElem?_map] at ek'
          obtain ⟨n, en, rfl⟩ := Option.map_eq_some_iff.mp ek'
          refine ⟨rfl, .int n, rfl, .ref D1, rfl, D1, ns.map V.int, rfl, .inl (.inl (.inl (s6 _ _ eDF))), rfl, flat_intsR ns, _, rfl, ?_⟩
          dsimp only
          by_cases z : n ∈ ns
          · rw [in_intsR z]
            exact ⟨s6, os, eO, by omega, no⟩
          · cases ei : inV (V.int n) (ns.map V.int) with
            | true => exact ⟨s6, os, eO, by omega, no⟩
            | false =>
              refine ⟨_, rfl, _, eO, by rw [List.length_map]; exact small1000 (by omega), same_over s6 nD3, os ++ [n], by rw [upd_same, List.map_append]; rfl, by rw [List.length_append]; show os.length + 1 ≤ j + 1; omega, fun y hy => ?_⟩
              rcases List.mem_append.mp hy with hy | hy
              · exact no y hy
              · rw [List.mem_singleton.mp hy]
                refine ⟨z, ?_⟩
                obtain ⟨r, hr', rfl⟩ := List.mem_map.mp (List.mem_of_getElem? en)
                exact nb r hr'
        · obtain ⟨s6, os, eO, lo, no⟩ := y
          rw [kl] at lo
          refine ⟨s6 _ _ eF, ?_⟩
          have s7 := sF H6 s6
          have n3 : D3 ≠ R := fun z => by rw [z, eF] at nD3; cases nD3
          have eO7 : (upd H6 R (.dK (kvH hs))) D3 = some (.lst (os.map V.int)) := by rw [upd_ne n3]; exact eO
          have n3a : D3 ≠ a := fun z => by
            obtain ⟨_, _, _, q1, _⟩ := p5
            have q2 := sF HF (Same.refl _) _ _ q1
            rw [upd_ne (fun w => by rw [w, eR5] at q1; cases q1), ← z, nD3] at q2
            cases q2
          generalize upd H6 R (.dK (kvH hs)) = H7 at s7 eO7 ⊢
          clear eO s6 eF eDF sF nD3
          have p7 := p5.keep s7
          have e7 := s7 _ _ e5
          have eD7 := s7 _ _ eD5
          have eR7 := s7 _ _ eR5
          have hl7 := hl5.keep (.same s7)
          have a7 := a5.same s7
          have b7 := but_same bH s7
          have t7 := t5.bn p5 (BN.but (But.of s7))
          clear e5 eD5 eR5 hl5 a5 s7 t5 p5 bH
          refine ⟨(show 1 ≤ sizeLine by decide), fun M nM mM => ?_⟩
          have s8 := same_new (o := HO.lst [V.int 0]) nM
          have eM : (upd H7 M (HO.lst [V.int 0])) M = some (HO.lst [V.int 0]) := upd_same
          generalize upd H7 M (HO.lst [V.int 0]) = H8 at s8 eM ⊢
          refine ⟨.ref R, rfl, R, kvH hs, rfl, .inl (s8 _ _ eR7), fun L nL => ?_⟩
          have ekl : ((kvH hs).map fun kv => kV kv.1) = (h.rows.map (·.1)).map V.int := by
            have : ((kvH hs).map fun kv => kV kv.1) = ((kvH hs).map (·.1)).map kV := by rw [List.map_map]; rfl
            rw [this, kys, List.map_map]
            rfl
          rw [ekl]
          have s9 := same_new (o := HO.lst ((h.rows.map (·.1)).map V.int)) nL
          have eL : (upd H8 L (HO.lst ((h.rows.map (·.1)).map V.int))) L = some (HO.lst ((h.rows.map (·.1)).map V.int)) := upd_same
          generalize upd H8 L (HO.lst ((h.rows.map (·.1)).map V.int)) = H9 at s9 eL ⊢
          refine ⟨M, L, _, _, rfl, rfl, s9 _ _ eM, eL, Nat.le_of_lt (small1000 (show 1 + ((h.rows.map (·.1)).map V.int).length ≤ 1000 by rw [List.length_map, List.length_map]; omega)), fun N nN => ?_⟩
          have s10 := same_new (o := HO.lst ([V.int 0] ++ (h.rows.map (·.1)).map V.int)) nN
          have eN : (upd H9 N (HO.lst ([V.int 0] ++ (h.rows.map (·.1)).map V.int))) N = some (HO.lst ((0 :: h.rows.map (·.1)).map V.int)) := upd_same
          generalize upd H9 N (HO.lst ([V.int 0] ++ (h.rows.map (·.1)).map V.int)) = H10 at s10 eN ⊢
          refine ⟨N, _, rfl, .inl (.inl eN), by simp, fun m hm hmx => ⟨m, 1, rfl, rfl, ?_⟩⟩
          have m0 : 0 ≤ m := hmx 0 List.mem_cons_self
          have m90 : m ≤ 90 := by
            rcases List.mem_cons.mp hm with rfl | hm
            · decide
            · obtain ⟨r, hr', rfl⟩ := List.mem_map.mp hm
              exact (nb r hr').2
          have s710 := (s8.trans s9).trans s10
          clear eN eL eM s8 s9 s10 hm
          have nlk : ∀ i : Int, m < i → look h.rows i = none := fun i hi => by
            cases e : look h.rows i with
            | none => rfl
            | some z =>
              have := hmx i (List.mem_cons_of_mem _ (List.mem_map.mpr ⟨_, look_some e, rfl⟩))
              omega
          have p10 := p7.keep s710
          have e10 := s710 _ _ e7
          have eO10 := s710 _ _ eO7
          have eD10 := s710 _ _ eD7
          have eR10 := s710 _ _ eR7
          have hl10 := hl7.keep (.same s710)
          have a10 := a7.same s710
          have b10 := but_same b7 s710
          have t10 := t7.bn p7 (BN.but (But.of s710))
          clear e7 eO7 eD7 eR7 hl7 a7 b7 t7 p7 s710
          refine ⟨_, _, rfl, ?_⟩
          dsimp only [List.set]
          have tb : ThA a h H10 (us ++ os.map V.int ++ [V.int (m + 1), .bl true]) := fun v hv => by
            rcases List.mem_append.mp hv with hv | hv
            · rcases List.mem_append.mp hv with hv | hv
              · exact t10 v hv
              · obtain ⟨n, hn, rfl⟩ := List.mem_map.mp hv
                obtain ⟨n1, n2, n3⟩ := no n hn
                refine ⟨.int n, .int n, (Sm.int (Nat.lt_of_le_of_lt (show n.natAbs ≤ 90 by omega) (by decide))).mono (by decide) (by decide), ?_⟩
                show h.shares n = false
                cases e : h.shares n with
                | false => rfl
                | true =>
                  refine absurd (hN' n e ?_) n1
                  unfold Hd.shares at e
                  cases e' : look h.rows n with
                  | none => rw [e'] at e; cases e
                  | some z => exact pm.mem_iff.mpr (List.mem_map.mpr ⟨_, look_some e', rfl⟩)
            · rcases List.mem_cons.mp hv with rfl | hv
              · refine ⟨.int (m + 1), .int _, (Sm.int (Nat.lt_of_le_of_lt (show (m + 1).natAbs ≤ 91 by omega) (by decide))).mono (by decide) (by decide), ?_⟩
                show h.shares (m + 1) = false
                unfold Hd.shares
                rw [nlk (m + 1) (by omega)]
              · rw [List.mem_singleton.mp hv]
                exact ⟨.bool true, .bl _, (Sm.bool _).mono (by decide) (by decide), rfl⟩
          have lus : us.length = 6 := l5'
          refine ⟨.ref D2, rfl, .ref D3, rfl, D2, D3, _, _, rfl, rfl, e10, eO10, Nat.le_of_lt (small1000 (show us.length + (os.map V.int).length ≤ 1000 by rw [List.length_map]; omega)), fun N1 nN1 => ?_⟩
          have s11 := same_new (o := HO.lst (us ++ os.map V.int)) nN1
          have eN1 : (upd H10 N1 (HO.lst (us ++ os.map V.int))) N1 = some (HO.lst (us ++ os.map V.int)) := upd_same
          generalize upd H10 N1 (HO.lst (us ++ os.map V.int)) = H11 at s11 eN1 ⊢
          refine ⟨_, rfl, (show 2 ≤ sizeLine by decide), fun M2 nM2 mM2 => ?_⟩
          have s12 := same_new (o := HO.lst [V.int (m + 1), .bl true]) nM2
          have eM2 : (upd H11 M2 (HO.lst [V.int (m + 1), .bl true])) M2 = some (HO.lst [V.int (m + 1), .bl true]) := upd_same
          have eN1 := s12 _ _ eN1
          generalize upd H11 M2 (HO.lst [V.int (m + 1), .bl true]) = H12 at s12 eN1 eM2 ⊢
          refine ⟨N1, M2, _, _, rfl, rfl, eN1, eM2, Nat.le_of_lt (small1000 (show (us ++ os.map V.int).length + 2 ≤ 1000 by rw [List.length_append, List.length_map]; omega)), fun N2 nN2 => ?_⟩
          have s13 := same_new (o := HO.lst (us ++ os.map V.int ++ [V.int (m + 1), .bl true])) nN2
          have eN2 : (upd H12 N2 (HO.lst (us ++ os.map V.int ++ [V.int (m + 1), .bl true]))) N2 = some (HO.lst (us ++ os.map V.int ++ [V.int (m + 1), .bl true])) := upd_same
          generalize upd H12 N2 (HO.lst (us ++ os.map V.int ++ [V.int (m + 1), .bl true])) = H13 at s13 eN2 ⊢
          have sA := (s11.trans s12).trans s13
          have tb := tb.bn p10 (BN.but (But.of sA))
          clear eN1 eM2 s11 s12 s13
          have p13 := p10.keep sA
          have eD13 := sA _ _ eD10
          have eR13 := sA _ _ eR10
          have hl13 := hl10.keep (.same sA)
          have a13 := a10.same sA
          have b13 := but_same b10 sA
          clear e10 eO10 eD10 eR10 hl10 a10 b10 p10 sA t10
          have t13 : Tabs TT H13 := Tabs.butP tB pa b13
          generalize (us ++ os.map V.int ++ [V.int (m + 1), .bl true]) = ths at tb eN2 ⊢
          refine ⟨N2, rfl, ⟨_, .inl (.inl eN2)⟩, for_it (walk_list (xs := ths)) (fun i σ H' => (∃ u9, σ = [some (.ref a), some (.ref x), some (.ref R), none, some (.ref D1), some (.str (stD h ns ys bs).shown), some (.ref D2), some (.ref D3), some (.int (m + 1)), u9, none]) ∧ ExtN H13 H' ∧ Tabs TT H') ⟨⟨_, rfl⟩, ExtN.refl _, t13⟩ (fun i σ H' _ y => .inl (.inl (y.2.1 _ _ eN2 (fun _ z => by cases z)))) (fun i v' σ H14' H14 hi y z => ?_) (fun σ H14 y => ?_)⟩
          · obtain ⟨⟨u9, rfl⟩, x14, t14⟩ := y
            obtain ⟨rfl, gv⟩ := z
            dsimp only [gName, List.set]
            have x14b : BN a H13 H14 := BN.ext x14
            obtain ⟨d, dv, sm, sh⟩ := tb _ (List.mem_of_getElem? gv)
            refine ref_no (n := a) (v := v') (d := d) t14 rfl sm (by decide) (by decide) (fun G xg tG => ⟨BN.da dv p13 (BN.ext (x14.trans xg)), fun E' he => ?_⟩) (fun H15 x15 t15 => iteFa rfl ?_)
            · have aG := a13.bn p13 (BN.ext (x14.trans xg))
              exact ask1 aG rfl (fun _ _ _ _ _ => lkm) rfl ⟨x, D, T, h, a, v', d, rfl, aG, BN.da dv p13 (BN.ext (x14.trans xg)), sh, he⟩
            · have x15 := x14.trans x15
              refine ref_no (n := a) (v := v') (d := d) t15 rfl sm (by decide) (by decide) (fun G xg tG => ⟨BN.da dv p13 (BN.ext (x15.trans xg)), fun E' he => ?_⟩) (fun H16 x16 t16 => iteFa rfl ?_)
              · have aG := a13.bn p13 (BN.ext (x15.trans xg))
                exact ask1 aG rfl (fun _ _ _ _ _ => lkm) rfl ⟨x, D, T, h, a, v', d, rfl, aG, BN.da dv p13 (BN.ext (x15.trans xg)), sh, he⟩
              · exact ⟨⟨_, rfl⟩, x15.trans x16, t16⟩
          · obtain ⟨⟨u9, rfl⟩, x14, t14⟩ := y
            have p14 := p13.ext x14
            have b14 : BN a H H14 := (BN.but b13).trans (BN.ext x14)
            have a14 := a13.bn p13 (BN.ext x14)
            have eR14 := x14 _ _ eR13 (fun _ z => by cases z)
            have eD14 := x14 _ _ eD13 (fun _ z => by cases z)
            have hl14 := hl13.tk ((BN.ext x14).tk p13)
            clear a13 eR13 eD13 hl13 x14 p13 b13 tb eN2 t13
            refine ⟨_, rfl, _, rfl, (m + 1), 7, rfl, rfl, 10, 29, rfl, rfl, ⟨by decide, by decide, by decide⟩, (show 3 ≤ sizeLine by decide), fun t nt => ?_⟩
            have s15 := same_new (o := HO.tup [V.int (m + 1), .int (m + 1 + 7), .int (10 ^ (29 : Int).toNat)]) nt
            have et : (upd H14 t (HO.tup [V.int (m + 1), .int (m + 1 + 7), .int (10 ^ (29 : Int).toNat)])) t = some (HO.tup [V.int (m + 1), .int (m + 1 + 7), .int (10 ^ (29 : Int).toNat)]) := upd_same
            have t15 := Tabs.ext t14 s15
            have p15 := p14.keep s15
            have b15 := b14.trans (BN.but (But.of s15))
            have a15 := a14.same s15
            have eR15 := s15 _ _ eR14
            have eD15 := s15 _ _ eD14
            have hl15 := hl14.keep (.same s15)
            clear t14 p14 b14 a14 eR14 eD14 hl14
            generalize upd H14 t (HO.tup [V.int (m + 1), .int (m + 1 + 7), .int (10 ^ (29 : Int).toNat)]) = H15 at s15 et t15 p15 b15 a15 eR15 eD15 hl15 ⊢
            clear s15
            refine ⟨t, rfl, ⟨_, .inl (.inl et)⟩, for_it (walk_tup (xs := [V.int (m + 1), .int (m + 1 + 7), .int (10 ^ (29 : Int).toNat)])) (fun i σ H' => (∃ u3, σ = [some (.ref a), some (.ref x), some (.ref R), u3, some (.ref D1), some (.str (stD h ns ys bs).shown), some (.ref D2), some (.ref D3), some (.int (m + 1)), u9, none]) ∧ ExtN H15 H' ∧ Tabs TT H') ⟨⟨_, rfl⟩, ExtN.refl _, t15⟩ (fun i σ H' _ y => .inl (.inl (y.2.1 _ _ et (fun _ z => by cases z)))) (fun i v' σ H16' H16 hi y z => ?_) (fun σ H16 y => ?_)⟩
            · obtain ⟨⟨u3, rfl⟩, x16, t16⟩ := y
              obtain ⟨rfl, gv⟩ := z
              have hv : ∃ n : Int, v' = .int n ∧ m < n ∧ n.natAbs < 10 ^ 90 := by
                have mv := List.mem_of_getElem? gv
                simp only [List.mem_cons, List.not_mem_nil, or_false] at mv
                rcases mv with rfl | rfl | rfl
                · exact ⟨_, rfl, by omega, Nat.lt_of_le_of_lt (show (m + 1).natAbs ≤ 200 by omega) (by decide)⟩
                · exact ⟨_, rfl, by omega, Nat.lt_of_le_of_lt (show (m + 1 + 7).natAbs ≤ 200 by omega) (by decide)⟩
                · exact ⟨_, rfl, Int.lt_of_le_of_lt m90 (by decide), by decide⟩
              obtain ⟨n, rfl, mn, nn⟩ := hv
              dsimp only [gName, List.set]
              refine ref_no (n := a) (v := .int n) (d := .int n) t16 rfl (Sm.int nn) (by decide) (by decide) (fun G xg tG => ⟨.int _, fun E' he => ?_⟩) (fun H17 x17 t17 => iteFa rfl ?_)
              · have aG := a15.bn p15 (BN.ext (x16.trans xg))
                refine ask1 aG rfl (fun _ _ _ _ _ => lkm) rfl ⟨x, D, T, h, a, .int n, .int n, rfl, aG, .int _, ?_, he⟩
                show (look h.rows n).isSome = false
                rw [nlk n mn]
                rfl
              · exact ⟨⟨_, rfl⟩, x16.trans x17, t17⟩
            · obtain ⟨⟨u3, rfl⟩, x16, t16⟩ := y
              have p16 := p15.ext x16
              have b16 : BN a H H16 := b15.trans (BN.ext x16)
              have a16 := a15.bn p15 (BN.ext x16)
              have eR16 := x16 _ _ eR15 (fun _ z => by cases z)
              have eD16 := x16 _ _ eD15 (fun _ z => by cases z)
              have hl16 := hl15.tk ((BN.ext x16).tk p15)
              clear a15 eR15 eD15 hl15 x16 p15 b15 et t15
              refine ⟨R, _, eR16, trivial, fun od => ?_⟩
              have aF : HandAt C (upd H16 R (.frz od (.dK (kvH hs)))) x D T h := hand_updR a16 eR16 (Ne.symm nRD) (Ne.symm nRT)
              have nRa : R ≠ a := fun z => by
                obtain ⟨_, _, _, q1, _⟩ := p16
                rw [← z, eR16] at q1
                cases q1
              have pF := pot_upd (o := .frz od (.dK (kvH hs))) p16 nRa
              have hlF : Held (upd H16 R (.frz od (.dK (kvH hs)))) hs h.rows := hl16.tk (fun c xs ec => (upd_ne (fun z => by rw [z, eR16] at ec; cases ec)).trans ec)
              have tF : Tabs TT (upd H16 R (.frz od (.dK (kvH hs)))) := Tabs.set t16 eR16 (fun _ z => by cases z) (fun _ _ z => by cases z)
              have eF : (upd H16 R (.frz od (.dK (kvH hs)))) R = some (.frz od (.dK (kvH hs))) := upd_same
              have sF : ∀ H' : Hp, ExtN (upd H16 R (.frz od (.dK (kvH hs)))) H' → ExtN H16 (upd H' R (.dK (kvH hs))) := fun H' s b o e nt => by
                by_cases z : b = R
                · subst z
                  rw [upd_same, ← e, eR16]
                · rw [upd_ne z]
                  exact s _ _ (by rw [upd_ne z]; exact e) nt
              generalize upd H16 R (.frz od (.dK (kvH hs))) = HF at aF pF hlF tF eF sF ⊢
              refine ⟨.ref R, rfl, R, od, rfl, .inl ⟨_, eF, for_it (walk_keys (kvs := kvH hs)) (fun i σ H' => (∃ u3, σ = [some (.ref a), some (.ref x), some (.ref R), u3, some (.ref D1), some (.str (stD h ns ys bs).shown), some (.ref D2), some (.ref D3), some (.int (m + 1)), u9, none]) ∧ ExtN HF H' ∧ Tabs TT H') ⟨⟨_, rfl⟩, ExtN.refl _, tF⟩ (fun i σ H' _ y => y.2.1 _ _ eF (fun _ z => by cases z)) (fun i v' σ H17' H17 hi y z => ?_) (fun σ H17 y => ?_)⟩⟩
              · obtain ⟨⟨u3, rfl⟩, x17, t17⟩ := y
                obtain ⟨rfl, kk, vv, ek, rfl⟩ := z
                have ek' : ((kvH hs).map (·.1))[i]? = some kk := by rw [List.getElem?_map, ek]; rfl
                rw [kys, List.getElem?_map] at ek'
                obtain ⟨n, en, rfl⟩ := Option.map_eq_some_iff.mp ek'
                have hn := List.mem_of_getElem? en
                obtain ⟨r, hr', er⟩ := List.mem_map.mp hn
                have nbr := nb r hr'
                dsimp only [gName, List.set]
                refine ref_no (n := a) (v := .int n) (d := .int n) t17 rfl (Sm.int (Nat.lt_of_le_of_lt (show n.natAbs ≤ 90 by omega) (by decide))) (by decide) (by decide) (fun G xg tG => ⟨.int _, fun E' he => ?_⟩) (fun H18 x18 t18 => iteFa rfl ?_)
                · have bG : BN a HF G := BN.ext (x17.trans xg)
                  have aG := aF.bn pF bG
                  have eG := (x17.trans xg) _ _ eF (fun _ z => by cases z)
                  obtain ⟨rl, c1, lk⟩ := look_of hn
                  rcases valH n hlF with ⟨e, _⟩ | ⟨q', c', ra, e1, e2, _⟩
                  · rw [lk] at e
                    cases e
                  · have dg : DGet G R (.int n) (some (.ref ra)) := e2 ▸ DGr (k := .inl n) (.inr ⟨od, eG⟩)
                    obtain ⟨dx, vw, hs2, i0, _⟩ := id aG
                    have i0' : G x = some (.ins C dx [("thing", .int (h.thing : Int)), ("place", .int h.place), ("wish", vw), ("held", .ref D), ("tally", .ref T)]) := i0
                    exact ⟨.ref x, rfl, x, dx, _, rfl, i0', lkm, .int n, rfl, .ref R, rfl, .int n, rfl, R, .ref ra, rfl, dg, x, D, T, h, n, .ref ra, .int 7, rfl, aG, by rw [lk]; rfl, he⟩
                · exact ⟨⟨_, rfl⟩, x17.trans x18, t18⟩
              · obtain ⟨⟨u3, rfl⟩, x17, t17⟩ := y
                have eR17 := x17 _ _ eF (fun _ z => by cases z)
                refine ⟨eR17, ?_⟩
                have x18 := sF H17 x17
                have t18 : Tabs TT (upd H17 R (.dK (kvH hs))) := Tabs.set t17 eR17 (fun _ z => by cases z) (fun _ _ z => by cases z)
                generalize upd H17 R (.dK (kvH hs)) = H18 at x18 t18 ⊢
                have p18 := p16.ext x18
                have b18 : BN a H H18 := b16.trans (BN.ext x18)
                have a18 := a16.bn p16 (BN.ext x18)
                have eR18 := x18 _ _ eR16 (fun _ z => by cases z)
                have eD18 := x18 _ _ eD16 (fun _ z => by cases z)
                clear a16 eR16 eD16 hl16 x18 p16 b16 aF pF hlF tF eF sF x17 t17 eR17 t16
                refine ⟨.ref a, rfl, .ref x, rfl, .ref R, rfl, a, x, D, T, R, h, kvH hs, h.rows.map (·.1), c + 20 * 6, rfl, p18, by omega, a18, th, eR18, kys, by rw [List.length_map]; exact l5, fun n hn => ?_, fun H19 Lx xs b19 p19 nLx nLa eLx nl lx => ?_⟩
                · obtain ⟨r, hr', rfl⟩ := List.mem_map.mp hn
                  have := nb r hr'
                  exact ⟨this.1, by omega⟩
                have t19 := Tabs.butP t18 p18 b19
                have a19 := a18.bn p18 (BN.but b19)
                have eD19 := b19 _ _ nDa eD18
                have bT := b18.trans (BN.but b19)
                clear a18 eD18 eR18 b18 t18
                refine ⟨Lx, rfl, ⟨_, .inl (.inl eLx)⟩, for_it (walk_list (xs := xs)) (fun i σ H' => (∃ u3 u9, σ = [some (.ref a), some (.ref x), some (.ref R), u3, some (.ref D1), some (.str (stD h ns ys bs).shown), some (.ref D2), some (.ref D3), some (.int (m + 1)), u9, none]) ∧ ExtN H19 H' ∧ Tabs TT H') ⟨⟨_, _, rfl⟩, ExtN.refl _, t19⟩ (fun i σ H' _ y => .inl (.inl (y.2.1 _ _ eLx (fun _ z => by cases z)))) (fun i v' σ H20' H20 hi y z => ?_) (fun σ H20 y => ?_)⟩
                · obtain ⟨⟨u3, u9, rfl⟩, x20, t20⟩ := y
                  obtain ⟨rfl, gv⟩ := z
                  obtain ⟨d, dv, sm, al⟩ := nl _ (List.mem_of_getElem? gv)
                  dsimp only [gName, List.set]
                  refine ref_no (n := a) (v := v') (d := d) t20 rfl sm (by decide) (by decide) (fun G xg tG => ⟨BN.da dv p19 (BN.ext (x20.trans xg)), fun E' he => ?_⟩) (fun H21 x21 t21 => iteFa rfl ?_)
                  · have bG : BN a H19 G := BN.ext (x20.trans xg)
                    have aG := a19.bn p19 bG
                    refine ask1 aG rfl (fun _ _ _ _ _ => lkm) rfl ⟨x, D, T, h, a, v', d, rfl, aG, BN.da dv p19 bG, al.imp id ?_, he⟩
                    rintro ⟨b', l, w', h4, h5, h6, h7⟩
                    exact ⟨b', l, w', h4, h5, h6.tk (bG.tk p19), h7⟩
                  · exact ⟨⟨_, _, rfl⟩, x20.trans x21, t21⟩
                · obtain ⟨⟨u3, u9, rfl⟩, x20, t20⟩ := y
                  have a20 := a19.bn p19 (BN.ext x20)
                  have eD20 := x20 _ _ eD19 (fun _ z => by cases z)
                  refine ⟨.ref x, rfl, .ref D1, rfl, x, D, T, D1, h, ns, rfl, a20, hS, eD20, lN, hN, fun H21 ys' bs' s21 lk' bt' => ?_⟩
                  cases lk.uniq lk'
                  cases bt.uniq bt'
                  refine ⟨_, rfl, rfl, ?_⟩
                  rw [decide_eq_true rfl]
                  exact q _ (bT.trans (BN.ext (x20.trans (ExtN.of s21)))) (((p19.ext x20).keep s21).mono (by omega)) (Tabs.ext t20 s21)
end
end K61

set_option Elab.async false
set_option linter.all false
set_option maxRecDepth 100000
namespace K61
open PySem PySem.Spec PyProof.Rows L2 NB

abbrev kI_NoRule : Stmt := inClass (topS 4) 0
theorem sc_NoRule : FnScope ["self", "thing"] ["self", "thing"] (defScope kI_NoRule) := ⟨rfl, rfl, rfl, by decide +kernel, rfl, by decide +kernel, by decide +kernel⟩
theorem ok_NoRule {P : Program} {w : World} {K : PySem.W.Frag} {mg : Str → Option Value} {base : Heap} {f C : Addr} {fd : FuncData} (F : Fun K "__init__" "NoRule.__init__" kI_NoRule f fd) (O : OexC K C) (n : PySem.W.findIn K (.ref C) "thing" = some none) : FnOk P w K mg base CX0 1 f fd ["self", "thing"] (spXI C "thing") := by
  refine F.ok sc_NoRule (fun vs H Q E h => ?_) (fun cdv A outer s H vs Q E hr h => ?_)
  · obtain ⟨a, v, rfl, _⟩ := h
    rfl
  · obtain ⟨a, v, rfl, ea, q⟩ := h
    exact ⟨_, pss_one (ps_ost (pv 0) (pv 1)), _, rfl, _, rfl, a, C, rfl, O, n, .inl ⟨ea, fun dx n ne => q dx n ne⟩⟩

abbrev kI_NoLetter : Stmt := inClass (topS 5) 0
theorem sc_NoLetter : FnScope ["self", "thing"] ["self", "thing"] (defScope kI_NoLetter) := ⟨rfl, rfl, rfl, by decide +kernel, rfl, by decide +kernel, by decide +kernel⟩
theorem ok_NoLetter {P : Program} {w : World} {K : PySem.W.Frag} {mg : Str → Option Value} {base : Heap} {f C : Addr} {fd : FuncData} (F : Fun K "__init__" "NoLetter.__init__" kI_NoLetter f fd) (O : OexC K C) (n : PySem.W.findIn K (.ref C) "thing" = some none) : FnOk P w K mg base CX0 1 f fd ["self", "thing"] (spXI C "thing") := by
  refine F.ok sc_NoLetter (fun vs H Q E h => ?_) (fun cdv A outer s H vs Q E hr h => ?_)
  · obtain ⟨a, v, rfl, _⟩ := h
    rfl
  · obtain ⟨a, v, rfl, ea, q⟩ := h
    exact ⟨_, pss_one (ps_ost (pv 0) (pv 1)), _, rfl, _, rfl, a, C, rfl, O, n, .inl ⟨ea, fun dx n ne => q dx n ne⟩⟩

/-! ### rules of a hand, drawn -/
def PlA (H : Hp) (as : List Addr) (rs : List (Int × Rl)) (hs : List Addr) : Prop := as.length = rs.length ∧ hs.length = rs.length ∧
  ∀ (i : Nat) (a : Addr) (r : Int × Rl) (z : Addr), as[i]? = some a → rs[i]? = some r → hs[i]? = some z → H a = some (.tup [.int r.1, .ref z]) ∧ RuleAt H z r.2
theorem PlA.tk {H H' : Hp} {as rs hs} (h : PlA H as rs hs) (k : TupK H H') : PlA H' as rs hs := ⟨h.1, h.2.1, fun i a r z x y w => ⟨k _ _ (h.2.2 i a r z x y w).1, (h.2.2 i a r z x y w).2.tk k⟩⟩
theorem PlA.snoc {H : Hp} {as rs hs} (h : PlA H as rs hs) {a hd : Addr} {n : Int} {rl : Rl} (e : H a = some (.tup [.int n, .ref hd])) (er : RuleAt H hd rl) : PlA H (as ++ [a]) (rs ++ [(n, rl)]) (hs ++ [hd]) := by
  obtain ⟨l1, l2, f⟩ := h
  refine ⟨by rw [List.length_append, List.length_append, l1]; rfl, by rw [List.length_append, List.length_append, l2]; rfl, fun i b r z x y w => ?_⟩
  by_cases hi : i < as.length
  · rw [List.getElem?_append_left hi] at x
    rw [List.getElem?_append_left (by omega)] at y w
    exact f i b r z x y w
  · have hl := (List.getElem?_eq_some_iff.mp x).1
    rw [List.length_append, List.length_singleton] at hl
    have hi2 : i = as.length := by omega
    rw [hi2, List.getElem?_append_right (Nat.le_refl _), Nat.sub_self] at x
    rw [hi2, l1, List.getElem?_append_right (Nat.le_refl _), Nat.sub_self] at y
    rw [hi2, l1, ← l2, List.getElem?_append_right (Nat.le_refl _), Nat.sub_self] at w
    cases x
    cases y
    cases w
    exact ⟨e, er⟩
def SdsAt (H : Hp) : List Addr → List Sd → Prop
  | [], [] => True
  | a :: as, b :: bs => SideAt H a b ∧ SdsAt H as bs
  | _, _ => False
theorem SdsAt.tk {H H' : Hp} (k : TupK H H') : ∀ {as : List Addr} {bs : List Sd}, SdsAt H as bs → SdsAt H' as bs
  | [], [], _ => trivial
  | _ :: _, _ :: _, ⟨a, c⟩ => ⟨a.tk k, c.tk k⟩
  | [], _ :: _, h => h.elim
  | _ :: _, [], h => h.elim
theorem SdsAt.app {H : Hp} {a : Addr} {b : Sd} (p : SideAt H a b) : ∀ {as : List Addr} {bs : List Sd}, SdsAt H as bs → SdsAt H (as ++ [a]) (bs ++ [b])
  | [], [], _ => ⟨p, trivial⟩
  | _ :: _, _ :: _, ⟨x, c⟩ => ⟨x, SdsAt.app p c⟩
  | [], _ :: _, h => h.elim
  | _ :: _, [], h => h.elim
theorem SdsAt.len {H : Hp} : ∀ {as : List Addr} {bs : List Sd}, SdsAt H as bs → as.length = bs.length
  | [], [], _ => rfl
  | _ :: _, _ :: _, ⟨_, c⟩ => by rw [List.length_cons, List.length_cons, c.len]
  | [], _ :: _, h => h.elim
  | _ :: _, [], h => h.elim
theorem tk_but {H H' : Hp} {p : Addr} {c : Nat} (h : PotAt H p c) (b : But p H H') : TupK H H' := fun a xs e => b a _ (fun z => by obtain ⟨_, _, _, e2, _⟩ := h; rw [z, e2] at e; cases e) e
theorem tk_lst {H : Hp} {l : Addr} {xs ys : List V} (h : H l = some (.lst xs)) : TupK H (upd H l (.lst ys)) := fun a zs e => (upd_ne (fun z => by rw [z, h] at e; cases e)).trans e
theorem TupK.trans {A B C : Hp} (h : TupK A B) (k : TupK B C) : TupK A C := fun a xs e => k _ _ (h _ _ e)
def okD (n i : Nat) (q : Rl) : Prop := (q.1.1 = i ∨ q.2.1 = i) ∧ q.1.1 < n ∧ q.2.1 < n
def spHR : Sp := fun vs H Q _ => ∃ (p L : Addr) (tops : List Int) (many i c : Nat), vs = [.ref p, .ref L, .int (many : Int), .int (i : Int)] ∧ PotAt H p c ∧ c < 600000 ∧ H L = some (.lst (tops.map V.int)) ∧ L ≠ p ∧ i < tops.length ∧ tops.length ≤ 6 ∧ (∀ x ∈ tops, 1 ≤ x ∧ x ≤ 9) ∧ many ≤ 6 ∧
  ∀ H' F as rs hs c', But p H H' → PotAt H' p c' → c' ≤ c + 60 → H' F = some (.lst (as.map V.ref)) → PlA H' as rs hs → rs.length ≤ many → (rs.map (·.1)).Pairwise (· < ·) → (∀ r ∈ rs, 1 ≤ r.1 ∧ r.1 ≤ 48 ∧ okD tops.length i r.2) → H F = none → Q (.ref F) H'
section
variable {P : Program} {w : World} {K : PySem.W.Frag} {mg : Str → Option Value} {base : Heap}
abbrev a__law_hand_rules : Stmt := topS 25
abbrev n__law_hand_rules : List Str := ["_law_pot_here", "_law_tops", "_law_many", "_law_thing", "_law_found", "_law_number", "_law_turn", "_law_sides", "_law_other"]
theorem sc__law_hand_rules : FnScope n__law_hand_rules ["_law_pot_here", "_law_tops", "_law_many", "_law_thing"] (defScope a__law_hand_rules) := ⟨rfl, rfl, rfl, by decide +kernel, rfl, by decide +kernel, by decide +kernel⟩
set_option maxHeartbeats 8000000 in
theorem ok__law_hand_rules {f fTk fOf : Addr} {fd fdTk fdOf : FuncData} {k : Nat}  (F : Fun K "_law_hand_rules" "_law_hand_rules" a__law_hand_rules f fd) (Tk : Kn P w K mg base 1 "_law_take" ["_law_pot_here", "_law_many"] spTake fTk fdTk) (Of : Kn P w K mg base 2 "_law_of" ["_law_pot_here", "_law_some"] (spOf K) fOf fdOf)  (m_len : mg "len" = none) (m_range : mg "range" = none) (m_tuple : mg "tuple" = none) : FnOk P w K mg base CX0 (k + 3) f fd ["_law_pot_here", "_law_tops", "_law_many", "_law_thing"] spHR := by
  refine F.ok sc__law_hand_rules (fun vs H Q E h => ?_) (fun cdv A outer s H vs Q E hr h => ?_)
  · obtain ⟨p, L, tops, many, i, c, rfl, _⟩ := h
    rfl
  · obtain ⟨p, L, tops, many, i, c, rfl, pp, hc, eL, nLp, hi, t4, tb, m6, q⟩ := h
    refine ⟨_, (pss_cons (ps_par (i := 4) (j := 5) (by rfl) sc__law_hand_rules.nd rfl rfl (by decide) rfl rfl (pa_cons (pe_lst pa_nil) (pa_cons pe_int pa_nil)) (by rfl))
      (pss_cons (ps_for PassesOwn.never rfl (pi_range1 (by rfl) m_range (pa_cons (pe_kn Tk hr (by omega) (pa_cons (pv 0) (pa_cons (pe_op op_add (pv 2) pe_int) pa_nil))) pa_nil)) (pg_name (i := 6) sc__law_hand_rules.nd rfl (.inl rfl))
        (pss_cons (ps_set (i := 5) sc__law_hand_rules.nd rfl (.inl rfl) (pe_op op_add (pe_op op_add (pv 5) pe_int) (pe_kn Of hr (by omega) (pa_cons (pv 0) (pa_cons (pe_lst (pa_cons pe_int (pa_cons pe_int (pa_cons pe_int (pa_cons pe_int (pa_cons pe_int pa_nil)))))) pa_nil)))))
      (pss_cons (ps_set (i := 7) sc__law_hand_rules.nd rfl (.inl rfl) (pe_lst pa_nil))
      (pss_cons (ps_for PassesOwn.never rfl (pi_tup (pe_tup (pa_cons (pv 3) (pa_cons (pe_kn Tk hr (by omega) (pa_cons (pv 0) (pa_cons (pe_callB call_len_seq (by rfl) m_len (by decide +kernel) (pa_cons (pv 1) pa_nil)) pa_nil))) pa_nil)))) (pg_name (i := 8) sc__law_hand_rules.nd rfl (.inl rfl))
        (pss_one (ps_expr (pe_bm PySem.F.plainAttrs_list PySem.F.slot_list_append PySem.F.type_list_append mt_append (pv 7) (pa_cons (pe_tup (pa_cons (pv 8) (pa_cons (pe_kn Of hr (by omega) (pa_cons (pv 0) (pa_cons (pe_lst (pa_cons pe_str (pa_cons pe_str pa_nil))) pa_nil))) (pa_cons (pe_kn Tk hr (by omega) (pa_cons (pv 0) (pa_cons (pe_op op_add (pe_ix ix_list (pv 1) (pv 8) (fun _ _ => rfl)) pe_int) pa_nil))) pa_nil)))) pa_nil)))))
      (pss_one (ps_expr (pe_bm PySem.F.plainAttrs_list PySem.F.slot_list_append PySem.F.type_list_append mt_append (pv 4) (pa_cons (pe_tup (pa_cons (pv 5) (pa_cons (pe_callTy call_tuple_of (by rfl) m_tuple (by decide +kernel) (pa_cons (pe_ifExp (pt_cmpR op_eq (pe_kn Tk hr (by omega) (pa_cons (pv 0) (pa_cons pe_int pa_nil))) pe_int (nomark _)) (pe_revL (pv 7)) (pv 7)) pa_nil)) pa_nil))) pa_nil))))))))
      (pss_one (ps_ret (pv 4))))), ?_⟩
    refine ⟨(show 0 ≤ sizeLine by decide), fun F nF => ⟨_, _, rfl, ?_⟩⟩
    have nFp := pp.ne nF
    have sF := same_new (o := HO.lst []) nF
    have eF : (upd H F (HO.lst [])) F = some (.lst (([] : List Addr).map V.ref)) := upd_same
    have p1 := pp.keep sF
    have eL1 := sF _ _ eL
    generalize upd H F (HO.lst []) = H1 at sF eF p1 eL1 ⊢
    dsimp only [List.set]
    refine ⟨.ref p, rfl, _, rfl, _, 1, rfl, rfl, p, _, c, rfl, p1, by omega, by omega, by omega, fun m H2 b2 p2 m0 m1 => ?_⟩
    obtain ⟨m, rfl⟩ : ∃ k : Nat, m = k := ⟨m.toNat, by omega⟩
    have m7 : m ≤ many := by omega
    have eF2 := b2 _ _ nFp eF
    have eL2 := b2 _ _ nLp eL1
    have b02 : But p H H2 := (But.of sF).trans b2
    refine ⟨m, rfl, ?_, ?_, for_it walk_range (fun j σ H' => (∃ (lastn : Int) (u6 u7 u8 : Option V), σ = [some (.ref p), some (.ref L), some (.int (many : Int)), some (.int (i : Int)), some (.ref F), some (.int lastn), u6, u7, u8] ∧ 0 ≤ lastn ∧ lastn ≤ 8 * j ∧ But p H H' ∧ PotAt H' p (c + 1 + 8 * j) ∧ H' L = some (.lst (tops.map V.int)) ∧
      ∃ as rs hs, H' F = some (.lst (as.map V.ref)) ∧ PlA H' as rs hs ∧ rs.length = j ∧ (rs.map (·.1)).Pairwise (· < ·) ∧ ∀ r ∈ rs, 1 ≤ r.1 ∧ r.1 ≤ lastn ∧ okD tops.length i r.2))
      ⟨0, _, _, _, rfl, Int.le_refl _, Int.le_refl _, b02, p2, eL2, [], [], [], eF2, ⟨rfl, rfl, fun _ _ _ _ x => by cases x⟩, rfl, List.Pairwise.nil, fun _ h => absurd h List.not_mem_nil⟩ (fun _ _ _ _ _ => trivial) (fun j v σ H3 H3' hj y z => ?_) (fun σ H3 y => ?_)⟩
    · exact by omega
    · exact by omega
    · obtain ⟨ln, u6, u7, u8, rfl, ln0, ln1, b3, p3, eL3, as, rs, hs, eF3, pa, lr, rise, ok⟩ := y
      obtain ⟨rfl, rfl⟩ := z
      have j6 : j < 6 := by omega
      dsimp only [gName, List.set]
      -- the number
      refine ⟨_, rfl, _, 1, rfl, rfl, .ref p, rfl, (show 5 ≤ sizeLine by decide), fun W nW => ?_⟩
      have sW := same_new (o := HO.lst [V.int 0, .int 0, .int 0, .int 1, .int 7]) nW
      have nWp := p3.ne nW
      refine ⟨p, W, [V.int 0, .int 0, .int 0, .int 1, .int 7], _, rfl, p3.keep sW, nWp, .inl (.inl (.inl upd_same)), (show 1 ≤ 5 by decide), (show 5 ≤ 1000000 by decide), by omega, fun u H4 hu b4 p4 => ?_⟩
      obtain ⟨d, rfl, d0, d1⟩ : ∃ d : Int, u = .int d ∧ 0 ≤ d ∧ d ≤ 7 := by
        simp only [List.mem_cons, List.not_mem_nil, or_false] at hu
        rcases hu with rfl | rfl | rfl | rfl | rfl
        · exact ⟨_, rfl, by decide, by decide⟩
        · exact ⟨_, rfl, by decide, by decide⟩
        · exact ⟨_, rfl, by decide, by decide⟩
        · exact ⟨_, rfl, by decide, by decide⟩
        · exact ⟨_, rfl, by decide, by decide⟩
      have bW : But p H3' H4 := (But.of sW).trans b4
      refine ⟨_, _, rfl, rfl, ?_⟩
      dsimp only [List.set]
      obtain ⟨nn, hnn⟩ : ∃ x : Int, x = ln + 1 + d := ⟨_, rfl⟩
      rw [← hnn]
      -- the sides
      refine ⟨(show 0 ≤ sizeLine by decide), fun S nS => ?_⟩
      have sS := same_new (o := HO.lst []) nS
      have nSp := p4.ne nS
      have eS : (upd H4 S (HO.lst [])) S = some (.lst (([] : List Addr).map V.ref)) := upd_same
      have p5 := p4.keep sS
      have b45 : But p H3' (upd H4 S (HO.lst [])) := bW.trans (.of sS)
      have nS3 : H3' S = none := bW.free nSp nS
      have nSH : H S = none := b3.free nSp nS3
      have eF5 := b45 _ _ nFp eF3
      have eL5 := b45 _ _ nLp eL3
      generalize upd H4 S (HO.lst []) = H5 at sS eS p5 b45 eF5 eL5 ⊢
      have nSF : S ≠ F := (ne_of_none eF3 nS3).symm
      have nSL : S ≠ L := (ne_of_none eL3 nS3).symm
      dsimp only [List.set]
      refine ⟨_, rfl, .ref p, rfl, .ref L, rfl, L, tops.map V.int, rfl, .inl (.inl (.inl eL5)), ?_⟩
      refine ⟨p, _, _, rfl, p5, by rw [List.length_map]; omega, by rw [List.length_map]; omega, by omega, fun o H6 b6 p6 o0 o1 => ?_⟩
      rw [List.length_map] at o1
      obtain ⟨o, rfl⟩ : ∃ k : Nat, o = k := ⟨o.toNat, by omega⟩
      refine ⟨(show 2 ≤ sizeLine by decide), fun Y nY => ?_⟩
      have sY := same_new (o := HO.tup [V.int (i : Int), .int (o : Int)]) nY
      have eY : (upd H6 Y (HO.tup [V.int (i : Int), .int (o : Int)])) Y = some (.tup [V.int (i : Int), .int (o : Int)]) := upd_same
      have eS7 := sY _ _ (b6 _ _ nSp eS)
      have b47 := (b45.trans b6).trans (.of sY)
      have eF7 := b47 _ _ nFp eF3
      have eL7 := b47 _ _ nLp eL3
      have p7 := p6.keep sY
      generalize upd H6 Y (HO.tup [V.int (i : Int), .int (o : Int)]) = H7 at eY eS7 b47 eF7 eL7 p7 ⊢
      have nYp : Y ≠ p := by
        obtain ⟨_, _, _, e, _⟩ := p7
        exact fun z => by rw [z, e] at eY; cases eY
      have nYS : Y ≠ S := fun z => by rw [z, eS7] at eY; cases eY
      refine ⟨Y, rfl, ⟨_, .inl (.inl eY)⟩, for_it (walk_tup (xs := [V.int (i : Int), .int (o : Int)])) (fun k σ H' => (∃ u8 : Option V, σ = [some (.ref p), some (.ref L), some (.int (many : Int)), some (.int (i : Int)), some (.ref F), some (.int nn), some (.int (0 + (j : Int))), some (.ref S), u8]) ∧ But p H3' (upd H' S (.lst [])) ∧ H' Y = some (.tup [V.int (i : Int), .int (o : Int)]) ∧ PotAt H' p (c + 1 + 8 * j + 2 + 2 * k) ∧ TupK H7 H' ∧ H' F = some (.lst (as.map V.ref)) ∧ H' L = some (.lst (tops.map V.int)) ∧
        ∃ ts ss, H' S = some (.lst (ts.map V.ref)) ∧ SdsAt H' ts ss ∧ ss.map (·.1) = [i, o].take k) ⟨⟨_, rfl⟩, but_new b47 nS3, eY, p7, fun _ _ e => e, eF7, eL7, [], [], eS7, trivial, rfl⟩ (fun k σ H' _ y => .inl (.inl y.2.2.1)) (fun k u σ H8 H8' hk y z => ?_) (fun σ H8 y => ?_)⟩
      · obtain ⟨⟨u8', rfl⟩, b8, eY8, p8, tk8, eF8, eL8, ts, ss, eS8, sd8, th8⟩ := y
        obtain ⟨rfl, gv⟩ := z
        have hk2 : k < 2 := hk
        obtain ⟨x, rfl, ex, xl⟩ : ∃ x : Nat, u = .int (x : Int) ∧ [i, o][k]? = some x ∧ x < tops.length := by
          match k, hk2, gv with
          | 0, _, gv => exact ⟨i, (Option.some.inj gv).symm, rfl, hi⟩
          | 1, _, gv => exact ⟨o, (Option.some.inj gv).symm, rfl, by omega⟩
        dsimp only [gName, List.set]
        refine ⟨.ref S, rfl, .inl ⟨rfl, _, .inl (.inl eS8)⟩, _, rfl, .ref p, rfl, (show 2 ≤ sizeLine by decide), fun W2 nW2 => ?_⟩
        have sW2 := same_new (o := HO.lst [V.str "from", .str "to"]) nW2
        have nW2p := p8.ne nW2
        refine ⟨p, W2, [V.str "from", .str "to"], _, rfl, p8.keep sW2, nW2p, .inl (.inl (.inl upd_same)), (show 1 ≤ 2 by decide), (show 2 ≤ 1000000 by decide), by omega, fun wv H9 hwv b9 p9 => ?_⟩
        obtain ⟨bb, rfl⟩ : ∃ b : Bool, wv = .str (word b) := by
          rcases List.mem_cons.mp hwv with h | h
          · exact ⟨true, h⟩
          · exact ⟨false, List.mem_singleton.mp h⟩
        have b89 : But p H8' H9 := (But.of sW2).trans b9
        have eL9 := b89 _ _ nLp eL8
        have ex2 := List.getElem?_eq_getElem xl
        have hx := tb _ (List.getElem_mem xl)
        refine ⟨.ref p, rfl, .ref L, rfl, _, rfl, L, _, (x : Int), .int tops[x], rfl, rfl, .inl (.inl eL9), atI_nat (by rw [List.getElem?_map, ex2]; rfl), _, 1, rfl, rfl, ?_⟩
        refine ⟨p, _, _, rfl, p9, by omega, by omega, by omega, fun pl HA bA pA l0 l1 => ⟨(show 3 ≤ sizeLine by decide), fun M nM => ?_⟩⟩
        have sM := same_new (o := HO.tup [V.int (x : Int), .str (word bb), .int pl]) nM
        have b8B := (b89.trans bA).trans (.of sM)
        have tkB : TupK H8' (upd HA M (HO.tup [V.int (x : Int), .str (word bb), .int pl])) := tk_but p8 b8B
        have eM : SideAt (upd HA M (HO.tup [V.int (x : Int), .str (word bb), .int pl])) M (x, bb, pl) := upd_same
        have eSB := b8B _ _ nSp eS8
        have eYB := b8B _ _ nYp eY8
        have eFB := b8B _ _ nFp eF8
        have eLB := b8B _ _ nLp eL8
        have pB := pA.keep sM
        generalize upd HA M (HO.tup [V.int (x : Int), .str (word bb), .int pl]) = HB at sM b8B tkB eM eSB eYB eFB eLB pB ⊢
        have kS : TupK HB (upd HB S (.lst (ts.map V.ref ++ [V.ref M]))) := tk_lst eSB
        refine ⟨S, _, _, rfl, rfl, eSB, ?_, ⟨_, rfl⟩, ?_, (upd_ne nYS).trans eYB, (pot_upd (pB.mono (by omega)) nSp), (tk8.trans tkB).trans kS, (upd_ne nSF.symm).trans eFB, (upd_ne nSL.symm).trans eLB, ts ++ [M], ss ++ [(x, bb, pl)], ?_, ((sd8.tk tkB).tk kS).app (eM.tk kS), ?_⟩
        · rw [List.length_map, sd8.len]
          have := congrArg List.length th8
          rw [List.length_map, List.length_take] at this
          exact small1000 (by omega)
        · intro b o ne eb
          by_cases bS : b = S
          · rw [bS, nS3] at eb; cases eb
          · have := b8 b o ne eb
            rw [upd_ne bS] at this
            rw [upd_ne bS, upd_ne bS]
            exact b8B b o ne this
        · rw [upd_same, List.map_append]
          rfl
        · rw [List.map_append, th8, List.take_add_one, ex]
          rfl
      · obtain ⟨⟨u8', rfl⟩, b8, eY8, p8, tk8, eF8, eL8, ts, ss, eS8, sd8, th8⟩ := y
        have th8 : ss.map (·.1) = [i, o] := th8
        match ss, th8, ts, sd8, eS8 with
        | [s1, s2], th8, [t1, t2], ⟨g1, g2, _⟩, eS8 =>
        have p8 : PotAt H8 p (c + 1 + 8 * j + 2 + 2 * 2) := p8
        have h1 : s1.1 = i := (List.cons.inj th8).1
        have h2 : s2.1 = o := (List.cons.inj (List.cons.inj th8).2).1
        dsimp only [gName, List.set]
        refine ⟨.ref F, rfl, .inl ⟨rfl, _, .inl (.inl eF8)⟩, _, rfl, .ref p, rfl, p, 2, _, rfl, p8, by decide, by decide, by omega, fun d HE bE pE d0 d1 => ?_⟩
        have kE := tk_but p8 bE
        have eSE := bE _ _ nSp eS8
        have eFE := bE _ _ nFp eF8
        have eLE := bE _ _ nLp eL8
        have tk3E : TupK H3' HE := fun a xs e => by
          have nap : a ≠ p := by
            obtain ⟨_, _, _, e2, _⟩ := p3
            exact fun z => by rw [z, e2] at e; cases e
          have naS : a ≠ S := fun z => by rw [z, nS3] at e; cases e
          have := b8 a _ nap e
          rw [upd_ne naS] at this
          exact bE _ _ nap this
        have BE : ∀ b o, b ≠ p → b ≠ S → H3' b = some o → HE b = some o := fun b o n1 n2 e => by
          have := b8 b o n1 e
          rw [upd_ne n2] at this
          exact bE _ _ n1 this
        have last : ∀ (HG : Hp) (G : Addr) (rl : Rl), Same HE HG → RuleAt HG G rl → okD tops.length i rl → ∀ T3, HG T3 = none →
            (fun j σ H' => (∃ (lastn : Int) (u6 u7 u8 : Option V), σ = [some (.ref p), some (.ref L), some (.int (many : Int)), some (.int (i : Int)), some (.ref F), some (.int lastn), u6, u7, u8] ∧ 0 ≤ lastn ∧ lastn ≤ 8 * (j : Nat) ∧ But p H H' ∧ PotAt H' p (c + 1 + 8 * j) ∧ H' L = some (.lst (tops.map V.int)) ∧
      ∃ as rs hs, H' F = some (.lst (as.map V.ref)) ∧ PlA H' as rs hs ∧ rs.length = j ∧ (rs.map (·.1)).Pairwise (· < ·) ∧ ∀ r ∈ rs, 1 ≤ r.1 ∧ r.1 ≤ lastn ∧ okD tops.length i r.2)) (j + 1) ([some (.ref p), some (.ref L), some (.int (many : Int)), some (.int (i : Int)), some (.ref F), some (.int nn), some (.int (0 + (j : Int))), some (.ref S), u8'] : L2.St)
            (upd (upd HG T3 (.tup [.int nn, .ref G])) F (.lst (as.map V.ref ++ [.ref T3]))) := fun HG G rl sG rG okG T3 nT3 => by
          have s3 := same_new (o := HO.tup [V.int nn, .ref G]) nT3
          have e3 : (upd HG T3 (HO.tup [V.int nn, .ref G])) T3 = some (.tup [.int nn, .ref G]) := upd_same
          have sA := sG.trans s3
          have eFA := sA _ _ eFE
          have eLA := sA _ _ eLE
          have r3 := rG.tk (tk_same s3)
          generalize upd HG T3 (HO.tup [V.int nn, .ref G]) = HI at s3 e3 sA eFA eLA r3 ⊢
          have kI := tk_lst (ys := as.map V.ref ++ [.ref T3]) eFA
          have nFL : F ≠ L := fun z => by rw [z, eL] at nF; cases nF
          refine ⟨nn, _, _, _, rfl, by omega, by omega, fun b o n1 e => ?_, (pot_upd (pE.keep sA) nFp).mono (by omega), (upd_ne nFL.symm).trans eLA, as ++ [T3], rs ++ [(nn, rl)], hs ++ [G], ?_, ((pa.tk (tk3E.trans (tk_same sA))).tk kI).snoc (kI _ _ e3) (r3.tk kI), by rw [List.length_append, lr]; rfl, ?_, fun r hr => ?_⟩
          · by_cases bF : b = F
            · rw [bF, nF] at e; cases e
            · rw [upd_ne bF]
              exact sA _ _ (BE b o n1 (ne_of_none e nSH) (b3 b o n1 e))
          · rw [upd_same, List.map_append]
            rfl
          · rw [List.map_append, List.pairwise_append]
            refine ⟨rise, List.pairwise_singleton _ _, fun x hx y hy => ?_⟩
            obtain ⟨r, hr, rfl⟩ := List.mem_map.mp hx
            obtain ⟨r', hr', rfl⟩ := List.mem_map.mp hy
            rw [List.mem_singleton.mp hr']
            have := ok r hr
            show r.1 < nn
            omega
          · rcases List.mem_append.mp hr with h | h
            · have := ok r h
              exact ⟨this.1, by omega, this.2.2⟩
            · rw [List.mem_singleton.mp h]
              exact ⟨by show 1 ≤ nn; omega, Int.le_refl _, okG⟩
        have la : as.length ≤ 6 := by rw [pa.1, lr]; omega
        have g1' := g1.tk kE
        have g2' := g2.tk kE
        have lF : (as.map V.ref).length < sizeLine := by
          rw [List.length_map]
          exact small1000 (by omega)
        refine ⟨rfl, _, rfl, ite2 (fun _ => ?_) (fun _ => ?_)⟩
        · refine ⟨.ref S, rfl, S, _, rfl, .inl (.inl eSE), fun L3 nL3 => ⟨L3, [.ref t2, .ref t1], rfl, .inl ⟨.inl (.inl upd_same), fun G nG => ⟨(show 2 ≤ sizeLine by decide), fun T3 nT3 => ⟨F, as.map V.ref, _, rfl, rfl, ?_, lF, ?_⟩⟩⟩⟩⟩
          · exact ((same_new nL3).trans ((same_new nG).trans (same_new nT3))) _ _ eFE
          · have sG := (same_new (o := HO.lst [V.ref t2, .ref t1]) nL3).trans (same_new (o := HO.tup [V.ref t2, .ref t1]) nG)
            exact last _ G (s2, s1) sG ⟨t2, t1, upd_same, g2'.tk (tk_same sG), g1'.tk (tk_same sG)⟩ ⟨.inr h1, by show s2.1 < _; omega, by show s1.1 < _; omega⟩ T3 nT3
        · refine ⟨.ref S, rfl, S, [.ref t1, .ref t2], rfl, .inl ⟨.inl (.inl eSE), fun G nG => ⟨(show 2 ≤ sizeLine by decide), fun T3 nT3 => ⟨F, as.map V.ref, _, rfl, rfl, ?_, lF, ?_⟩⟩⟩⟩
          · exact ((same_new nG).trans (same_new nT3)) _ _ eFE
          · have sG := same_new (o := HO.tup [V.ref t1, .ref t2]) nG
            exact last _ G (s1, s2) sG ⟨t1, t2, upd_same, g1'.tk (tk_same sG), g2'.tk (tk_same sG)⟩ ⟨.inl h1, by show s1.1 < _; omega, by show s2.1 < _; omega⟩ T3 nT3
    · obtain ⟨ln, u6, u7, u8, rfl, ln0, ln1, b3, p3, eL3, as, rs, hs, eF3, pa, lr, rise, ok⟩ := y
      have m6' : m ≤ 6 := by omega
      exact ⟨_, rfl, q H3 F as rs hs _ b3 p3 (by omega) eF3 pa (by omega) rise (fun r hr => by have := ok r hr; exact ⟨this.1, by omega, this.2.2⟩) nF⟩
end
end K61

set_option Elab.async false
set_option linter.all false
set_option maxRecDepth 100000
namespace K61
open PySem PySem.Spec PyProof.Rows L2 NB

/-! ### the law -/
theorem wipe_one {σ : L2.St} {k : Nat} {v : Option V} {n : Str} : wipe ((wipe σ ([(n, k)].map (·.2))).set k v) ([(n, k)].map (·.2)) = wipe σ ([(n, k)].map (·.2)) := by
  show ((σ.set k none).set k v).set k none = σ.set k none
  rw [List.set_set, List.set_set]
def RlA (H : Hp) (as : List Addr) (rows : List (Int × Rl × Int)) (hs : List (Int × Addr)) : Prop := as.length = rows.length ∧ hs.length = rows.length ∧
  ∀ (i : Nat) (a : Addr) (r : Int × Rl × Int) (z : Int × Addr), as[i]? = some a → rows[i]? = some r → hs[i]? = some z → z.1 = r.1 ∧ H a = some (.tup [.int r.1, .ref z.2, .int r.2.2]) ∧ RuleAt H z.2 r.2.1
theorem RlA.tk {H H' : Hp} {as rows hs} (h : RlA H as rows hs) (k : TupK H H') : RlA H' as rows hs := ⟨h.1, h.2.1, fun i a r z x y w => ⟨(h.2.2 i a r z x y w).1, k _ _ (h.2.2 i a r z x y w).2.1, (h.2.2 i a r z x y w).2.2.tk k⟩⟩
theorem RlA.snoc {H : Hp} {as rows hs} (h : RlA H as rows hs) {a hd : Addr} {n ct : Int} {rl : Rl} (e : H a = some (.tup [.int n, .ref hd, .int ct])) (er : RuleAt H hd rl) : RlA H (as ++ [a]) (rows ++ [(n, rl, ct)]) (hs ++ [(n, hd)]) := by
  obtain ⟨l1, l2, f⟩ := h
  refine ⟨by rw [List.length_append, List.length_append, l1]; rfl, by rw [List.length_append, List.length_append, l2]; rfl, fun i b r z x y w => ?_⟩
  by_cases hi : i < as.length
  · rw [List.getElem?_append_left hi] at x
    rw [List.getElem?_append_left (by omega)] at y w
    exact f i b r z x y w
  · have hl := (List.getElem?_eq_some_iff.mp x).1
    rw [List.length_append, List.length_singleton] at hl
    have hi2 : i = as.length := by omega
    rw [hi2, List.getElem?_append_right (Nat.le_refl _), Nat.sub_self] at x
    rw [hi2, l1, List.getElem?_append_right (Nat.le_refl _), Nat.sub_self] at y
    rw [hi2, l1, ← l2, List.getElem?_append_right (Nat.le_refl _), Nat.sub_self] at w
    cases x
    cases y
    cases w
    exact ⟨rfl, e, er⟩
/-- the law's helpers -/
theorem merge_nd : ∀ (more acc : List (Key × V)), ((acc ++ more).map (·.1)).Nodup → mergeK acc more = acc ++ more
  | [], acc, _ => by rw [List.append_nil]; rfl
  | kv :: more, acc, h => by
    have e : putK acc kv.1 kv.2 = acc ++ [kv] := by
      unfold putK
      rw [if_neg]
      intro z
      obtain ⟨y, hy, hz⟩ := List.any_eq_true.mp z
      rw [List.map_append, List.nodup_append] at h
      exact h.2.2 _ (List.mem_map.mpr ⟨y, hy, rfl⟩) _ (List.mem_map.mpr ⟨kv, List.mem_cons_self, rfl⟩) (of_decide_eq_true hz)
    show mergeK (putK acc kv.1 kv.2) more = _
    rw [e, merge_nd more (acc ++ [kv]) (by rw [List.append_assoc]; exact h), List.append_assoc]
    rfl
theorem paired_imp {α β : Type} {F G : α → β → Prop} (h : ∀ a b, F a b → G a b) : ∀ {l : List α} {m : List β}, Paired F l m → Paired G l m
  | _, _, .nil => .nil
  | _, _, .cons a r => .cons (h _ _ a) (paired_imp h r)
theorem kit_self {K : PySem.W.Frag} {C : Addr} : PySem.W.kitOne K (.ref C) (.ref C) = some true := by
  unfold PySem.W.kitOne
  refine if_pos ?_
  first | exact beq_self_eq_true _ | simp | (show (C == C) = true; simp)
theorem all2 {α : Type} {P : α → Prop} {a b : α} (ha : P a) (hb : P b) : ∀ p ∈ [a, b], P p := fun p hp => by
  rcases List.mem_cons.mp hp with rfl | hp
  · exact ha
  · rw [List.mem_singleton.mp hp]
    exact hb
theorem cut1 (bs : List Addr) : cutV (bs.map V.ref) none (some 1) = (bs.take 1).map V.ref := by
  unfold cutV
  rw [HT.sIx_none, show (some (1 : Int)) = some ((1 : Nat) : Int) from rfl, HT.sIx_nat, List.drop_zero, Nat.sub_zero, List.map_take]
  cases bs with
  | nil => rfl
  | cons b bs => rw [Nat.min_eq_left (by simp)]
theorem far_bh {C : Addr} {H H' : Hp} {x D T : Addr} {h : Hd} (a : HandAt C H x D T h) (b : ButH x T H H') : ∀ (c : Addr) (o : HO), H c = some o → (∀ k dx fs, o ≠ .ins k dx fs) → (∀ kvs, o ≠ .dK kvs) → H' c = some o := fun c o e n1 n2 => by
  obtain ⟨dx, v, hs, i0, _, _, t, _⟩ := a
  have i0' : H x = some (.ins C dx [("thing", .int (h.thing : Int)), ("place", .int h.place), ("wish", v), ("held", .ref D), ("tally", .ref T)]) := i0
  exact b _ _ (fun z => by rw [z, i0'] at e; cases e; exact n1 _ _ _ rfl) (fun z => by rw [z, t] at e; cases e; exact n2 _ rfl) e
open LamX in
theorem tabs_far {T : List (Addr × Str)} {H H' : Hp} (t : Tabs T H) (k : ∀ (c : Addr) (o : HO), H c = some o → (∀ k dx fs, o ≠ .ins k dx fs) → (∀ kvs, o ≠ .dK kvs) → H' c = some o) : Tabs T H' := fun p hp => by
  obtain ⟨ps, h1, h2, h3⟩ := t p hp
  refine ⟨ps, k _ _ h1 (fun _ _ _ w => by cases w) (fun _ w => by cases w), h2, fun pos cv hc => ?_⟩
  obtain ⟨c, e1, e2⟩ := h3 pos cv hc
  exact ⟨c, e1, k _ _ e2 (fun _ _ _ w => by cases w) (fun _ w => by cases w)⟩
theorem hs_hw {h : Hd} (s : Hs h) {w : Wi} (p : WiP w) (l : h.thing < w.2.length) : Hs (h.hw (some w)) := by
  unfold Hd.hw
  split
  · exact ⟨⟨s.s.1, fun w' e => by cases e; exact p⟩, s.l5, s.th, s.pl, fun w' e => by cases e; exact l⟩
  · exact s
open LamX in
theorem ext_of_bn {p : Addr} {H H' : Hp} (b : BN p H H') (n : H p = none) : ExtN H H' := fun x o e t => b x o (fun z => by rw [z, n] at e; cases e) e t
open LamX in
theorem ext_seqL {K : PySem.W.Frag} {a : Addr} {xs : List V} {H H' : Hp} (x : ExtN H H') (h : SqL K H a xs) : SqL K H' a xs := by
  rcases h with (e | ⟨od, e⟩) | kk
  · exact .inl (.inl (x _ _ e (fun _ z => by cases z)))
  · exact .inl (.inr ⟨od, x _ _ e (fun _ z => by cases z)⟩)
  · exact .inr kk
theorem RlA.held {H : Hp} : ∀ {as : List Addr} {rows : List (Int × Rl × Int)} {zs : List (Int × Addr)}, RlA H as rows zs → Held H zs rows
  | [], [], [], _ => trivial
  | a :: as, r :: rows, z :: zs, ⟨l1, l2, f⟩ => ⟨(f 0 a r z rfl rfl rfl).1, (f 0 a r z rfl rfl rfl).2.2, RlA.held (as := as) ⟨Nat.succ.inj l1, Nat.succ.inj l2, fun i b s y e1 e2 e3 => f (i + 1) b s y e1 e2 e3⟩⟩
  | [], _ :: _, _, ⟨l1, _, _⟩ => by cases l1
  | _ :: _, [], _, ⟨l1, _, _⟩ => by cases l1
  | _, [], _ :: _, ⟨_, l2, _⟩ => by cases l2
  | _, _ :: _, [], ⟨_, l2, _⟩ => by cases l2
abbrev qLw : Str := (envOfC "law" (defScope (topS 33)) 0 0 .none).qual ++ "<lambda>"
section
open LamX
variable {P : Program} {w : World} {K : PySem.W.Frag} {mg : Str → Option Value} {base : Heap}
def spLaw (K : PySem.W.Frag) (TT : List (Addr × Str)) : Sp := fun vs H Q _ => ∃ (a : Addr) (ns : List Int), vs = [.ref a] ∧ SqL K H a (ns.map V.int) ∧ ns.length ≤ 63 ∧ Tabs TT H ∧ ∀ H', Q (.bl true) H'
abbrev a_law : Stmt := topS 33
abbrev n_law : List Str := ["_law_script", "_law_k", "_law_pot_here", "_law_thing", "_law_tops", "_law_rows", "_law_rule", "_law_turn", "_law_number", "_law_count", "_law_hand", "_law_top"]
theorem sc_law : FnScope n_law ["_law_script"] (defScope a_law) := ⟨rfl, rfl, rfl, by decide +kernel, rfl, by decide +kernel, by decide +kernel⟩
set_option maxHeartbeats 8000000 in
theorem ok_law {f fTk fOf fHr fPo fRi fNr : Addr} {fd fdTk fdOf fdHr fdPo fdRi fdNr : FuncData}  {C f0 CB CT CR CL fC cL PL : Addr} {fd0 fdC : FuncData} {TT : List (Addr × Str)} (F : Fun K "law" "law" a_law f fd) (Tk : Kn P w K mg base 1 "_law_take" ["_law_pot_here", "_law_many"] spTake fTk fdTk) (Of : Kn P w K mg base 2 "_law_of" ["_law_pot_here", "_law_some"] (spOf K) fOf fdOf) (Hr : Kn P w K mg base 3 "_law_hand_rules" ["_law_pot_here", "_law_tops", "_law_many", "_law_thing"] spHR fHr fdHr) (Po : Kn P w K mg base 1 "_law_pot" ["_law_script", "_law_k"] (spPot K) fPo fdPo) (Ri : FnG P w K mg base 12 fRi fdRi ["_law_pot_here", "_law_hand", "_law_rules"] (spRight C TT)) (gRi : mg "_law_right" = some (.ref fRi)) (kRi : PySem.W.keepIn K (.ref fRi) = true) (bRi : Binds K fdRi ["_law_pot_here", "_law_hand", "_law_rules"] []) (Nr : FnG P w K mg base 2 fNr fdNr ["_law_thing"] (spNo true false)) (gNr : mg "_law_no_rule" = some (.ref fNr)) (kNr : PySem.W.keepIn K (.ref fNr) = true) (bNr : Binds K fdNr ["_law_thing"] []) (Hq : C8.Met P w K mg base 3 C "drop" (spHDrop C) []) (Hh : C8.Met P w K mg base 7 C "hear" (spHear C) []) (Hc : MetX P w K mg base 4 C "count_of" (spCountR C CR)) (Hdr : MetX P w K mg base 3 C "drop" (spDropR C CR)) (X : HandTxt K C) (M : Mk K C f0) (GI : FnOk P w K mg base CX0 1 f0 fd0 ["self", "thing", "place", "rules"] (spHInit C)) (bI : Binds K fd0 ["self", "thing", "place", "rules"] []) (mgC : mg "Hand" = some (.ref C)) (RT : RefT K mg CB CT CR CL) (RR : RefC K CB CT CR CL CR true false) (FC : Fun K "_law_refusal" "_law_refusal" a__law_refusal fC fdC) (gC : mg "_law_refusal" = some (.ref fC)) (TB : TabB base mg cL PL) (hcd : fd.code = .ref cL) (hm : (PL, qLw) ∈ TT) (hu : ∀ p ∈ TT, p.1 = PL → p.2 = qLw) (m_dict : mg "dict" = none) (m_int : mg "int" = none) (m_len : mg "len" = none) (m_max : mg "max" = none) (m_min : mg "min" = none) (m_range : mg "range" = none) (m_tuple : mg "tuple" = none) : FnG P w K mg base 13 f fd ["_law_script"] (spLaw K TT) := by
  refine fnGC F sc_law (fun vs H Q E h => ?_) (fun A outer s H vs Q E hG hr h => ?_)
  · obtain ⟨a, ns, rfl, _⟩ := h
    rfl
  · obtain ⟨a, ns, rfl, hS, hn, tB, q⟩ := h
    refine ⟨_, (pss_cons (ps_for PassesOwn.never rfl (pi_range1 (by rfl) m_range (pa_cons (pe_callB (call_max2 rfl) (by rfl) m_max (by decide +kernel) (pa_cons pe_int (pa_cons (pe_callB (call_min2 rfl) (by rfl) m_min (by decide +kernel) (pa_cons pe_int (pa_cons (pe_callB call_len_seq (by rfl) m_len (by decide +kernel) (pa_cons (pv 0) pa_nil)) pa_nil))) pa_nil))) pa_nil)) (pg_name (i := 1) sc_law.nd rfl (.inl rfl))
        (pss_cons (ps_set (i := 2) sc_law.nd rfl (.inr rfl) (pe_kn Po hr (by omega) (pa_cons (pv 0) (pa_cons (pv 1) pa_nil))))
      (pss_cons (ps_setLc (i := 4) (own := [("_law_thing", 3)]) (g := (gName 3)) (tt := tYes) (te := (tCall (spOf K) [] E0 (tCons (tVar 2) (tCons (tLst (tCons (tC (.int 1)) (tCons (tC (.int 2)) (tCons (tC (.int 9)) tNil)))) tNil)))) rfl sc_law.nd rfl rfl (sw_true rfl rfl rfl (by decide +kernel)) (pi_range1 (by rfl) m_range (pa_cons (pe_op op_add pe_int (pe_kn Tk hr (by omega) (pa_cons (pv 2) (pa_cons pe_int pa_nil)))) pa_nil)) (blkOk_by (N := n_law) (sc := defScope a_law) (by decide +kernel))
          (fun _ _ _ _ _ => (pg_name (i := 3) sc_law.nd rfl (.inl rfl) (hf := .inr rfl))) (fun _ _ _ _ _ => pts_nil) (fun _ _ _ _ _ => (pe_kn Of hr (by omega) (pa_cons (pv 2) (pa_cons (pe_lst (pa_cons pe_int (pa_cons pe_int (pa_cons pe_int pa_nil)))) pa_nil)))))
      (pss_cons (ps_par (i := 3) (j := 5) (by rfl) sc_law.nd rfl rfl (by decide) rfl rfl (pa_cons (pe_kn Tk hr (by omega) (pa_cons (pv 2) (pa_cons (pe_callB call_len_seq (by rfl) m_len (by decide +kernel) (pa_cons (pv 4) pa_nil)) pa_nil))) (pa_cons (pe_lst pa_nil) pa_nil)) (by rfl))
      (pss_cons (ps_for PassesOwn.never rfl (pi_list (pe_kn Hr hr (by omega) (pa_cons (pv 2) (pa_cons (pv 4) (pa_cons pe_int (pa_cons (pv 3) pa_nil)))))) (pg_tup rfl (pgs_cons (pg_name (i := 8) sc_law.nd rfl (.inr rfl)) (pgs_cons (pg_name (i := 6) sc_law.nd rfl (.inl rfl)) pgs_nil)))
        (pss_one (ps_expr (pe_bm PySem.F.plainAttrs_list PySem.F.slot_list_append PySem.F.type_list_append mt_append (pv 5) (pa_cons (pe_tup (pa_cons (pv 8) (pa_cons (pv 6) (pa_cons (pe_op op_mul (pe_kn Tk hr (by omega) (pa_cons (pv 2) (pa_cons pe_int pa_nil))) (pe_callTy call_int1 (by rfl) m_int (by decide +kernel) (pa_cons (pe_cmpR op_ne (pe_ix ix_tup (pe_ix ix_tup (pv 6) pe_int (fun _ _ => rfl)) pe_int (fun _ _ => rfl)) (pe_ix ix_tup (pe_ix ix_tup (pv 6) pe_int (fun _ _ => rfl)) pe_int (fun _ _ => rfl)) (nomark _)) pa_nil))) pa_nil)))) pa_nil)))))
      (pss_cons (ps_set (i := 10) sc_law.nd rfl (.inr rfl) (pe_make M GI (hr.mono (by omega)) (by rfl) mgC bI .nil pass0 (pa_cons (pv 3) (pa_cons (pe_kn Tk hr (by omega) (pa_cons (pv 2) (pa_cons (pe_op op_add (pe_ix ix_list (pv 4) (pv 3) (fun _ _ => rfl)) pe_int) pa_nil))) (pa_cons (pe_callTy call_tuple_of (by rfl) m_tuple (by decide +kernel) (pa_cons (pv 5) pa_nil)) pa_nil)))))
      (pss_cons (ps_for PassesOwn.never rfl (pi_range1 (by rfl) m_range (pa_cons pe_int pa_nil)) (pg_name (i := 7) sc_law.nd rfl (.inl rfl))
        (pss_cons (ps_if (pt_not (pt_val (pe_callG hG Ri (hr.mono (by omega)) (by rfl) gRi kRi bRi (pa_cons (pv 2) (pa_cons (pv 10) (pa_cons (pe_callTy (call_dictP rfl) (by rfl) m_dict (by decide +kernel) (pa_cons (
        pe_lc (own := [("_law_number", 8), ("_law_rule", 6), ("_law_count", 9)]) (g := (gTup K 3 (gCons (gName 8) (gCons (gName 6) (gCons (gName 9) gNil))))) (tt := tYes) (te := (tTup (tCons (tVar 8) (tCons (tVar 6) tNil)))) rfl sc_law.nd (pi_list (pv 5)) (blkOk_by (N := n_law) (sc := defScope a_law) (by decide +kernel))
          (fun _ _ _ _ _ => (pg_tup rfl (pgs_cons (pg_name (i := 8) sc_law.nd rfl (.inl rfl) (hf := .inr rfl)) (pgs_cons (pg_name (i := 6) sc_law.nd rfl (.inl rfl) (hf := .inr rfl)) (pgs_cons (pg_name (i := 9) sc_law.nd rfl (.inl rfl) (hf := .inr rfl)) pgs_nil))))) (fun _ _ _ _ _ => pts_nil) (fun _ _ _ _ _ => (pe_tup (pa_cons (pv 8) (pa_cons (pv 6) pa_nil))))) pa_nil)) pa_nil)))))) (pss_one (ps_ret pe_bl)) pss_nil)
      (pss_one (ps_expr (C8.pe_mt Hh hr (by omega) (pv 10) (pa_cons (pe_tup (pa_cons pe_str (pa_cons (pe_tup (pa_cons pe_int (pa_cons (pe_callTy call_tuple_of (by rfl) m_tuple (by decide +kernel) (pa_cons (
        pe_lc (own := [("_law_top", 11)]) (g := (gName 11)) (tt := tYes) (te := (tCall spTake [] E0 (tCons (tVar 2) (tCons (tOp (rI0 fun i j => .int (i + j)) (tVar 11) (tC (.int 1))) tNil)))) rfl sc_law.nd (pi_list (pv 4)) (blkOk_by (N := n_law) (sc := defScope a_law) (by decide +kernel))
          (fun _ _ _ _ _ => (pg_name (i := 11) sc_law.nd rfl (.inl rfl) (hf := .inr rfl))) (fun _ _ _ _ _ => pts_nil) (fun _ _ _ _ _ => (pe_kn Tk hr (by omega) (pa_cons (pv 2) (pa_cons (pe_op (r := rI0 fun i j => .int (i + j)) op_add (pv 11) pe_int) pa_nil))))) pa_nil)) pa_nil))) pa_nil))) pa_nil))))))
      (pss_one (ps_for PassesOwn.never rfl (pi_list (pe_slice (r := rSlL K) sl_list (pv 5) po_none (po_some pe_int))) (pg_tup rfl (pgs_cons (pg_name (i := 8) sc_law.nd rfl (.inr rfl)) (pgs_cons (pg_name (i := 6) sc_law.nd rfl (.inl rfl)) (pgs_cons (pg_name (i := 9) sc_law.nd rfl (.inl rfl)) pgs_nil))))
        (pss_cons (ps_if (pt_cmpR op_notN (C8.pe_mt Hq hr (by omega) (pv 10) (pa_cons (pv 8) pa_nil)) pe_non (nomark _)) (pss_one (ps_ret pe_bl)) pss_nil)
      (pss_cons (ps_if (pt_cmpR (op_neLS hr.units) (pe_refusal (t := fun E => tMeth C "drop" (spDropR C CR) [] E (tVar 10) (tCons (tVar 8) tNil)) RT RR hG FC gC (by rfl) TB hcd hm hu (k := 10) hr (lamS_by (show lamSB (defScope a_law) _ = true by decide +kernel)) (by rfl) (fun _ _ _ _ _ => rfl) (fun A' outer' s' H' E' f' c' hr' => pe_mtP Hdr hr' (by omega) (takes_of rfl rfl rfl rfl) (pv 10) (pa_cons (pv 8) pa_nil))) (pe_callG hG Nr (hr.mono (by omega)) (by rfl) gNr kNr bNr (pa_cons (pv 8) pa_nil)) (nomark _)) (pss_one (ps_ret pe_bl)) pss_nil)
      (pss_one (ps_if (pt_cmpR (op_neLS hr.units) (pe_refusal (t := fun E => tMeth C "count_of" (spCountR C CR) [] E (tVar 10) (tCons (tVar 8) tNil)) RT RR hG FC gC (by rfl) TB hcd hm hu (k := 10) hr (lamS_by (show lamSB (defScope a_law) _ = true by decide +kernel)) (by rfl) (fun _ _ _ _ _ => rfl) (fun A' outer' s' H' E' f' c' hr' => pe_mtP Hc hr' (by omega) (takes_of rfl rfl rfl rfl) (pv 10) (pa_cons (pv 8) pa_nil))) (pe_callG hG Nr (hr.mono (by omega)) (by rfl) gNr kNr bNr (pa_cons (pv 8) pa_nil)) (nomark _)) (pss_one (ps_ret pe_bl)) pss_nil)))))))))))))
      (pss_one (ps_ret pe_bl))), ?_⟩
    refine ⟨.ref a, rfl, a, _, rfl, .inl hS, 3, _, rfl, 1, _, rfl, _, rfl, ?_, ?_, for_it walk_range (fun i σ H' => (∃ u1 u2 u3 u4 u5 u6 u7 u8 u9 u10 u11, σ = [some (.ref a), u1, u2, u3, u4, u5, u6, u7, u8, u9, u10, u11]) ∧ ExtN H H' ∧ Tabs TT H') ⟨⟨_, _, _, _, _, _, _, _, _, _, _, rfl⟩, ExtN.refl H, tB⟩ (fun _ _ _ _ _ => trivial) (fun i v σ H0' H0 hi y z => ?_) (fun σ H0 y => q H0)⟩
    · split <;> split <;> omega
    · split <;> split <;> omega
    obtain ⟨⟨u1, u2, u3, u4, u5, u6, u7, u8, u9, u10, u11, rfl⟩, x0, t0⟩ := y
    obtain ⟨rfl, rfl⟩ := z
    have i5 : i < 5 := by
      revert hi
      split <;> split <;> intro hi <;> omega
    refine ⟨.ref a, rfl, _, rfl, a, ns, i, by show [V.ref a, V.int (0 + (i : Int))] = _; rw [Int.zero_add], ext_seqL x0 hS, by omega, fun H1 p s1 np pp1 => ?_⟩
    have npH : H0 p = none := np
    have B1 : But p H0 H1 := But.of s1
    dsimp only [List.set]
    -- tops
    refine ⟨.ref p, rfl, p, 4, 0, rfl, pp1, by decide, by decide, by omega, fun d H2 b2 p2 d0 d1 => ⟨2, d, rfl, rfl, _, rfl, by omega, by omega, fun L nL => lc_it walk_range (fun j H' => But p H0 H' ∧ PotAt H' p (1 + j) ∧ L ≠ p ∧ ∃ ts : List Int, H' L = some (.lst (ts.map V.int)) ∧ ts.length = j ∧ ∀ y ∈ ts, 1 ≤ y ∧ y ≤ 9) ⟨but_new (B1.trans b2) ((B1.trans b2).free (p2.ne nL) nL), pot_upd p2 (p2.ne nL), p2.ne nL, [], upd_same, rfl, fun y hy => absurd hy List.not_mem_nil⟩ (fun _ _ _ _ => trivial) (fun j v H3' H3 hj y z => ?_) (fun H3 y => ?_)⟩⟩
    · obtain ⟨B3, p3, nLp, ts, eL, lt, tb⟩ := y
      obtain ⟨rfl, rfl⟩ := z
      have hj4 : j < 5 := by omega
      refine ⟨wipe_one, .ref p, rfl, (show 3 ≤ sizeLine by decide), fun M nM => ?_⟩
      have sM := same_new (o := HO.lst [V.int 1, .int 2, .int 9]) nM
      refine ⟨p, M, [V.int 1, .int 2, .int 9], _, rfl, p3.keep sM, p3.ne nM, .inl (.inl (.inl upd_same)), (show 1 ≤ 3 by decide), (show 3 ≤ 1000000 by decide), by omega, fun u H4 hu b4 p4 => ?_⟩
      obtain ⟨y, rfl, y1, y6⟩ : ∃ y : Int, u = .int y ∧ 1 ≤ y ∧ y ≤ 9 := by
        simp only [List.mem_cons, List.not_mem_nil, or_false] at hu
        rcases hu with rfl | rfl | rfl
        · exact ⟨_, rfl, by decide, by decide⟩
        · exact ⟨_, rfl, by decide, by decide⟩
        · exact ⟨_, rfl, by decide, by decide⟩
      have nLH : H0 L = none := (B1.trans b2).free (p2.ne nL) nL
      have eL4 := b4 _ _ nLp (sM _ _ eL)
      refine ⟨_, eL4, by rw [List.length_map]; exact small1000 (by omega), but_new ((B3.trans (.of sM)).trans b4) nLH, pot_upd (p4.mono (by omega)) nLp, nLp, ts ++ [y], by rw [upd_same, List.map_append]; rfl, by rw [List.length_append, lt]; rfl, fun x hx => ?_⟩
      rcases List.mem_append.mp hx with h | h
      · exact tb x h
      · rw [List.mem_singleton.mp h]
        exact ⟨y1, y6⟩
    obtain ⟨B3, p3, nLp, tops, eL3, lt, tb⟩ := y
    have l1 : 1 ≤ tops.length := by omega
    have l4 : tops.length ≤ 5 := by omega
    have p3 : PotAt H3 p 10 := p3.mono (by omega)
    clear lt
    dsimp only [List.set]
    -- the thing
    refine ⟨.ref p, rfl, .ref L, rfl, L, tops.map V.int, rfl, .inl (.inl (.inl eL3)), p, _, _, rfl, p3, by rw [List.length_map]; omega, by rw [List.length_map]; omega, by omega, fun th H4 b4 p4 h0 h1 => ?_⟩
    rw [List.length_map] at h1
    obtain ⟨th, rfl⟩ : ∃ k : Nat, th = k := ⟨th.toNat, by omega⟩
    have eL4 := b4 _ _ nLp eL3
    have B4 := B3.trans b4
    -- rows
    refine ⟨(show 0 ≤ sizeLine by decide), fun R nR => ?_⟩
    have nRp := p4.ne nR
    have sR := same_new (o := HO.lst []) nR
    have eR5 : (upd H4 R (HO.lst [])) R = some (.lst (([] : List Addr).map V.ref)) := upd_same
    have p5 := p4.keep sR
    have eL5 := sR _ _ eL4
    have B5 := B4.trans (.of sR)
    have nRH : H0 R = none := B4.free nRp nR
    generalize upd H4 R (HO.lst []) = H5 at sR eR5 p5 eL5 B5 ⊢
    have nRL : R ≠ L := (ne_of_none eL4 nR).symm
    refine ⟨_, _, rfl, ?_⟩
    dsimp only [List.set]
    refine ⟨.ref p, rfl, .ref L, rfl, _, rfl, p, L, tops, 5, th, 11, rfl, p5, by omega, eL5, nLp, by omega, by omega, tb, by decide, fun H6 G as rs hs c' b6 p6 hc' eG pa rl rise rk nG => ?_⟩
    have nGp := p5.ne nG
    have nGR : G ≠ R := (ne_of_none eR5 nG).symm
    have eR6 := b6 _ _ nRp eR5
    have eL6 := b6 _ _ nLp eL5
    have B6 := B5.trans b6
    refine ⟨G, rfl, ⟨_, .inl (.inl eG)⟩, for_it (walk_list (xs := as.map V.ref)) (fun j σ H' => (∃ u6 u7 u8 u9 u10 u11, σ = [some (.ref a), some (.int (0 + (i : Int))), some (.ref p), some (.int (th : Int)), some (.ref L), some (.ref R), u6, u7, u8, u9, u10, u11]) ∧ But p H0 H' ∧ PotAt H' p (c' + j) ∧ H' G = some (.lst (as.map V.ref)) ∧ PlA H' as rs hs ∧ H' L = some (.lst (tops.map V.int)) ∧
      ∃ bs rows zs, H' R = some (.lst (bs.map V.ref)) ∧ RlA H' bs rows zs ∧ rows.map (·.1) = (rs.map (·.1)).take j ∧ ∀ r ∈ rows, okD tops.length th r.2.1 ∧ 0 ≤ r.1 ∧ r.1 ≤ 48 ∧ 0 ≤ r.2.2 ∧ r.2.2 ≤ 3) ⟨⟨_, _, _, _, _, _, rfl⟩, B6, p6, eG, pa, eL6, [], [], [], eR6, ⟨rfl, rfl, fun _ _ _ _ x => by cases x⟩, rfl, fun _ h => absurd h List.not_mem_nil⟩ (fun j σ H' _ y => .inl (.inl y.2.2.2.1)) (fun j uu σ H7 H7' hj y z => ?_) (fun σ H7 y => ?_)⟩
    · obtain ⟨⟨u6, u7, u8, u9, u10, u11, rfl⟩, B7, p7, eG7, pa7, eL7, bs, rows, zs, eR7, ra7, rk7, ro7⟩ := y
      obtain ⟨rfl, gv⟩ := z
      obtain ⟨ad, ea, rfl⟩ := mapGet gv
      have hia := (List.getElem?_eq_some_iff.mp ea).1
      have lenA := pa7.1
      have lenH := pa7.2.1
      obtain ⟨r, er⟩ : ∃ r, rs[j]? = some r := ⟨_, List.getElem?_eq_getElem (by omega)⟩
      obtain ⟨hd, eh⟩ : ∃ z, hs[j]? = some z := ⟨_, List.getElem?_eq_getElem (by omega)⟩
      obtain ⟨f1, f2⟩ := pa7.2.2 j ad r hd ea er eh
      have rkr := rk _ (List.mem_of_getElem? er)
      have lrows : rows.length = j := by
        have := congrArg List.length rk7
        rw [List.length_map, List.length_take, List.length_map] at this
        omega
      refine ⟨ad, _, rfl, .inl (.inl f1), rfl, _, _, rfl, _, _, rfl, rfl, ?_⟩
      dsimp only [List.set]
      refine ⟨.ref R, rfl, .inl ⟨rfl, _, .inl (.inl eR7)⟩, _, rfl, .ref hd, rfl, .ref p, rfl, p, 4, _, rfl, p7, by decide, by decide, by omega, fun ct H8 b8 p8 c0 c1 => ?_⟩
      have tk8 := tk_but p7 b8
      have f28 := f2.tk tk8
      have f28' := f28
      obtain ⟨q1, q2, e12, g1, g2⟩ := f28'
      have g1' : H8 q1 = some (.tup [.int (r.2.1.1 : Int), .str (word r.2.1.2.1), .int r.2.1.2.2]) := g1
      have g2' : H8 q2 = some (.tup [.int (r.2.2.1 : Int), .str (word r.2.2.2.1), .int r.2.2.2.2]) := g2
      refine ⟨.ref hd, rfl, hd, _, 0, .ref q1, rfl, rfl, .inl (.inl e12), atI_nat (j := 0) rfl, q1, _, 0, _, rfl, rfl, .inl (.inl g1'), atI_nat (j := 0) rfl, .ref hd, rfl, hd, _, 1, .ref q2, rfl, rfl, .inl (.inl e12), atI_nat (j := 1) rfl, q2, _, 0, _, rfl, rfl, .inl (.inl g2'), atI_nat (j := 0) rfl, rfl, .inr ⟨_, rfl, ct, _, rfl, rfl, .inl ⟨by omega, by omega⟩, (show 3 ≤ sizeLine by decide), fun T3 nT3 => ?_⟩⟩
      obtain ⟨cn, hcn⟩ : ∃ z : Int, z = ct * (if (!decide (V.int (r.2.1.1 : Int) = V.int (r.2.2.1 : Int))) = true then 1 else 0) := ⟨_, rfl⟩
      have hc2 : 0 ≤ cn ∧ cn ≤ 3 := by
        rw [hcn]
        split <;> omega
      dsimp only at nT3 ⊢
      rw [← hcn]
      have s3 := same_new (o := HO.tup [V.int r.1, .ref hd, .int cn]) nT3
      have e3 : (upd H8 T3 (HO.tup [V.int r.1, .ref hd, .int cn])) T3 = some (.tup [.int r.1, .ref hd, .int cn]) := upd_same
      have eR9 := s3 _ _ (b8 _ _ nRp eR7)
      have b79 := b8.trans (.of s3)
      have tk9 := tk_but p7 b79
      have p9 := p8.keep s3
      generalize upd H8 T3 (HO.tup [V.int r.1, .ref hd, .int cn]) = H9 at s3 e3 eR9 b79 tk9 p9 ⊢
      have kR := tk_lst (ys := bs.map V.ref ++ [.ref T3]) eR9
      refine ⟨R, _, _, rfl, rfl, eR9, by rw [List.length_map, ra7.1]; exact small1000 (by omega), ⟨_, _, _, _, _, _, rfl⟩, but_new (B7.trans b79) nRH, pot_upd (p9.mono (by omega)) nRp, (upd_ne nGR).trans (b79 _ _ nGp eG7), (pa7.tk tk9).tk kR, (upd_ne nRL.symm).trans (b79 _ _ nLp eL7), bs ++ [T3], rows ++ [(r.1, r.2, cn)], zs ++ [(r.1, hd)], by rw [upd_same, List.map_append]; rfl, ((ra7.tk tk9).tk kR).snoc (kR _ _ e3) ((f2.tk tk9).tk kR), ?_, fun r' hr' => ?_⟩
      · rw [List.map_append, rk7, List.take_add_one, List.getElem?_map, er]
        rfl
      · rcases List.mem_append.mp hr' with h | h
        · exact ro7 r' h
        · rw [List.mem_singleton.mp h]
          exact ⟨rkr.2.2, by show 0 ≤ r.1; omega, rkr.2.1, hc2.1, hc2.2⟩
    obtain ⟨⟨u6, u7, u8, u9, u10, u11, rfl⟩, B7, p7, eG7, pa7, eL7, bs, rows, zs, eR7, ra7, rk7, ro7⟩ := y
    rw [List.length_map, pa.1] at p7
    rw [List.length_map, pa.1, List.take_of_length_le (by rw [List.length_map]; exact Nat.le_refl _)] at rk7
    have nd : (rows.map (·.1)).Nodup := by
      rw [rk7]
      exact rise.imp fun h => Int.ne_of_lt h
    have lrows : rows.length ≤ 5 := by
      have := congrArg List.length rk7
      rw [List.length_map, List.length_map] at this
      omega
    have p7 : PotAt H7 p 90 := p7.mono (by omega)
    have ex := List.getElem?_eq_getElem (show th < tops.length by omega)
    have hx := tb _ (List.getElem_mem (show th < tops.length by omega))
    refine ⟨.int (th : Int), rfl, .ref p, rfl, .ref L, rfl, _, rfl, L, _, (th : Int), .int tops[th], rfl, rfl, .inl (.inl eL7), atI_nat (by rw [List.getElem?_map, ex]; rfl), _, 1, rfl, rfl, p, _, _, rfl, p7, by omega, by omega, by omega, fun pl H8 b8 p8 l0 l6 => ?_⟩
    have tk8 := tk_but p7 b8
    have ra8 := ra7.tk tk8
    have eR8 := b8 _ _ nRp eR7
    have eL8 := b8 _ _ nLp eL7
    have B8 := B7.trans b8
    refine ⟨.ref R, rfl, R, bs.map V.ref, rfl, .inl ⟨.inl (.inl eR8), fun G2 nG2 => ?_⟩⟩
    have sG := same_new (o := HO.tup (bs.map V.ref)) nG2
    have eG2 : (upd H8 G2 (HO.tup (bs.map V.ref))) G2 = some (.tup (bs.map V.ref)) := upd_same
    have eRB := sG _ _ eR8
    have eLB := sG _ _ eL8
    have pB := p8.keep sG
    have BB := B8.trans (.of sG)
    have raB := ra8.tk (tk_same sG)
    generalize upd H8 G2 (HO.tup (bs.map V.ref)) = HB at eG2 eRB eLB pB BB raB ⊢
    refine fun x dx nx ndx ne => ?_
    have x1 : Same HB (upd (upd HB dx (.own x)) x (.ins C dx [])) := (same_new ndx).trans (same_new (by rw [upd_ne ne.symm]; exact nx))
    have raX := raB.tk (tk_same x1)
    refine ⟨x, dx, G2, th, pl, rows, zs, rfl, upd_same, ⟨bs, x1 _ _ eG2, raX.1, raX.2.1, raX.2.2⟩, nd, by omega, fun HC D T kC aH nDT nD nT uD => ⟨rfl, ?_⟩⟩
    have sBC : Same HB HC := fun b o e => kC b o (ne_of_none e nx) (x1 b o e)
    have free6 : ∀ b, b ≠ x → b ≠ dx → (upd (upd HB dx (.own x)) x (.ins C dx [])) b = none → HB b = none := fun b h1 h2 e => by rwa [upd_ne h1, upd_ne h2] at e
    have nDx : D ≠ x := fun z => by rw [z, upd_same] at nD; cases nD
    have nTx : T ≠ x := fun z => by rw [z, upd_same] at nT; cases nT
    have nDd : D ≠ dx := fun z => by rw [z, upd_ne ne, upd_same] at nD; cases nD
    have nTd : T ≠ dx := fun z => by rw [z, upd_ne ne, upd_same] at nT; cases nT
    have frB : ∀ b, HB b = none → H0 b = none := fun b e => BB.free (pB.ne e) e
    have nxH := frB _ nx
    have nTH := frB _ (free6 _ nTx nTd nT)
    have nDH := frB _ (free6 _ nDx nDd nD)
    have pC := pB.keep sBC
    have eRC := sBC _ _ eRB
    have eLC := sBC _ _ eLB
    have raC := raB.tk (tk_same sBC)
    have BC := BB.trans (.of sBC)
    have S0 : Same H0 HC := fun b o e => BC b o (ne_of_none e npH) e
    have tC := Tabs.ext t0 S0
    have hs0 : Hs ⟨th, pl, none, rows⟩ := ⟨⟨fun r hr => by
      obtain ⟨o1, o2, o3, o4, o5⟩ := ro7 r hr
      have c1 : 48 < 10 ^ 60 := by decide
      exact ⟨Nat.lt_of_le_of_lt (show r.1.natAbs ≤ 48 by omega) c1, Nat.lt_of_le_of_lt (show r.2.2.natAbs ≤ 48 by omega) c1, by have := o1.2.1; omega, by have := o1.2.2; omega⟩, fun w e => by cases e⟩, lrows, by show th ≤ 12; omega, Nat.lt_of_le_of_lt (show pl.natAbs ≤ 48 by omega) (by decide), fun w e => by cases e⟩
    clear eG2 eRB eLB pB BB raB raX x1 kC sBC free6 nx ndx nD nT frB eR8 eL8 B8 ra8 tk8 b8 p8 p7 B7 eL7 eR7 ra7 sG S0
    refine ⟨2, rfl, by decide, by decide, for_it walk_range (fun j σ H' => (∃ u6 u7 u8 u9 u11 : Option V, σ = [some (.ref a), some (.int (0 + (i : Int))), some (.ref p), some (.int (th : Int)), some (.ref L), some (.ref R), u6, u7, u8, u9, some (.ref x), u11]) ∧ BN p H0 H' ∧ PotAt H' p (200 + 1000 * j) ∧ H' L = some (.lst (tops.map V.int)) ∧ H' R = some (.lst (bs.map V.ref)) ∧ RlA H' bs rows zs ∧ Tabs TT H' ∧ ∃ h, HandAt C H' x D T h ∧ h.thing = th ∧ h.rows = rows ∧ Hs h ∧ ∃ kvs, H' D = some (.dK kvs)) ⟨⟨_, _, _, _, _, rfl⟩, BN.but BC, pC.mono (by omega), eLC, eRC, raC, tC, _, aH, rfl, rfl, hs0, uD⟩ (fun _ _ _ _ _ => trivial) (fun j v σ HA' HA hj y z => ?_) (fun σ HA y => ?_)⟩
    · clear eLC eRC raC tC pC BC hs0 aH uD
      obtain ⟨⟨u6, u7, u8, u9, u11, rfl⟩, BA, pA, eLA, eRA, raA, tA, h, hA, eth, erw, hS', uA⟩ := y
      obtain ⟨rfl, rfl⟩ := z
      have j2 : j < 2 := hj
      dsimp only [gName, List.set]
      refine ⟨.ref p, rfl, .ref x, rfl, .ref R, rfl, R, rfl, ⟨_, .inl (.inl eRA)⟩, fun Dd nDd => lc_it (walk_list (xs := bs.map V.ref)) (fun k H' => Same HA H' ∧ ∃ ps : List Addr, H' Dd = some (.lst (ps.map V.ref)) ∧ Paired (fun q kv => H' q = some (.tup [kV kv.1, kv.2])) ps ((kvH zs).take k)) ⟨same_new nDd, [], upd_same, .nil⟩ (fun k H' _ z => .inl (.inl (z.1 _ _ eRA))) (fun k u HB' HB hk y z => ?_) (fun HB y => ?_)⟩
      · obtain ⟨sB, ps, eD, pp⟩ := y
        obtain ⟨rfl, gv⟩ := z
        obtain ⟨ad, ea, rfl⟩ := mapGet gv
        have lenR := raA.1
        have lenZ := raA.2.1
        have hia := (List.getElem?_eq_some_iff.mp ea).1
        obtain ⟨r, er⟩ : ∃ r, rows[k]? = some r := ⟨_, List.getElem?_eq_getElem (by omega)⟩
        obtain ⟨z, ez⟩ : ∃ z, zs[k]? = some z := ⟨_, List.getElem?_eq_getElem (by omega)⟩
        obtain ⟨f0, f1, f2⟩ := raA.2.2 k ad r z ea er ez
        refine ⟨ad, _, rfl, .inl (.inl (sB _ _ f1)), rfl, _, _, rfl, _, _, rfl, _, _, rfl, rfl, rfl, _, rfl, _, rfl, (show 2 ≤ sizeLine by decide), fun T3 nT3 => ?_⟩
        have s3 := same_new (o := HO.tup [V.int r.1, .ref z.2]) nT3
        have e3 : (upd HB T3 (HO.tup [V.int r.1, .ref z.2])) T3 = some (.tup [.int r.1, .ref z.2]) := upd_same
        have eD3 := s3 _ _ eD
        have pl : ps.length = k := by
          have := Paired.length pp
          rw [this, List.length_take]
          have : (kvH zs).length = zs.length := List.length_map _
          omega
        refine ⟨_, eD3, by rw [List.length_map]; exact small1000 (by omega), same_over (sB.trans s3) nDd, ps ++ [T3], by rw [upd_same, List.map_append]; rfl, ?_⟩
        have tkp : ∀ (q : Addr) (kv : Key × V), HB q = some (.tup [kV kv.1, kv.2]) → (upd (upd HB T3 (HO.tup [V.int r.1, .ref z.2])) Dd (HO.lst (ps.map V.ref ++ [.ref T3]))) q = some (.tup [kV kv.1, kv.2]) := fun q kv e => by
          rw [upd_ne (fun w => by rw [w, eD] at e; cases e)]
          exact s3 _ _ e
        have ek : (kvH zs)[k]? = some (Sum.inl z.1, V.ref z.2) := by
          unfold kvH
          rw [List.getElem?_map, ez]
          rfl
        rw [List.take_add_one, ek]
        refine Paired.snoc (paired_imp tkp pp) ?_
        show (upd (upd HB T3 (HO.tup [V.int r.1, .ref z.2])) Dd (HO.lst (ps.map V.ref ++ [.ref T3]))) T3 = some (.tup [.int z.1, .ref z.2])
        rw [upd_ne (fun w => by rw [w, eD] at nT3; cases nT3), f0]
        exact e3
      · obtain ⟨sB, ps, eD, pp⟩ := y
        have lenR := raA.1
        have lenZ := raA.2.1
        have tk0 : (kvH zs).take (bs.map V.ref).length = kvH zs := List.take_of_length_le (by rw [List.length_map]; show (List.map _ zs).length ≤ _; rw [List.length_map]; omega)
        rw [tk0] at pp
        have mk : mergeK [] (kvH zs) = kvH zs := merge_nd (kvH zs) [] (by
          have e1 : (kvH zs).map (·.1) = (rows.map (·.1)).map Sum.inl := by
            rw [← (RlA.held raA).keys]
            unfold kvH
            rw [List.map_map, List.map_map]
            rfl
          rw [List.nil_append, e1]
          exact List.pairwise_map.mpr (nd.imp fun h w => h (Sum.inl.inj w)))
        refine ⟨Dd, ps, kvH zs, rfl, .inl (.inl eD), paired_imp (fun _ _ e => .inl (.inl e)) pp, fun R2 nR2 => ?_⟩
        rw [mk]
        have s4 := same_new (o := HO.dK (kvH zs)) nR2
        have eR2 : (upd HB R2 (HO.dK (kvH zs))) R2 = some (HO.dK (kvH zs)) := upd_same
        obtain ⟨kvs, ekv⟩ := uA
        have nRD : R2 ≠ D := fun w => by rw [w, sB _ _ ekv] at nR2; cases nR2
        have nRT : R2 ≠ T := fun w => by
          obtain ⟨_, _, _, _, _, _, et, _⟩ := hA
          rw [w, sB _ _ et] at nR2
          cases nR2
        have sA := sB.trans s4
        generalize upd HB R2 (HO.dK (kvH zs)) = H4 at s4 eR2 sA ⊢
        have h4 := hA.same sA
        refine ⟨p, x, D, T, R2, h, zs, _, rfl, pA.keep sA, by omega, h4, hS', by omega, fun r hr => ?_, by rw [erw]; exact nd, eR2, nRD, nRT, by rw [erw]; exact (RlA.held raA).keep (.same sA), Tabs.ext tA sA, fun H5 b5 p5 t5 => ?_⟩
        · rw [erw] at hr
          have := ro7 r hr
          omega
        · refine ⟨true, rfl, iteFa rfl ?_⟩
          have b45 : BN p H0 H5 := (BA.trans (BN.but (But.of sA))).trans b5
          have h5 := h4.bn (pA.keep sA) b5
          have p4 := pA.keep sA
          have nt : ∀ {o : HO}, (∃ xs, o = .lst xs) → ∀ ps, o ≠ .tbl ps := fun h ps w => by obtain ⟨xs, rfl⟩ := h; cases w
          have eL5 := b5 _ _ nLp (sA _ _ eLA) (nt ⟨_, rfl⟩)
          have eR5 := b5 _ _ nRp (sA _ _ eRA) (nt ⟨_, rfl⟩)
          have ra5 := raA.tk ((tk_same sA).trans (b5.tk p4))
          have nDp : D ≠ p := fun w => by
            obtain ⟨_, _, _, e2, _⟩ := pA
            rw [w, e2] at ekv
            cases ekv
          have uD5 := b5 _ _ nDp (sA _ _ ekv) (fun _ w => by cases w)
          clear pp eD sB s4 sA h4 eR2 nRD nRT nR2 raA eRA eLA hA tA b5 BA pA p4 ekv
          obtain ⟨dx5, vw5, hs5, i5', _⟩ := id h5
          have i0' : H5 x = some (.ins C dx5 [("thing", .int (h.thing : Int)), ("place", .int h.place), ("wish", vw5), ("held", .ref D), ("tally", .ref T)]) := i5'
          refine ⟨.ref x, rfl, x, dx5, _, rfl, i0', lkm, .ref L, rfl, L, rfl, ⟨_, .inl (.inl eL5)⟩, fun D3 nD3 => lc_it (walk_list (xs := tops.map V.int)) (fun k H' => But p H5 H' ∧ PotAt H' p (200 + 1000 * j + 500 + k) ∧ D3 ≠ p ∧ ∃ ys : List Int, H' D3 = some (.lst (ys.map V.int)) ∧ ys.length = k ∧ ∀ y ∈ ys, 0 ≤ y ∧ y ≤ 9) ⟨.of (same_new nD3), pot_upd p5 (p5.ne nD3), p5.ne nD3, [], upd_same, rfl, fun y hy => absurd hy List.not_mem_nil⟩ (fun k H' _ z => .inl (.inl (z.1 _ _ nLp eL5))) (fun k u HB HB' hk y z => ?_) (fun HB y => ?_)⟩
          · obtain ⟨bB, pB, nDp, ys, eD, ly, yb⟩ := y
            obtain ⟨rfl, gv2⟩ := z
            obtain ⟨tp, etp, rfl⟩ := mapGet gv2
            have htp := tb _ (List.mem_of_getElem? etp)
            have hk4 : k < 5 := by
              rw [List.length_map] at hk
              omega
            refine ⟨wipe_one, .ref p, rfl, _, rfl, _, 1, rfl, rfl, p, _, _, rfl, pB, by omega, by omega, by omega, fun y HC bC pC y0 y1 => ?_⟩
            refine ⟨_, bC _ _ nDp eD, by rw [List.length_map]; exact small1000 (by omega), but_new (bB.trans bC) nD3, pot_upd (pC.mono (by omega)) nDp, nDp, ys ++ [y], by rw [upd_same, List.map_append]; rfl, by rw [List.length_append, ly]; rfl, fun x hx => ?_⟩
            rcases List.mem_append.mp hx with h | h
            · exact yb x h
            · rw [List.mem_singleton.mp h]
              exact ⟨y0, by omega⟩
          · obtain ⟨bB, pB, nD3p, ys, eD3, ly, yb⟩ := y
            rw [List.length_map] at ly pB
            refine ⟨D3, ys.map V.int, rfl, .inl ⟨.inl (.inl eD3), fun g ng => ⟨(show 2 ≤ sizeLine by decide), fun W2 nW2 => ⟨(show 2 ≤ sizeLine by decide), fun W1 nW1 => ?_⟩⟩⟩⟩
            have sg := same_new (o := HO.tup (ys.map V.int)) ng
            have sT := same_new (o := HO.tup [V.int 3, .ref g]) nW2
            have sW := same_new (o := HO.tup [V.str "word", .ref W2]) nW1
            have c1 := sW _ _ (sT _ _ (upd_same : (upd HB g (HO.tup (ys.map V.int))) g = _))
            have c2 := sW _ _ (upd_same : (upd (upd HB g (HO.tup (ys.map V.int))) W2 (HO.tup [V.int 3, .ref g])) W2 = some (.tup [V.int 3, .ref g]))
            have c3 : (upd (upd (upd HB g (HO.tup (ys.map V.int))) W2 (HO.tup [V.int 3, .ref g])) W1 (HO.tup [V.str "word", .ref W2])) W1 = some (.tup [V.str "word", .ref W2]) := upd_same
            have sgT := (sg.trans sT).trans sW
            have bD := bB.trans (.of sgT)
            have pD := pB.keep sgT
            generalize upd (upd (upd HB g (HO.tup (ys.map V.int))) W2 (HO.tup [V.int 3, .ref g])) W1 (HO.tup [V.str "word", .ref W2]) = H6 at c1 c2 c3 bD pD ⊢
            have h6 := h5.bn p5 (BN.but bD)
            have eL6 := bD _ _ nLp eL5
            have eR6 := bD _ _ nRp eR5
            have ra6 := ra5.tk (tk_but p5 bD)
            have uD6 := bD _ _ nDp uD5
            have t6 := Tabs.butP t5 p5 bD
            have b6 := b45.trans (BN.but bD)
            clear sg sT sW sgT bB pB nD3p eD3 ng nW2 nW1 eL5 eR5 ra5 h5 p5 i0' i5' uD5 t5 b45 bD
            have nys : ys ≠ [] := fun w => by rw [w] at ly; simp at ly; omega
            have wp : WiP (3, ys) := ⟨by show (1 : Int) ≤ 3; decide, by show (3 : Int) < 10 ^ 30; decide, nys, by show ys.length ≤ 12; omega, fun y hy => ⟨(yb y hy).1, Int.lt_of_le_of_lt (yb y hy).2 (by decide)⟩⟩
            have la : LetAt H6 W1 (("word", [], some (3, ys)) : Lt) := ⟨.ref W2, c3, W2, g, rfl, c2, c1⟩
            refine ⟨x, D, T, W1, h, ("word", [], some (3, ys)), rfl, h6, nDT, la, ⟨.inr ⟨rfl, rfl, fun w => by cases w⟩, fun y hy => absurd hy List.not_mem_nil, fun w e => by cases e; exact wp⟩, fun w e => by cases e; show h.thing < ys.length; omega, by rw [erw]; omega, fun H7 ga bH hA7 _ => ?_⟩
            have eh : (h.hear ("word", [], some (3, ys))).1 = h.hw (some (3, ys)) := rfl
            rw [eh] at hA7
            have far := far_bh h6 bH
            have px : p ≠ x := fun w => by
              obtain ⟨_, _, _, e2, _⟩ := pD
              obtain ⟨dx6, vw6, _, i6, _⟩ := h6
              have i6' : H6 x = some (.ins C dx6 [("thing", .int (h.thing : Int)), ("place", .int h.place), ("wish", vw6), ("held", .ref D), ("tally", .ref T)]) := i6
              rw [← w, e2] at i6'
              cases i6'
            have tk : TupK H6 H7 := fun b xs e => far _ _ e (fun _ _ _ w => by cases w) (fun _ w => by cases w)
            have p7 : PotAt H7 p (200 + 1000 * (j + 1)) := by
              obtain ⟨q1, q2, q3, e2, h1, h2, h3⟩ := pD
              exact ⟨q1, q2, q3, far _ _ e2 (fun _ _ _ w => by cases w) (fun _ w => by cases w), h1, h2, by omega⟩
            have nDx : D ≠ x := fun w => by
              obtain ⟨dx6, vw6, _, i6, _⟩ := h6
              have i6' : H6 x = some (.ins C dx6 [("thing", .int (h.thing : Int)), ("place", .int h.place), ("wish", vw6), ("held", .ref D), ("tally", .ref T)]) := i6
              rw [← w, uD6] at i6'
              cases i6'
            refine ⟨⟨_, _, _, _, _, rfl⟩, fun b o nb e nt => ?_, p7, far _ _ eL6 (fun _ _ _ w => by cases w) (fun _ w => by cases w), far _ _ eR6 (fun _ _ _ w => by cases w) (fun _ w => by cases w), ra6.tk tk, tabs_far t6 far, h.hw (some (3, ys)), hA7, ?_, by rw [hw_rows]; exact erw, hs_hw hS' wp (by show h.thing < ys.length; omega), _, bH _ _ nDx nDT uD6⟩
            · exact bH _ _ (fun w => by rw [w, nxH] at e; cases e) (fun w => by rw [w, nTH] at e; cases e) (b6 _ _ nb e nt)
            · unfold Hd.hw
              split
              · exact eth
              · exact eth
    · obtain ⟨⟨u6, u7, u8, u9, u11, rfl⟩, BA, pA, eLA, eRA, raA, tA, h, hA, eth, erw, hS', uA⟩ := y
      refine ⟨.ref R, rfl, 1, rfl, R, bs.map V.ref, rfl, .inl (.inl eRA), fun S nS => ?_⟩
      rw [cut1]
      have sS := same_new (o := HO.lst ((bs.take 1).map V.ref)) nS
      have eS : (upd HA S (HO.lst ((bs.take 1).map V.ref))) S = some (HO.lst ((bs.take 1).map V.ref)) := upd_same
      have pB := pA.keep sS
      have raB := raA.tk (tk_same sS)
      have hB := hA.same sS
      have bB := BA.trans (BN.but (But.of sS))
      have tB' := Tabs.ext tA sS
      obtain ⟨kvs, ekv⟩ := uA
      have uB := sS _ _ ekv
      generalize upd HA S (HO.lst ((bs.take 1).map V.ref)) = HB at eS pB raB hB bB tB' uB ⊢
      clear sS nS pA raA hA BA tA ekv eLA eRA eLC eRC raC tC pC BC aH uD hs0
      have nDS : D ≠ S := fun w => by rw [w, eS] at uB; cases uB
      have nTS : T ≠ S := fun w => by
        obtain ⟨_, _, _, _, _, _, et, _⟩ := hB
        rw [w, eS] at et
        cases et
      refine ⟨S, rfl, ⟨_, .inl (.inl eS)⟩, for_it (walk_list (xs := (bs.take 1).map V.ref)) (fun m σ H' => (∃ u6 u7 u8 u9 u11 : Option V, σ = [some (.ref a), some (.int (0 + (i : Int))), some (.ref p), some (.int (th : Int)), some (.ref L), some (.ref R), u6, u7, u8, u9, some (.ref x), u11]) ∧ BN p H0 H' ∧ Tabs TT H' ∧ H' S = some (.lst ((bs.take 1).map V.ref)) ∧ (m = 0 → H' = HB)) ⟨⟨_, _, _, _, _, rfl⟩, bB, tB', eS, fun _ => rfl⟩ (fun m σ H' _ y => .inl (.inl y.2.2.2.1)) (fun m v σ HX' HX hm y z => ?_) (fun σ HX y => ?_)⟩
      · obtain ⟨⟨u6, u7, u8, u9, u11, rfl⟩, bX, tX, eSX, m0⟩ := y
        obtain ⟨rfl, gv⟩ := z
        have mz : m = 0 := by
          rw [List.length_map, List.length_take] at hm
          omega
        subst mz
        cases m0 rfl
        obtain ⟨ad, ea, rfl⟩ := mapGet gv
        have ea' : bs[0]? = some ad := by
          rw [List.getElem?_take] at ea
          simpa using ea
        have lenR := raB.1
        have lenZ := raB.2.1
        have hia := (List.getElem?_eq_some_iff.mp ea').1
        obtain ⟨r, er⟩ : ∃ r, rows[0]? = some r := ⟨_, List.getElem?_eq_getElem (by omega)⟩
        obtain ⟨z, ez⟩ : ∃ z, zs[0]? = some z := ⟨_, List.getElem?_eq_getElem (by omega)⟩
        obtain ⟨f0, f1, f2⟩ := raB.2.2 0 ad r z ea' er ez
        have hro := ro7 r (List.mem_of_getElem? er)
        have mem : r.1 ∈ h.rows.map (·.1) := by
          rw [erw]
          exact List.mem_map.mpr ⟨r, List.mem_of_getElem? er, rfl⟩
        obtain ⟨dx5, vw5, hs5, i5', _⟩ := id hB
        have i0' : HB x = some (.ins C dx5 [("thing", .int (h.thing : Int)), ("place", .int h.place), ("wish", vw5), ("held", .ref D), ("tally", .ref T)]) := i5'
        refine ⟨ad, _, rfl, .inl (.inl f1), rfl, _, _, rfl, _, _, rfl, _, _, rfl, rfl, ?_⟩
        dsimp only [List.set]
        refine ⟨.ref x, rfl, x, dx5, _, rfl, i0', lkm, .int r.1, rfl, x, D, T, h, r.1, rfl, hB, nDT, ⟨_, uB⟩, mem, fun H1 k1 hA1 uD1 => ⟨rfl, _, rfl, iteFa (by simp) ?_⟩⟩
        have eT : ∃ kvs, HB T = some (.dK kvs) := by
          obtain ⟨_, _, _, _, _, _, et, _⟩ := hB
          exact ⟨_, et⟩
        obtain ⟨kvT', eT⟩ := eT
        have far : ∀ (c : Addr) (o : HO), HB c = some o → (∀ k dx fs, o ≠ .ins k dx fs) → (∀ kvs, o ≠ .dK kvs) → H1 c = some o := fun c o e _ n2 => k1 c o (fun w => by rw [w, uB] at e; cases e; exact n2 _ rfl) (fun w => by rw [w, eT] at e; cases e; exact n2 _ rfl) e
        have p1 : PotAt H1 p (200 + 1000 * (2 : Int).toNat) := by
          obtain ⟨q1, q2, q3, e2, h1, h2, h3⟩ := pB
          exact ⟨q1, q2, q3, far _ _ e2 (fun _ _ _ w => by cases w) (fun _ w => by cases w), h1, h2, h3⟩
        have t1 := tabs_far tB' far
        have b1 : BN p H0 H1 := fun b o nb e nt => k1 _ _ (fun w => by rw [w, nDH] at e; cases e) (fun w => by rw [w, nTH] at e; cases e) (bB _ _ nb e nt)
        have eS1 := far _ _ eS (fun _ _ _ w => by cases w) (fun _ w => by cases w)
        have lk0 : look (dropR h.rows r.1) r.1 = none := by
          unfold look dropR
          rw [Option.map_eq_none_iff, List.find?_eq_none]
          intro y hy
          have := of_decide_eq_true (List.mem_filter.mp hy).2
          simpa using this
        have smr : Sm (.int r.1) 1300 21 := (Sm.int (Nat.lt_of_le_of_lt (show r.1.natAbs ≤ 48 by omega) (by decide))).mono (by decide) (by decide)
        refine ref_no (n := p) (v := .int r.1) (d := .int r.1) t1 rfl smr (by decide) (by decide) (fun G xg tG => ⟨.int _, fun E' he => ?_⟩) (fun H2 x2 t2 => iteFa rfl ?_)
        · have aG := hA1.bn p1 (BN.ext xg)
          exact ask1 aG rfl (fun _ _ _ _ _ => lkm) rfl ⟨x, D, T, _, p, .int r.1, .int r.1, rfl, aG, .int _, by show (look (dropR h.rows r.1) r.1).isSome = false; rw [lk0]; rfl, he⟩
        · refine ref_no (n := p) (v := .int r.1) (d := .int r.1) t2 rfl smr (by decide) (by decide) (fun G xg tG => ⟨.int _, fun E' he => ?_⟩) (fun H3 x3 t3 => iteFa rfl ?_)
          · have aG := hA1.bn p1 (BN.ext (x2.trans xg))
            refine ask1 aG rfl (fun _ _ _ _ _ => lkm) rfl ⟨x, D, T, _, p, .int r.1, .int r.1, rfl, aG, .int _, ?_, he⟩
            show Hd.shares _ r.1 = false
            unfold Hd.shares
            dsimp only
            rw [lk0]
          · exact ⟨⟨_, _, _, _, _, rfl⟩, b1.trans (BN.ext (x2.trans x3)), t3, (x2.trans x3) _ _ eS1 (fun _ w => by cases w), fun w => by cases w⟩
      · obtain ⟨⟨u6, u7, u8, u9, u11, rfl⟩, bX, tX, eSX, m0⟩ := y
        exact ⟨⟨_, _, _, _, _, _, _, _, _, _, _, rfl⟩, x0.trans (ext_of_bn bX npH), tX⟩
end
end K61

set_option Elab.async false
set_option linter.all false
set_option maxRecDepth 100000
namespace K61
open PySem PySem.Spec PyProof.Rows L2 NB
theorem kit_sub_ref {K : PySem.W.Frag} {t : Value} {C : Addr} (h1 : PySem.W.hasDictIn K C = true) (h2 : PySem.W.typeIn K (.ref C) = some (.type "type")) (h3 : PySem.W.subIn K t (.ref C) = some true) : PySem.W.kitOne K t (.ref C) = some true := by
  unfold PySem.W.kitOne
  split
  · rfl
  · obtain ⟨cd, hc, _⟩ := PySem.W.any_some h1
    show (if ((PySem.W.clsIn K C).isSome && PySem.W.typeIn K (.ref C) == some (.type "type")) = true then PySem.W.subIn K t (.ref C) else none) = _
    rw [hc, h2, if_pos (by first | (rw [Option.isSome_some, Bool.true_and]; exact beq_self_eq_true _) | simp), h3]
theorem exm_sub {K : PySem.W.Frag} {S B : Addr} (h1 : PySem.W.subIn K (.ref B) (.type "BaseException") = some true) (h2 : PySem.W.isClsIn K B = true) (h3 : PySem.W.typeIn K (.ref B) = some (.type "type")) (h4 : PySem.W.subIn K (.ref S) (.ref B) = some true) : PySem.W.exmOne K (.ref S) (.ref B) = some true := by
  have e1 : (PySem.W.subIn K (.ref B) (.type "BaseException") == some true) = true := by rw [h1] <;> rfl
  have e2 : ((PySem.W.clsIn K B).isSome && PySem.W.typeIn K (.ref B) == some (.type "type")) = true := by
    have h2' : (PySem.W.clsIn K B).isSome = true := h2
    rw [h2', h3] <;> rfl
  show (if (PySem.W.subIn K (.ref B) (.type "BaseException") == some true) = true then (if ((PySem.W.clsIn K B).isSome && PySem.W.typeIn K (.ref B) == some (.type "type")) = true then PySem.W.subIn K (.ref S) (.ref B) else none) else none) = some true
  rw [if_pos e1, if_pos e2]
  exact h4
theorem kit_not {K : PySem.W.Frag} {S C : Addr} (h0 : (S == C) = false) (h1 : PySem.W.hasDictIn K C = true) (h2 : PySem.W.typeIn K (.ref C) = some (.type "type")) (h3 : PySem.W.subIn K (.ref S) (.ref C) = some false) : PySem.W.kitOne K (.ref S) (.ref C) = some false := by
  have n : ¬ ((Value.ref S == Value.ref C) = true) := fun z => by
    have e : Value.ref S = Value.ref C := by first | exact beq_iff_eq.mp z | exact eq_of_beq z
    injection e with e
    subst e
    rw [beq_self_eq_true] at h0
    cases h0
  unfold PySem.W.kitOne
  rw [if_neg n]
  obtain ⟨cd, hc, _⟩ := PySem.W.any_some h1
  show (if ((PySem.W.clsIn K C).isSome && PySem.W.typeIn K (.ref C) == some (.type "type")) = true then PySem.W.subIn K (.ref S) (.ref C) else none) = _
  rw [hc, h2, if_pos (by first | (rw [Option.isSome_some, Bool.true_and]; exact beq_self_eq_true _) | simp), h3]
theorem kit_sub_ty {K : PySem.W.Frag} {t : Value} {T : String} (h1 : PySem.W.kitMeta T = true) (h3 : PySem.W.subIn K t (.type T) = some true) : PySem.W.kitOne K t (.type T) = some true := by
  unfold PySem.W.kitOne
  split
  · rfl
  · show (if PySem.W.kitMeta T = true then PySem.W.subIn K t (.type T) else none) = _
    rw [if_pos h1, h3]
set_option maxHeartbeats 8000000 in
theorem all_mk {l : PySem.W.OpenLaw} {w : World} {K : PySem.W.Frag} {h : Heap} {mg : Str → Option Value} {fa : Addr} (X : K.In h) (G : h.Ns mainGlobals mg) (hfa : mg "law" = some (.ref fa))
    {f1 : Addr} {od1 an1 : Option Addr} {sl1 : Array (Option Value)} {oc1 kV1 dc1 pm1 cd1 ct1 : Value}
    {f2 : Addr} {od2 an2 : Option Addr} {sl2 : Array (Option Value)} {oc2 kV2 dc2 pm2 cd2 ct2 : Value}
    {f3 : Addr} {od3 an3 : Option Addr} {sl3 : Array (Option Value)} {oc3 kV3 dc3 pm3 cd3 ct3 : Value}
    {f4 : Addr} {od4 an4 : Option Addr} {sl4 : Array (Option Value)} {oc4 kV4 dc4 pm4 cd4 ct4 : Value}
    {f5 : Addr} {od5 an5 : Option Addr} {sl5 : Array (Option Value)} {oc5 kV5 dc5 pm5 cd5 ct5 : Value}
    {f6 : Addr} {od6 an6 : Option Addr} {sl6 : Array (Option Value)} {oc6 kV6 dc6 pm6 cd6 ct6 : Value}
    {f7 : Addr} {od7 an7 : Option Addr} {sl7 : Array (Option Value)} {oc7 kV7 dc7 pm7 cd7 ct7 : Value}
    {f8 : Addr} {od8 an8 : Option Addr} {sl8 : Array (Option Value)} {oc8 kV8 dc8 pm8 cd8 ct8 : Value}
    {f9 : Addr} {od9 an9 : Option Addr} {sl9 : Array (Option Value)} {oc9 kV9 dc9 pm9 cd9 ct9 : Value}
    {f10 : Addr} {od10 an10 : Option Addr} {sl10 : Array (Option Value)} {oc10 kV10 dc10 pm10 cd10 ct10 : Value}
    {f11 : Addr} {od11 an11 : Option Addr} {sl11 : Array (Option Value)} {oc11 kV11 dc11 pm11 cd11 ct11 : Value}
    {f12 : Addr} {od12 an12 : Option Addr} {sl12 : Array (Option Value)} {oc12 kV12 dc12 pm12 cd12 ct12 : Value}
    {f13 : Addr} {od13 an13 : Option Addr} {sl13 : Array (Option Value)} {oc13 kV13 dc13 pm13 cd13 ct13 : Value}
    {f14 : Addr} {od14 an14 : Option Addr} {sl14 : Array (Option Value)} {oc14 kV14 dc14 pm14 cd14 ct14 : Value}
    {f15 : Addr} {od15 an15 : Option Addr} {sl15 : Array (Option Value)} {oc15 kV15 dc15 pm15 cd15 ct15 : Value}
    {f16 : Addr} {od16 an16 : Option Addr} {sl16 : Array (Option Value)} {oc16 kV16 dc16 pm16 cd16 ct16 : Value}
    {f17 : Addr} {od17 an17 : Option Addr} {sl17 : Array (Option Value)} {oc17 kV17 dc17 pm17 cd17 ct17 : Value}
    {f18 : Addr} {od18 an18 : Option Addr} {sl18 : Array (Option Value)} {oc18 kV18 dc18 pm18 cd18 ct18 : Value}
    {f19 : Addr} {od19 an19 : Option Addr} {sl19 : Array (Option Value)} {oc19 kV19 dc19 pm19 cd19 ct19 : Value}
    {f20 : Addr} {od20 an20 : Option Addr} {sl20 : Array (Option Value)} {oc20 kV20 dc20 pm20 cd20 ct20 : Value}
    {f21 : Addr} {od21 an21 : Option Addr} {sl21 : Array (Option Value)} {oc21 kV21 dc21 pm21 cd21 ct21 : Value}
    {f22 : Addr} {od22 an22 : Option Addr} {sl22 : Array (Option Value)} {oc22 kV22 dc22 pm22 cd22 ct22 : Value}
    (a1 : PySem.W.nsIn K mainGlobals "is_whole" = some (some (.ref f1)))
    (l1 : K.lookup f1 = some ⟨oc1, od1, .func (PySem.W.fnOf "is_whole" "is_whole" (defArgs a_is_whole) (defBody a_is_whole) (defScope a_is_whole) .none kV1 dc1 pm1 an1 cd1 ct1), sl1⟩)
    (c1 : PySem.W.codeIn K cd1 "is_whole" = true) (k1 : PySem.W.keepIn K (.ref f1) = true)
    (a2 : PySem.W.nsIn K mainGlobals "is_count" = some (some (.ref f2)))
    (l2 : K.lookup f2 = some ⟨oc2, od2, .func (PySem.W.fnOf "is_count" "is_count" (defArgs a_is_count) (defBody a_is_count) (defScope a_is_count) .none kV2 dc2 pm2 an2 cd2 ct2), sl2⟩)
    (c2 : PySem.W.codeIn K cd2 "is_count" = true) (k2 : PySem.W.keepIn K (.ref f2) = true)
    (a3 : PySem.W.nsIn K mainGlobals "is_wish" = some (some (.ref f3)))
    (l3 : K.lookup f3 = some ⟨oc3, od3, .func (PySem.W.fnOf "is_wish" "is_wish" (defArgs a_is_wish) (defBody a_is_wish) (defScope a_is_wish) .none kV3 dc3 pm3 an3 cd3 ct3), sl3⟩)
    (c3 : PySem.W.codeIn K cd3 "is_wish" = true) (k3 : PySem.W.keepIn K (.ref f3) = true)
    (a4 : PySem.W.nsIn K mainGlobals "is_letter" = some (some (.ref f4)))
    (l4 : K.lookup f4 = some ⟨oc4, od4, .func (PySem.W.fnOf "is_letter" "is_letter" (defArgs a_is_letter) (defBody a_is_letter) (defScope a_is_letter) .none kV4 dc4 pm4 an4 cd4 ct4), sl4⟩)
    (c4 : PySem.W.codeIn K cd4 "is_letter" = true) (k4 : PySem.W.keepIn K (.ref f4) = true)
    (a5 : PySem.W.nsIn K mainGlobals "wish_number" = some (some (.ref f5)))
    (l5 : K.lookup f5 = some ⟨oc5, od5, .func (PySem.W.fnOf "wish_number" "wish_number" (defArgs a_wish_number) (defBody a_wish_number) (defScope a_wish_number) .none kV5 dc5 pm5 an5 cd5 ct5), sl5⟩)
    (c5 : PySem.W.codeIn K cd5 "wish_number" = true) (k5 : PySem.W.keepIn K (.ref f5) = true)
    (a6 : PySem.W.nsIn K mainGlobals "is_shared" = some (some (.ref f6)))
    (l6 : K.lookup f6 = some ⟨oc6, od6, .func (PySem.W.fnOf "is_shared" "is_shared" (defArgs a_is_shared) (defBody a_is_shared) (defScope a_is_shared) .none kV6 dc6 pm6 an6 cd6 ct6), sl6⟩)
    (c6 : PySem.W.codeIn K cd6 "is_shared" = true) (k6 : PySem.W.keepIn K (.ref f6) = true)
    (a7 : PySem.W.nsIn K mainGlobals "own_side" = some (some (.ref f7)))
    (l7 : K.lookup f7 = some ⟨oc7, od7, .func (PySem.W.fnOf "own_side" "own_side" (defArgs a_own_side) (defBody a_own_side) (defScope a_own_side) .none kV7 dc7 pm7 an7 cd7 ct7), sl7⟩)
    (c7 : PySem.W.codeIn K cd7 "own_side" = true) (k7 : PySem.W.keepIn K (.ref f7) = true)
    (a8 : PySem.W.nsIn K mainGlobals "other_thing" = some (some (.ref f8)))
    (l8 : K.lookup f8 = some ⟨oc8, od8, .func (PySem.W.fnOf "other_thing" "other_thing" (defArgs a_other_thing) (defBody a_other_thing) (defScope a_other_thing) .none kV8 dc8 pm8 an8 cd8 ct8), sl8⟩)
    (c8 : PySem.W.codeIn K cd8 "other_thing" = true) (k8 : PySem.W.keepIn K (.ref f8) = true)
    (a9 : PySem.W.nsIn K mainGlobals "out_span" = some (some (.ref f9)))
    (l9 : K.lookup f9 = some ⟨oc9, od9, .func (PySem.W.fnOf "out_span" "out_span" (defArgs a_out_span) (defBody a_out_span) (defScope a_out_span) .none kV9 dc9 pm9 an9 cd9 ct9), sl9⟩)
    (c9 : PySem.W.codeIn K cd9 "out_span" = true) (k9 : PySem.W.keepIn K (.ref f9) = true)
    (a10 : PySem.W.nsIn K mainGlobals "is_out_at" = some (some (.ref f10)))
    (l10 : K.lookup f10 = some ⟨oc10, od10, .func (PySem.W.fnOf "is_out_at" "is_out_at" (defArgs a_is_out_at) (defBody a_is_out_at) (defScope a_is_out_at) .none kV10 dc10 pm10 an10 cd10 ct10), sl10⟩)
    (c10 : PySem.W.codeIn K cd10 "is_out_at" = true) (k10 : PySem.W.keepIn K (.ref f10) = true)
    (a11 : PySem.W.nsIn K mainGlobals "_law_pot" = some (some (.ref f11)))
    (l11 : K.lookup f11 = some ⟨oc11, od11, .func (PySem.W.fnOf "_law_pot" "_law_pot" (defArgs sPot) (defBody sPot) (defScope sPot) .none kV11 dc11 pm11 an11 cd11 ct11), sl11⟩)
    (c11 : PySem.W.codeIn K cd11 "_law_pot" = true) (k11 : PySem.W.keepIn K (.ref f11) = true)
    (a12 : PySem.W.nsIn K mainGlobals "_law_take" = some (some (.ref f12)))
    (l12 : K.lookup f12 = some ⟨oc12, od12, .func (PySem.W.fnOf "_law_take" "_law_take" (defArgs sTake) (defBody sTake) (defScope sTake) .none kV12 dc12 pm12 an12 cd12 ct12), sl12⟩)
    (c12 : PySem.W.codeIn K cd12 "_law_take" = true) (k12 : PySem.W.keepIn K (.ref f12) = true)
    (a13 : PySem.W.nsIn K mainGlobals "_law_of" = some (some (.ref f13)))
    (l13 : K.lookup f13 = some ⟨oc13, od13, .func (PySem.W.fnOf "_law_of" "_law_of" (defArgs sOf) (defBody sOf) (defScope sOf) .none kV13 dc13 pm13 an13 cd13 ct13), sl13⟩)
    (c13 : PySem.W.codeIn K cd13 "_law_of" = true) (k13 : PySem.W.keepIn K (.ref f13) = true)
    (a14 : PySem.W.nsIn K mainGlobals "_law_hand_rules" = some (some (.ref f14)))
    (l14 : K.lookup f14 = some ⟨oc14, od14, .func (PySem.W.fnOf "_law_hand_rules" "_law_hand_rules" (defArgs a__law_hand_rules) (defBody a__law_hand_rules) (defScope a__law_hand_rules) .none kV14 dc14 pm14 an14 cd14 ct14), sl14⟩)
    (c14 : PySem.W.codeIn K cd14 "_law_hand_rules" = true) (k14 : PySem.W.keepIn K (.ref f14) = true)
    (a15 : PySem.W.nsIn K mainGlobals "_law_refusal" = some (some (.ref f15)))
    (l15 : K.lookup f15 = some ⟨oc15, od15, .func (PySem.W.fnOf "_law_refusal" "_law_refusal" (defArgs a__law_refusal) (defBody a__law_refusal) (defScope a__law_refusal) .none kV15 dc15 pm15 an15 cd15 ct15), sl15⟩)
    (c15 : PySem.W.codeIn K cd15 "_law_refusal" = true) (k15 : PySem.W.keepIn K (.ref f15) = true)
    (a16 : PySem.W.nsIn K mainGlobals "_law_no_rule" = some (some (.ref f16)))
    (l16 : K.lookup f16 = some ⟨oc16, od16, .func (PySem.W.fnOf "_law_no_rule" "_law_no_rule" (defArgs a__law_no_rule) (defBody a__law_no_rule) (defScope a__law_no_rule) .none kV16 dc16 pm16 an16 cd16 ct16), sl16⟩)
    (c16 : PySem.W.codeIn K cd16 "_law_no_rule" = true) (k16 : PySem.W.keepIn K (.ref f16) = true)
    (a17 : PySem.W.nsIn K mainGlobals "_law_no_letter" = some (some (.ref f17)))
    (l17 : K.lookup f17 = some ⟨oc17, od17, .func (PySem.W.fnOf "_law_no_letter" "_law_no_letter" (defArgs a__law_no_letter) (defBody a__law_no_letter) (defScope a__law_no_letter) .none kV17 dc17 pm17 an17 cd17 ct17), sl17⟩)
    (c17 : PySem.W.codeIn K cd17 "_law_no_letter" = true) (k17 : PySem.W.keepIn K (.ref f17) = true)
    (a18 : PySem.W.nsIn K mainGlobals "_law_state" = some (some (.ref f18)))
    (l18 : K.lookup f18 = some ⟨oc18, od18, .func (PySem.W.fnOf "_law_state" "_law_state" (defArgs a__law_state) (defBody a__law_state) (defScope a__law_state) .none kV18 dc18 pm18 an18 cd18 ct18), sl18⟩)
    (c18 : PySem.W.codeIn K cd18 "_law_state" = true) (k18 : PySem.W.keepIn K (.ref f18) = true)
    (a19 : PySem.W.nsIn K mainGlobals "_law_odd" = some (some (.ref f19)))
    (l19 : K.lookup f19 = some ⟨oc19, od19, .func (PySem.W.fnOf "_law_odd" "_law_odd" (defArgs a__law_odd) (defBody a__law_odd) (defScope a__law_odd) .none kV19 dc19 pm19 an19 cd19 ct19), sl19⟩)
    (c19 : PySem.W.codeIn K cd19 "_law_odd" = true) (k19 : PySem.W.keepIn K (.ref f19) = true)
    (a20 : PySem.W.nsIn K mainGlobals "_law_no_letters" = some (some (.ref f20)))
    (l20 : K.lookup f20 = some ⟨oc20, od20, .func (PySem.W.fnOf "_law_no_letters" "_law_no_letters" (defArgs a__law_no_letters) (defBody a__law_no_letters) (defScope a__law_no_letters) .none kV20 dc20 pm20 an20 cd20 ct20), sl20⟩)
    (c20 : PySem.W.codeIn K cd20 "_law_no_letters" = true) (k20 : PySem.W.keepIn K (.ref f20) = true)
    (a21 : PySem.W.nsIn K mainGlobals "_law_right" = some (some (.ref f21)))
    (l21 : K.lookup f21 = some ⟨oc21, od21, .func (PySem.W.fnOf "_law_right" "_law_right" (defArgs a__law_right) (defBody a__law_right) (defScope a__law_right) .none kV21 dc21 pm21 an21 cd21 ct21), sl21⟩)
    (c21 : PySem.W.codeIn K cd21 "_law_right" = true) (k21 : PySem.W.keepIn K (.ref f21) = true)
    (a22 : PySem.W.nsIn K mainGlobals "law" = some (some (.ref f22)))
    (l22 : K.lookup f22 = some ⟨oc22, od22, .func (PySem.W.fnOf "law" "law" (defArgs a_law) (defBody a_law) (defScope a_law) .none kV22 dc22 pm22 an22 cd22 ct22), sl22⟩)
    (c22 : PySem.W.codeIn K cd22 "law" = true) (k22 : PySem.W.keepIn K (.ref f22) = true)
    {tk1 : Tok} (v1 : PySem.W.nsIn K mainGlobals "MOST_THINGS" = some (some (.int 12 tk1)))
    {C_NoRule f_NoRule N_NoRule : Addr} {nm_NoRule q_NoRule : Str} {bs_NoRule bm_NoRule sub_NoRule : List Value} {sn_NoRule : List Str} {ab_NoRule : Bool} {col_NoRule : Option Bool} {dd_NoRule od_NoRule an_NoRule : Option Addr} {m0_NoRule m1_NoRule m2_NoRule m3_NoRule m5_NoRule : Option Value} {sl_NoRule : Array (Option Value)} {oc_NoRule kV_NoRule dc_NoRule pm_NoRule cd_NoRule ct_NoRule : Value}
    (a_NoRule : PySem.W.nsIn K mainGlobals "NoRule" = some (some (.ref C_NoRule)))
    (x_NoRule : K.lookup C_NoRule = some (excClassObj nm_NoRule q_NoRule C_NoRule N_NoRule bs_NoRule bm_NoRule true sn_NoRule sub_NoRule ab_NoRule col_NoRule dd_NoRule m0_NoRule m1_NoRule m2_NoRule m3_NoRule m5_NoRule "ValueError.__new__"))
    (r_NoRule : PySem.HandSPX.refsVE bm_NoRule = true)
    (sa_NoRule : PySem.W.findIn K (.ref C_NoRule) "__setattr__" = some (some (.builtin "object.__setattr__"))) (ga_NoRule : PySem.W.findIn K (.ref C_NoRule) "__getattribute__" = some (some (.builtin "BaseException.__getattribute__"))) (gg_NoRule : PySem.W.findIn K (.ref C_NoRule) "__getattr__" = some none) (nb_NoRule : PySem.W.findIn K (.ref C_NoRule) "thing" = some none)
    (i_NoRule : PySem.W.findIn K (.ref C_NoRule) "__init__" = some (some (.ref f_NoRule))) (t_NoRule : PySem.W.typeIn K (.ref f_NoRule) = some (.type "function"))
    (l_NoRule : K.lookup f_NoRule = some ⟨oc_NoRule, od_NoRule, .func (PySem.W.fnOf "__init__" "NoRule.__init__" (defArgs kI_NoRule) (defBody kI_NoRule) (defScope kI_NoRule) .none kV_NoRule dc_NoRule pm_NoRule an_NoRule cd_NoRule ct_NoRule), sl_NoRule⟩) (c_NoRule : PySem.W.codeIn K cd_NoRule "NoRule.__init__" = true) (kf_NoRule : PySem.W.keepIn K (.ref f_NoRule) = true)
    (kC_NoRule : PySem.W.keepIn K (.ref C_NoRule) = true) (e_NoRule : PySem.W.subIn K (.ref C_NoRule) (.type "BaseException") = some true) (ty_NoRule : PySem.W.typeIn K (.ref C_NoRule) = some (.type "type")) (hd_NoRule : PySem.W.hasDictIn K C_NoRule = true) (is_NoRule : PySem.W.isClsIn K C_NoRule = true) (ss_NoRule : PySem.W.subIn K (.ref C_NoRule) (.ref C_NoRule) = some true)
    {C_NoLetter f_NoLetter N_NoLetter : Addr} {nm_NoLetter q_NoLetter : Str} {bs_NoLetter bm_NoLetter sub_NoLetter : List Value} {sn_NoLetter : List Str} {ab_NoLetter : Bool} {col_NoLetter : Option Bool} {dd_NoLetter od_NoLetter an_NoLetter : Option Addr} {m0_NoLetter m1_NoLetter m2_NoLetter m3_NoLetter m5_NoLetter : Option Value} {sl_NoLetter : Array (Option Value)} {oc_NoLetter kV_NoLetter dc_NoLetter pm_NoLetter cd_NoLetter ct_NoLetter : Value}
    (a_NoLetter : PySem.W.nsIn K mainGlobals "NoLetter" = some (some (.ref C_NoLetter)))
    (x_NoLetter : K.lookup C_NoLetter = some (excClassObj nm_NoLetter q_NoLetter C_NoLetter N_NoLetter bs_NoLetter bm_NoLetter true sn_NoLetter sub_NoLetter ab_NoLetter col_NoLetter dd_NoLetter m0_NoLetter m1_NoLetter m2_NoLetter m3_NoLetter m5_NoLetter "ValueError.__new__"))
    (r_NoLetter : PySem.HandSPX.refsVE bm_NoLetter = true)
    (sa_NoLetter : PySem.W.findIn K (.ref C_NoLetter) "__setattr__" = some (some (.builtin "object.__setattr__"))) (ga_NoLetter : PySem.W.findIn K (.ref C_NoLetter) "__getattribute__" = some (some (.builtin "BaseException.__getattribute__"))) (gg_NoLetter : PySem.W.findIn K (.ref C_NoLetter) "__getattr__" = some none) (nb_NoLetter : PySem.W.findIn K (.ref C_NoLetter) "thing" = some none)
    (i_NoLetter : PySem.W.findIn K (.ref C_NoLetter) "__init__" = some (some (.ref f_NoLetter))) (t_NoLetter : PySem.W.typeIn K (.ref f_NoLetter) = some (.type "function"))
    (l_NoLetter : K.lookup f_NoLetter = some ⟨oc_NoLetter, od_NoLetter, .func (PySem.W.fnOf "__init__" "NoLetter.__init__" (defArgs kI_NoLetter) (defBody kI_NoLetter) (defScope kI_NoLetter) .none kV_NoLetter dc_NoLetter pm_NoLetter an_NoLetter cd_NoLetter ct_NoLetter), sl_NoLetter⟩) (c_NoLetter : PySem.W.codeIn K cd_NoLetter "NoLetter.__init__" = true) (kf_NoLetter : PySem.W.keepIn K (.ref f_NoLetter) = true)
    (kC_NoLetter : PySem.W.keepIn K (.ref C_NoLetter) = true) (e_NoLetter : PySem.W.subIn K (.ref C_NoLetter) (.type "BaseException") = some true) (ty_NoLetter : PySem.W.typeIn K (.ref C_NoLetter) = some (.type "type")) (hd_NoLetter : PySem.W.hasDictIn K C_NoLetter = true) (is_NoLetter : PySem.W.isClsIn K C_NoLetter = true) (ss_NoLetter : PySem.W.subIn K (.ref C_NoLetter) (.ref C_NoLetter) = some true)
    {CB_BothError : Addr} (aB_BothError : PySem.W.nsIn K mainGlobals "BothError" = some (some (.ref CB_BothError))) (hB_BothError : PySem.W.hasDictIn K CB_BothError = true) (tB_BothError : PySem.W.typeIn K (.ref CB_BothError) = some (.type "type")) (iB_BothError : PySem.W.isClsIn K CB_BothError = true) (eB_BothError : PySem.W.subIn K (.ref CB_BothError) (.type "BaseException") = some true)
    (xc1_NoRule : PySem.W.findIn K (.ref C_NoRule) "__class__" = some (some (.builtin "object.__class__"))) (xc2_NoRule : PySem.W.specialIn K (.builtin "object.__class__") "__get__" = some (some (.builtin "getset_descriptor.__get__"))) (xc3_NoRule : PySem.W.takesIn K (.builtin "object.__class__") = some true) (xc4_NoRule : PySem.W.mroIn K C_NoRule (.type "object") = some true)
    (xv_NoRule : PySem.W.subIn K (.ref C_NoRule) (.type "ValueError") = some true)
    (xs_NoRule_BothError : PySem.W.subIn K (.ref C_NoRule) (.ref CB_BothError) = some true)
    (xc1_NoLetter : PySem.W.findIn K (.ref C_NoLetter) "__class__" = some (some (.builtin "object.__class__"))) (xc2_NoLetter : PySem.W.specialIn K (.builtin "object.__class__") "__get__" = some (some (.builtin "getset_descriptor.__get__"))) (xc3_NoLetter : PySem.W.takesIn K (.builtin "object.__class__") = some true) (xc4_NoLetter : PySem.W.mroIn K C_NoLetter (.type "object") = some true)
    (xv_NoLetter : PySem.W.subIn K (.ref C_NoLetter) (.type "ValueError") = some true)
    (xs_NoLetter_BothError : PySem.W.subIn K (.ref C_NoLetter) (.ref CB_BothError) = some true)
    {CS_NoThing : Addr} (aS_NoThing : PySem.W.nsIn K mainGlobals "NoThing" = some (some (.ref CS_NoThing))) (hS_NoThing : PySem.W.hasDictIn K CS_NoThing = true) (tS_NoThing : PySem.W.typeIn K (.ref CS_NoThing) = some (.type "type"))
    (xn_NoRule_NoThing : PySem.W.subIn K (.ref C_NoRule) (.ref CS_NoThing) = some false) (r_ne_NoRule_NoThing : (C_NoRule == CS_NoThing) = false)
    (xn_NoRule_NoLetter : PySem.W.subIn K (.ref C_NoRule) (.ref C_NoLetter) = some false) (r_ne_NoRule_NoLetter : (C_NoRule == C_NoLetter) = false)
    (xn_NoLetter_NoThing : PySem.W.subIn K (.ref C_NoLetter) (.ref CS_NoThing) = some false) (r_ne_NoLetter_NoThing : (C_NoLetter == CS_NoThing) = false)
    (xn_NoLetter_NoRule : PySem.W.subIn K (.ref C_NoLetter) (.ref C_NoRule) = some false) (r_ne_NoLetter_NoRule : (C_NoLetter == C_NoRule) = false)
    {C_Hand : Addr} (aC_Hand : PySem.W.nsIn K mainGlobals "Hand" = some (some (.ref C_Hand))) (pg_Hand : PySem.W.plainGet K C_Hand Str.empty = true) (hd_Hand : PySem.W.hasDictIn K C_Hand = true) (po_Hand : PySem.W.plainOver K C_Hand = true) (sa_Hand : PySem.W.findIn K (.ref C_Hand) "__setattr__" = some (some (.builtin "object.__setattr__"))) (mk_Hand : PySem.W.makesIn K C_Hand = true) (kc_Hand : PySem.W.keepIn K (.ref C_Hand) = true)
    (n_Hand_thing : PySem.W.findIn K (.ref C_Hand) "thing" = some none)
    (n_Hand_place : PySem.W.findIn K (.ref C_Hand) "place" = some none)
    (n_Hand_wish : PySem.W.findIn K (.ref C_Hand) "wish" = some none)
    (n_Hand_held : PySem.W.findIn K (.ref C_Hand) "held" = some none)
    (n_Hand_tally : PySem.W.findIn K (.ref C_Hand) "tally" = some none)
    {f_Hand___init__ : Addr} {od_Hand___init__ an_Hand___init__ : Option Addr} {sl_Hand___init__ : Array (Option Value)} {oc_Hand___init__ kV_Hand___init__ dc_Hand___init__ pm_Hand___init__ cd_Hand___init__ ct_Hand___init__ : Value}
    (a_Hand___init___ : PySem.W.findIn K (.ref C_Hand) "__init__" = some (some (.ref f_Hand___init__))) (i_Hand___init__ : PySem.W.isFn K (.ref f_Hand___init__) = true)
    (l_Hand___init__ : K.lookup f_Hand___init__ = some ⟨oc_Hand___init__, od_Hand___init__, .func (PySem.W.fnOf "__init__" "Hand.__init__" (defArgs a_Hand___init__) (defBody a_Hand___init__) (defScope a_Hand___init__) .none kV_Hand___init__ dc_Hand___init__ pm_Hand___init__ an_Hand___init__ cd_Hand___init__ ct_Hand___init__), sl_Hand___init__⟩) (c_Hand___init__ : PySem.W.codeIn K cd_Hand___init__ "Hand.__init__" = true) (k_Hand___init__ : PySem.W.keepIn K (.ref f_Hand___init__) = true)
    {f_Hand_shares : Addr} {od_Hand_shares an_Hand_shares : Option Addr} {sl_Hand_shares : Array (Option Value)} {oc_Hand_shares kV_Hand_shares dc_Hand_shares pm_Hand_shares cd_Hand_shares ct_Hand_shares : Value}
    (a_Hand_shares_ : PySem.W.findIn K (.ref C_Hand) "shares" = some (some (.ref f_Hand_shares))) (i_Hand_shares : PySem.W.isFn K (.ref f_Hand_shares) = true)
    (l_Hand_shares : K.lookup f_Hand_shares = some ⟨oc_Hand_shares, od_Hand_shares, .func (PySem.W.fnOf "shares" "Hand.shares" (defArgs a_Hand_shares) (defBody a_Hand_shares) (defScope a_Hand_shares) .none kV_Hand_shares dc_Hand_shares pm_Hand_shares an_Hand_shares cd_Hand_shares ct_Hand_shares), sl_Hand_shares⟩) (c_Hand_shares : PySem.W.codeIn K cd_Hand_shares "Hand.shares" = true) (k_Hand_shares : PySem.W.keepIn K (.ref f_Hand_shares) = true)
    {f_Hand_shared : Addr} {od_Hand_shared an_Hand_shared : Option Addr} {sl_Hand_shared : Array (Option Value)} {oc_Hand_shared kV_Hand_shared dc_Hand_shared pm_Hand_shared cd_Hand_shared ct_Hand_shared : Value}
    (a_Hand_shared_ : PySem.W.findIn K (.ref C_Hand) "shared" = some (some (.ref f_Hand_shared))) (i_Hand_shared : PySem.W.isFn K (.ref f_Hand_shared) = true)
    (l_Hand_shared : K.lookup f_Hand_shared = some ⟨oc_Hand_shared, od_Hand_shared, .func (PySem.W.fnOf "shared" "Hand.shared" (defArgs a_Hand_shared) (defBody a_Hand_shared) (defScope a_Hand_shared) .none kV_Hand_shared dc_Hand_shared pm_Hand_shared an_Hand_shared cd_Hand_shared ct_Hand_shared), sl_Hand_shared⟩) (c_Hand_shared : PySem.W.codeIn K cd_Hand_shared "Hand.shared" = true) (k_Hand_shared : PySem.W.keepIn K (.ref f_Hand_shared) = true)
    {f_Hand_count_of : Addr} {od_Hand_count_of an_Hand_count_of : Option Addr} {sl_Hand_count_of : Array (Option Value)} {oc_Hand_count_of kV_Hand_count_of dc_Hand_count_of pm_Hand_count_of cd_Hand_count_of ct_Hand_count_of : Value}
    (a_Hand_count_of_ : PySem.W.findIn K (.ref C_Hand) "count_of" = some (some (.ref f_Hand_count_of))) (i_Hand_count_of : PySem.W.isFn K (.ref f_Hand_count_of) = true)
    (l_Hand_count_of : K.lookup f_Hand_count_of = some ⟨oc_Hand_count_of, od_Hand_count_of, .func (PySem.W.fnOf "count_of" "Hand.count_of" (defArgs a_Hand_count_of) (defBody a_Hand_count_of) (defScope a_Hand_count_of) .none kV_Hand_count_of dc_Hand_count_of pm_Hand_count_of an_Hand_count_of cd_Hand_count_of ct_Hand_count_of), sl_Hand_count_of⟩) (c_Hand_count_of : PySem.W.codeIn K cd_Hand_count_of "Hand.count_of" = true) (k_Hand_count_of : PySem.W.keepIn K (.ref f_Hand_count_of) = true)
    {f_Hand_has_leave : Addr} {od_Hand_has_leave an_Hand_has_leave : Option Addr} {sl_Hand_has_leave : Array (Option Value)} {oc_Hand_has_leave kV_Hand_has_leave dc_Hand_has_leave pm_Hand_has_leave cd_Hand_has_leave ct_Hand_has_leave : Value}
    (a_Hand_has_leave_ : PySem.W.findIn K (.ref C_Hand) "has_leave" = some (some (.ref f_Hand_has_leave))) (i_Hand_has_leave : PySem.W.isFn K (.ref f_Hand_has_leave) = true)
    (l_Hand_has_leave : K.lookup f_Hand_has_leave = some ⟨oc_Hand_has_leave, od_Hand_has_leave, .func (PySem.W.fnOf "has_leave" "Hand.has_leave" (defArgs a_Hand_has_leave) (defBody a_Hand_has_leave) (defScope a_Hand_has_leave) .none kV_Hand_has_leave dc_Hand_has_leave pm_Hand_has_leave an_Hand_has_leave cd_Hand_has_leave ct_Hand_has_leave), sl_Hand_has_leave⟩) (c_Hand_has_leave : PySem.W.codeIn K cd_Hand_has_leave "Hand.has_leave" = true) (k_Hand_has_leave : PySem.W.keepIn K (.ref f_Hand_has_leave) = true)
    {f_Hand_wished_place : Addr} {od_Hand_wished_place an_Hand_wished_place : Option Addr} {sl_Hand_wished_place : Array (Option Value)} {oc_Hand_wished_place kV_Hand_wished_place dc_Hand_wished_place pm_Hand_wished_place cd_Hand_wished_place ct_Hand_wished_place : Value}
    (a_Hand_wished_place_ : PySem.W.findIn K (.ref C_Hand) "wished_place" = some (some (.ref f_Hand_wished_place))) (i_Hand_wished_place : PySem.W.isFn K (.ref f_Hand_wished_place) = true)
    (l_Hand_wished_place : K.lookup f_Hand_wished_place = some ⟨oc_Hand_wished_place, od_Hand_wished_place, .func (PySem.W.fnOf "wished_place" "Hand.wished_place" (defArgs a_Hand_wished_place) (defBody a_Hand_wished_place) (defScope a_Hand_wished_place) .none kV_Hand_wished_place dc_Hand_wished_place pm_Hand_wished_place an_Hand_wished_place cd_Hand_wished_place ct_Hand_wished_place), sl_Hand_wished_place⟩) (c_Hand_wished_place : PySem.W.codeIn K cd_Hand_wished_place "Hand.wished_place" = true) (k_Hand_wished_place : PySem.W.keepIn K (.ref f_Hand_wished_place) = true)
    {f_Hand_lacks : Addr} {od_Hand_lacks an_Hand_lacks : Option Addr} {sl_Hand_lacks : Array (Option Value)} {oc_Hand_lacks kV_Hand_lacks dc_Hand_lacks pm_Hand_lacks cd_Hand_lacks ct_Hand_lacks : Value}
    (a_Hand_lacks_ : PySem.W.findIn K (.ref C_Hand) "lacks" = some (some (.ref f_Hand_lacks))) (i_Hand_lacks : PySem.W.isFn K (.ref f_Hand_lacks) = true)
    (l_Hand_lacks : K.lookup f_Hand_lacks = some ⟨oc_Hand_lacks, od_Hand_lacks, .func (PySem.W.fnOf "lacks" "Hand.lacks" (defArgs a_Hand_lacks) (defBody a_Hand_lacks) (defScope a_Hand_lacks) .none kV_Hand_lacks dc_Hand_lacks pm_Hand_lacks an_Hand_lacks cd_Hand_lacks ct_Hand_lacks), sl_Hand_lacks⟩) (c_Hand_lacks : PySem.W.codeIn K cd_Hand_lacks "Hand.lacks" = true) (k_Hand_lacks : PySem.W.keepIn K (.ref f_Hand_lacks) = true)
    {f_Hand_beat : Addr} {od_Hand_beat an_Hand_beat : Option Addr} {sl_Hand_beat : Array (Option Value)} {oc_Hand_beat kV_Hand_beat dc_Hand_beat pm_Hand_beat cd_Hand_beat ct_Hand_beat : Value}
    (a_Hand_beat_ : PySem.W.findIn K (.ref C_Hand) "beat" = some (some (.ref f_Hand_beat))) (i_Hand_beat : PySem.W.isFn K (.ref f_Hand_beat) = true)
    (l_Hand_beat : K.lookup f_Hand_beat = some ⟨oc_Hand_beat, od_Hand_beat, .func (PySem.W.fnOf "beat" "Hand.beat" (defArgs a_Hand_beat) (defBody a_Hand_beat) (defScope a_Hand_beat) .none kV_Hand_beat dc_Hand_beat pm_Hand_beat an_Hand_beat cd_Hand_beat ct_Hand_beat), sl_Hand_beat⟩) (c_Hand_beat : PySem.W.codeIn K cd_Hand_beat "Hand.beat" = true) (k_Hand_beat : PySem.W.keepIn K (.ref f_Hand_beat) = true)
    {f_Hand_hear : Addr} {od_Hand_hear an_Hand_hear : Option Addr} {sl_Hand_hear : Array (Option Value)} {oc_Hand_hear kV_Hand_hear dc_Hand_hear pm_Hand_hear cd_Hand_hear ct_Hand_hear : Value}
    (a_Hand_hear_ : PySem.W.findIn K (.ref C_Hand) "hear" = some (some (.ref f_Hand_hear))) (i_Hand_hear : PySem.W.isFn K (.ref f_Hand_hear) = true)
    (l_Hand_hear : K.lookup f_Hand_hear = some ⟨oc_Hand_hear, od_Hand_hear, .func (PySem.W.fnOf "hear" "Hand.hear" (defArgs a_Hand_hear) (defBody a_Hand_hear) (defScope a_Hand_hear) .none kV_Hand_hear dc_Hand_hear pm_Hand_hear an_Hand_hear cd_Hand_hear ct_Hand_hear), sl_Hand_hear⟩) (c_Hand_hear : PySem.W.codeIn K cd_Hand_hear "Hand.hear" = true) (k_Hand_hear : PySem.W.keepIn K (.ref f_Hand_hear) = true)
    {f_Hand_has_place : Addr} {od_Hand_has_place an_Hand_has_place : Option Addr} {sl_Hand_has_place : Array (Option Value)} {oc_Hand_has_place kV_Hand_has_place dc_Hand_has_place pm_Hand_has_place cd_Hand_has_place ct_Hand_has_place : Value}
    (a_Hand_has_place_ : PySem.W.findIn K (.ref C_Hand) "has_place" = some (some (.ref f_Hand_has_place))) (i_Hand_has_place : PySem.W.isFn K (.ref f_Hand_has_place) = true)
    (l_Hand_has_place : K.lookup f_Hand_has_place = some ⟨oc_Hand_has_place, od_Hand_has_place, .func (PySem.W.fnOf "has_place" "Hand.has_place" (defArgs a_Hand_has_place) (defBody a_Hand_has_place) (defScope a_Hand_has_place) .none kV_Hand_has_place dc_Hand_has_place pm_Hand_has_place an_Hand_has_place cd_Hand_has_place ct_Hand_has_place), sl_Hand_has_place⟩) (c_Hand_has_place : PySem.W.codeIn K cd_Hand_has_place "Hand.has_place" = true) (k_Hand_has_place : PySem.W.keepIn K (.ref f_Hand_has_place) = true)
    {f_Hand_answers : Addr} {od_Hand_answers an_Hand_answers : Option Addr} {sl_Hand_answers : Array (Option Value)} {oc_Hand_answers kV_Hand_answers dc_Hand_answers pm_Hand_answers cd_Hand_answers ct_Hand_answers : Value}
    (a_Hand_answers_ : PySem.W.findIn K (.ref C_Hand) "answers" = some (some (.ref f_Hand_answers))) (i_Hand_answers : PySem.W.isFn K (.ref f_Hand_answers) = true)
    (l_Hand_answers : K.lookup f_Hand_answers = some ⟨oc_Hand_answers, od_Hand_answers, .func (PySem.W.fnOf "answers" "Hand.answers" (defArgs a_Hand_answers) (defBody a_Hand_answers) (defScope a_Hand_answers) .none kV_Hand_answers dc_Hand_answers pm_Hand_answers an_Hand_answers cd_Hand_answers ct_Hand_answers), sl_Hand_answers⟩) (c_Hand_answers : PySem.W.codeIn K cd_Hand_answers "Hand.answers" = true) (k_Hand_answers : PySem.W.keepIn K (.ref f_Hand_answers) = true)
    {f_Hand_put : Addr} {od_Hand_put an_Hand_put : Option Addr} {sl_Hand_put : Array (Option Value)} {oc_Hand_put kV_Hand_put dc_Hand_put pm_Hand_put cd_Hand_put ct_Hand_put : Value}
    (a_Hand_put_ : PySem.W.findIn K (.ref C_Hand) "put" = some (some (.ref f_Hand_put))) (i_Hand_put : PySem.W.isFn K (.ref f_Hand_put) = true)
    (l_Hand_put : K.lookup f_Hand_put = some ⟨oc_Hand_put, od_Hand_put, .func (PySem.W.fnOf "put" "Hand.put" (defArgs a_Hand_put) (defBody a_Hand_put) (defScope a_Hand_put) .none kV_Hand_put dc_Hand_put pm_Hand_put an_Hand_put cd_Hand_put ct_Hand_put), sl_Hand_put⟩) (c_Hand_put : PySem.W.codeIn K cd_Hand_put "Hand.put" = true) (k_Hand_put : PySem.W.keepIn K (.ref f_Hand_put) = true)
    {f_Hand_drop : Addr} {od_Hand_drop an_Hand_drop : Option Addr} {sl_Hand_drop : Array (Option Value)} {oc_Hand_drop kV_Hand_drop dc_Hand_drop pm_Hand_drop cd_Hand_drop ct_Hand_drop : Value}
    (a_Hand_drop_ : PySem.W.findIn K (.ref C_Hand) "drop" = some (some (.ref f_Hand_drop))) (i_Hand_drop : PySem.W.isFn K (.ref f_Hand_drop) = true)
    (l_Hand_drop : K.lookup f_Hand_drop = some ⟨oc_Hand_drop, od_Hand_drop, .func (PySem.W.fnOf "drop" "Hand.drop" (defArgs a_Hand_drop) (defBody a_Hand_drop) (defScope a_Hand_drop) .none kV_Hand_drop dc_Hand_drop pm_Hand_drop an_Hand_drop cd_Hand_drop ct_Hand_drop), sl_Hand_drop⟩) (c_Hand_drop : PySem.W.codeIn K cd_Hand_drop "Hand.drop" = true) (k_Hand_drop : PySem.W.keepIn K (.ref f_Hand_drop) = true)
    (z1 : PySem.W.nsIn K mainGlobals "ValueError" = some none)
    (z2 : PySem.W.nsIn K mainGlobals "abs" = some none)
    (z3 : PySem.W.nsIn K mainGlobals "all" = some none)
    (z4 : PySem.W.nsIn K mainGlobals "bool" = some none)
    (z5 : PySem.W.nsIn K mainGlobals "dict" = some none)
    (z6 : PySem.W.nsIn K mainGlobals "int" = some none)
    (z7 : PySem.W.nsIn K mainGlobals "isinstance" = some none)
    (z8 : PySem.W.nsIn K mainGlobals "len" = some none)
    (z9 : PySem.W.nsIn K mainGlobals "list" = some none)
    (z10 : PySem.W.nsIn K mainGlobals "max" = some none)
    (z11 : PySem.W.nsIn K mainGlobals "min" = some none)
    (z12 : PySem.W.nsIn K mainGlobals "range" = some none)
    (z13 : PySem.W.nsIn K mainGlobals "repr" = some none)
    (z14 : PySem.W.nsIn K mainGlobals "set" = some none)
    (z15 : PySem.W.nsIn K mainGlobals "sorted" = some none)
    (z16 : PySem.W.nsIn K mainGlobals "str" = some none)
    (z17 : PySem.W.nsIn K mainGlobals "tuple" = some none)
    {cL1 PL1 : Addr} {eL1 : Value} {ddL1 : Option Addr} {vsL1 : Array Value} {slL1 : Array (Option Value)} (tc1 : cd21 = .ref cL1) (tL1 : K.lookup cL1 = some ⟨eL1, ddL1, .fields vsL1, slL1⟩) (tV1 : vsL1[11]? = some (.ref PL1)) (tN1 : K.lookup PL1 = none) (tH1 : PySem.W.codeHdIn K cL1 PL1 = true)
    {cL2 PL2 : Addr} {eL2 : Value} {ddL2 : Option Addr} {vsL2 : Array Value} {slL2 : Array (Option Value)} (tc2 : cd22 = .ref cL2) (tL2 : K.lookup cL2 = some ⟨eL2, ddL2, .fields vsL2, slL2⟩) (tV2 : vsL2[11]? = some (.ref PL2)) (tN2 : K.lookup PL2 = none) (tH2 : PySem.W.codeHdIn K cL2 PL2 = true)
    (r_np : (PL1 == PL2) = false)
    (hTab1 : h.get? PL1 = some { cls := .none, data := .fields #[] }) (hTab2 : h.get? PL2 = some { cls := .none, data := .fields #[] })
    : ∃ (fd : FuncData) (T : List (Addr × Addr)) (sp : Sp), (∀ p ∈ T, h.get? p.2 = some { cls := .none, data := .fields #[] }) ∧ (∀ p ∈ T, K.lookup p.2 = none) ∧ (∀ p ∈ T, PySem.W.CodeHd h p.1 p.2) ∧ (∀ (s : Shared) (u : Value), BindsTo s fd ⟨[u], []⟩ [("_law_script", u)]) ∧ (∀ (H : Hp) (a : Addr) (ns : List Int), ns.length ≤ 63 → (∀ p ∈ T, H p.2 = some (.tbl #[])) → SqL K H a (ns.map V.int) → sp [.ref a] H (fun v _ => v = .bl true) E0) ∧ ∀ base : Heap, K.In base → base.Ns mainGlobals mg → (∀ p ∈ T, LamX.TabB base mg p.1 p.2) → FnG l.prog w K mg base 13 fa fd ["_law_script"] sp := by
  have e := hfa.symm.trans (PySem.W.mg_of X G a22)
  cases e
  have F1 := fun_mk (st := a_is_whole) l1 c1 k1
  have b1 := F1.binds (ps := ["thing"]) fun _ _ _ _ _ _ us hl => match us, hl with | [_], _ => rfl
  have g1 := PySem.W.mg_of X G a1
  have F2 := fun_mk (st := a_is_count) l2 c2 k2
  have b2 := F2.binds (ps := ["thing"]) fun _ _ _ _ _ _ us hl => match us, hl with | [_], _ => rfl
  have g2 := PySem.W.mg_of X G a2
  have F3 := fun_mk (st := a_is_wish) l3 c3 k3
  have b3 := F3.binds (ps := ["thing"]) fun _ _ _ _ _ _ us hl => match us, hl with | [_], _ => rfl
  have g3 := PySem.W.mg_of X G a3
  have F4 := fun_mk (st := a_is_letter) l4 c4 k4
  have b4 := F4.binds (ps := ["thing"]) fun _ _ _ _ _ _ us hl => match us, hl with | [_], _ => rfl
  have g4 := PySem.W.mg_of X G a4
  have F5 := fun_mk (st := a_wish_number) l5 c5 k5
  have b5 := F5.binds (ps := ["wish"]) fun _ _ _ _ _ _ us hl => match us, hl with | [_], _ => rfl
  have g5 := PySem.W.mg_of X G a5
  have F6 := fun_mk (st := a_is_shared) l6 c6 k6
  have b6 := F6.binds (ps := ["rule"]) fun _ _ _ _ _ _ us hl => match us, hl with | [_], _ => rfl
  have g6 := PySem.W.mg_of X G a6
  have F7 := fun_mk (st := a_own_side) l7 c7 k7
  have b7 := F7.binds (ps := ["rule", "thing"]) fun _ _ _ _ _ _ us hl => match us, hl with | [_, _], _ => rfl
  have g7 := PySem.W.mg_of X G a7
  have F8 := fun_mk (st := a_other_thing) l8 c8 k8
  have b8 := F8.binds (ps := ["rule", "thing"]) fun _ _ _ _ _ _ us hl => match us, hl with | [_, _], _ => rfl
  have g8 := PySem.W.mg_of X G a8
  have F9 := fun_mk (st := a_out_span) l9 c9 k9
  have b9 := F9.binds (ps := ["side", "low", "high"]) fun _ _ _ _ _ _ us hl => match us, hl with | [_, _, _], _ => rfl
  have g9 := PySem.W.mg_of X G a9
  have F10 := fun_mk (st := a_is_out_at) l10 c10 k10
  have b10 := F10.binds (ps := ["side", "place"]) fun _ _ _ _ _ _ us hl => match us, hl with | [_, _], _ => rfl
  have g10 := PySem.W.mg_of X G a10
  have F11 := fun_mk (st := sPot) l11 c11 k11
  have b11 := F11.binds (ps := ["_law_script", "_law_k"]) fun _ _ _ _ _ _ us hl => match us, hl with | [_, _], _ => rfl
  have g11 := PySem.W.mg_of X G a11
  have F12 := fun_mk (st := sTake) l12 c12 k12
  have b12 := F12.binds (ps := ["_law_pot_here", "_law_many"]) fun _ _ _ _ _ _ us hl => match us, hl with | [_, _], _ => rfl
  have g12 := PySem.W.mg_of X G a12
  have F13 := fun_mk (st := sOf) l13 c13 k13
  have b13 := F13.binds (ps := ["_law_pot_here", "_law_some"]) fun _ _ _ _ _ _ us hl => match us, hl with | [_, _], _ => rfl
  have g13 := PySem.W.mg_of X G a13
  have F14 := fun_mk (st := a__law_hand_rules) l14 c14 k14
  have b14 := F14.binds (ps := ["_law_pot_here", "_law_tops", "_law_many", "_law_thing"]) fun _ _ _ _ _ _ us hl => match us, hl with | [_, _, _, _], _ => rfl
  have g14 := PySem.W.mg_of X G a14
  have F15 := fun_mk (st := a__law_refusal) l15 c15 k15
  have b15 := F15.binds (ps := ["_law_ask"]) fun _ _ _ _ _ _ us hl => match us, hl with | [_], _ => rfl
  have g15 := PySem.W.mg_of X G a15
  have F16 := fun_mk (st := a__law_no_rule) l16 c16 k16
  have b16 := F16.binds (ps := ["_law_thing"]) fun _ _ _ _ _ _ us hl => match us, hl with | [_], _ => rfl
  have g16 := PySem.W.mg_of X G a16
  have F17 := fun_mk (st := a__law_no_letter) l17 c17 k17
  have b17 := F17.binds (ps := ["_law_thing"]) fun _ _ _ _ _ _ us hl => match us, hl with | [_], _ => rfl
  have g17 := PySem.W.mg_of X G a17
  have F18 := fun_mk (st := a__law_state) l18 c18 k18
  have b18 := F18.binds (ps := ["_law_hand", "_law_numbers"]) fun _ _ _ _ _ _ us hl => match us, hl with | [_, _], _ => rfl
  have g18 := PySem.W.mg_of X G a18
  have F19 := fun_mk (st := a__law_odd) l19 c19 k19
  have b19 := F19.binds (ps := ["_law_pot_here"]) fun _ _ _ _ _ _ us hl => match us, hl with | [_], _ => rfl
  have g19 := PySem.W.mg_of X G a19
  have F20 := fun_mk (st := a__law_no_letters) l20 c20 k20
  have b20 := F20.binds (ps := ["_law_pot_here", "_law_hand", "_law_rules"]) fun _ _ _ _ _ _ us hl => match us, hl with | [_, _, _], _ => rfl
  have g20 := PySem.W.mg_of X G a20
  have F21 := fun_mk (st := a__law_right) l21 c21 k21
  have b21 := F21.binds (ps := ["_law_pot_here", "_law_hand", "_law_rules"]) fun _ _ _ _ _ _ us hl => match us, hl with | [_, _, _], _ => rfl
  have g21 := PySem.W.mg_of X G a21
  have F22 := fun_mk (st := a_law) l22 c22 k22
  have m1 := PySem.W.mg_none_of X G z1
  have m2 := PySem.W.mg_none_of X G z2
  have m3 := PySem.W.mg_none_of X G z3
  have m4 := PySem.W.mg_none_of X G z4
  have m5 := PySem.W.mg_none_of X G z5
  have m6 := PySem.W.mg_none_of X G z6
  have m7 := PySem.W.mg_none_of X G z7
  have m8 := PySem.W.mg_none_of X G z8
  have m9 := PySem.W.mg_none_of X G z9
  have m10 := PySem.W.mg_none_of X G z10
  have m11 := PySem.W.mg_none_of X G z11
  have m12 := PySem.W.mg_none_of X G z12
  have m13 := PySem.W.mg_none_of X G z13
  have m14 := PySem.W.mg_none_of X G z14
  have m15 := PySem.W.mg_none_of X G z15
  have m16 := PySem.W.mg_none_of X G z16
  have m17 := PySem.W.mg_none_of X G z17
  have gv1 := PySem.W.mg_of X G v1
  have F_NoRule := fun_mk (st := kI_NoRule) l_NoRule c_NoRule kf_NoRule
  have b_NoRule := F_NoRule.binds (ps := ["self", "thing"]) fun _ _ _ _ _ _ us hl => match us, hl with | [_, _], _ => rfl
  have O_NoRule : OexC K C_NoRule := ⟨⟨_, _, _, _, _, _, _, _, _, _, _, _, _, _, _, x_NoRule, r_NoRule⟩, sa_NoRule, e_NoRule, ty_NoRule, kC_NoRule⟩
  have EX_NoRule : ExT K mg "NoRule" "thing" C_NoRule f_NoRule _ := ⟨PySem.W.mg_of X G a_NoRule, O_NoRule, nb_NoRule, i_NoRule, t_NoRule, ⟨ga_NoRule, gg_NoRule, e_NoRule, hd_NoRule⟩, exm_self e_NoRule is_NoRule ty_NoRule ss_NoRule, b_NoRule⟩
  have F_NoLetter := fun_mk (st := kI_NoLetter) l_NoLetter c_NoLetter kf_NoLetter
  have b_NoLetter := F_NoLetter.binds (ps := ["self", "thing"]) fun _ _ _ _ _ _ us hl => match us, hl with | [_, _], _ => rfl
  have O_NoLetter : OexC K C_NoLetter := ⟨⟨_, _, _, _, _, _, _, _, _, _, _, _, _, _, _, x_NoLetter, r_NoLetter⟩, sa_NoLetter, e_NoLetter, ty_NoLetter, kC_NoLetter⟩
  have EX_NoLetter : ExT K mg "NoLetter" "thing" C_NoLetter f_NoLetter _ := ⟨PySem.W.mg_of X G a_NoLetter, O_NoLetter, nb_NoLetter, i_NoLetter, t_NoLetter, ⟨ga_NoLetter, gg_NoLetter, e_NoLetter, hd_NoLetter⟩, exm_self e_NoLetter is_NoLetter ty_NoLetter ss_NoLetter, b_NoLetter⟩
  have gB_BothError := PySem.W.mg_of X G aB_BothError
  have XC_NoRule : ExcC K C_NoRule := ⟨ga_NoRule, gg_NoRule, e_NoRule, hd_NoRule, xc1_NoRule, xc2_NoRule, xc3_NoRule, xc4_NoRule⟩
  have KV_NoRule := kit_sub_ty (K := K) (t := .ref C_NoRule) (T := "ValueError") (by decide +kernel) xv_NoRule
  have EM_NoRule_BothError := exm_sub (K := K) (S := C_NoRule) eB_BothError iB_BothError tB_BothError xs_NoRule_BothError
  have KB_NoRule := kit_sub_ref (K := K) (t := .ref C_NoRule) hB_BothError tB_BothError xs_NoRule_BothError
  have XC_NoLetter : ExcC K C_NoLetter := ⟨ga_NoLetter, gg_NoLetter, e_NoLetter, hd_NoLetter, xc1_NoLetter, xc2_NoLetter, xc3_NoLetter, xc4_NoLetter⟩
  have KV_NoLetter := kit_sub_ty (K := K) (t := .ref C_NoLetter) (T := "ValueError") (by decide +kernel) xv_NoLetter
  have EM_NoLetter_BothError := exm_sub (K := K) (S := C_NoLetter) eB_BothError iB_BothError tB_BothError xs_NoLetter_BothError
  have KB_NoLetter := kit_sub_ref (K := K) (t := .ref C_NoLetter) hB_BothError tB_BothError xs_NoLetter_BothError
  have gS_NoThing := PySem.W.mg_of X G aS_NoThing
  have KN_NoRule_NoThing := kit_not (K := K) (S := C_NoRule) r_ne_NoRule_NoThing hS_NoThing tS_NoThing xn_NoRule_NoThing
  have KN_NoRule_NoLetter := kit_not (K := K) (S := C_NoRule) r_ne_NoRule_NoLetter hd_NoLetter ty_NoLetter xn_NoRule_NoLetter
  have gS_NoThing := PySem.W.mg_of X G aS_NoThing
  have KN_NoLetter_NoThing := kit_not (K := K) (S := C_NoLetter) r_ne_NoLetter_NoThing hS_NoThing tS_NoThing xn_NoLetter_NoThing
  have KN_NoLetter_NoRule := kit_not (K := K) (S := C_NoLetter) r_ne_NoLetter_NoRule hd_NoRule ty_NoRule xn_NoLetter_NoRule
  have cl_Hand : Cls K C_Hand := ⟨pg_Hand, hd_Hand, po_Hand, sa_Hand⟩
  have HX : HandTxt K C_Hand := ⟨cl_Hand, n_Hand_thing, n_Hand_place, n_Hand_wish, n_Hand_held, n_Hand_tally⟩
  have mgC_Hand := PySem.W.mg_of X G aC_Hand
  have F_Hand___init__ := fun_mk (st := a_Hand___init__) l_Hand___init__ c_Hand___init__ k_Hand___init__
  have b_Hand___init__ := F_Hand___init__.binds (ps := ["self", "thing", "place", "rules"]) fun _ _ _ _ _ _ us hl => match us, hl with | [_, _, _, _], _ => rfl
  have MK_Hand : Mk K C_Hand f_Hand___init__ := ⟨mk_Hand, a_Hand___init___, i_Hand___init__, kc_Hand⟩
  have bI_Hand := b_Hand___init__
  have F_Hand_shares := fun_mk (st := a_Hand_shares) l_Hand_shares c_Hand_shares k_Hand_shares
  have b_Hand_shares := F_Hand_shares.binds (ps := ["self", "number"]) fun _ _ _ _ _ _ us hl => match us, hl with | [_, _], _ => rfl
  have F_Hand_shared := fun_mk (st := a_Hand_shared) l_Hand_shared c_Hand_shared k_Hand_shared
  have b_Hand_shared := F_Hand_shared.binds (ps := ["self"]) fun _ _ _ _ _ _ us hl => match us, hl with | [_], _ => rfl
  have F_Hand_count_of := fun_mk (st := a_Hand_count_of) l_Hand_count_of c_Hand_count_of k_Hand_count_of
  have b_Hand_count_of := F_Hand_count_of.binds (ps := ["self", "number"]) fun _ _ _ _ _ _ us hl => match us, hl with | [_, _], _ => rfl
  have F_Hand_has_leave := fun_mk (st := a_Hand_has_leave) l_Hand_has_leave c_Hand_has_leave k_Hand_has_leave
  have b_Hand_has_leave := F_Hand_has_leave.binds (ps := ["self", "number"]) fun _ _ _ _ _ _ us hl => match us, hl with | [_, _], _ => rfl
  have F_Hand_wished_place := fun_mk (st := a_Hand_wished_place) l_Hand_wished_place c_Hand_wished_place k_Hand_wished_place
  have b_Hand_wished_place := F_Hand_wished_place.binds (ps := ["self"]) fun _ _ _ _ _ _ us hl => match us, hl with | [_], _ => rfl
  have F_Hand_lacks := fun_mk (st := a_Hand_lacks) l_Hand_lacks c_Hand_lacks k_Hand_lacks
  have b_Hand_lacks := F_Hand_lacks.binds (ps := ["self"]) fun _ _ _ _ _ _ us hl => match us, hl with | [_], _ => rfl
  have F_Hand_beat := fun_mk (st := a_Hand_beat) l_Hand_beat c_Hand_beat k_Hand_beat
  have b_Hand_beat := F_Hand_beat.binds (ps := ["self"]) fun _ _ _ _ _ _ us hl => match us, hl with | [_], _ => rfl
  have F_Hand_hear := fun_mk (st := a_Hand_hear) l_Hand_hear c_Hand_hear k_Hand_hear
  have b_Hand_hear := F_Hand_hear.binds (ps := ["self", "letter"]) fun _ _ _ _ _ _ us hl => match us, hl with | [_, _], _ => rfl
  have F_Hand_has_place := fun_mk (st := a_Hand_has_place) l_Hand_has_place c_Hand_has_place k_Hand_has_place
  have b_Hand_has_place := F_Hand_has_place.binds (ps := ["self", "wish"]) fun _ _ _ _ _ _ us hl => match us, hl with | [_, _], _ => rfl
  have F_Hand_answers := fun_mk (st := a_Hand_answers) l_Hand_answers c_Hand_answers k_Hand_answers
  have b_Hand_answers := F_Hand_answers.binds (ps := ["self", "number", "count"]) fun _ _ _ _ _ _ us hl => match us, hl with | [_, _, _], _ => rfl
  have F_Hand_put := fun_mk (st := a_Hand_put) l_Hand_put c_Hand_put k_Hand_put
  have b_Hand_put := F_Hand_put.binds (ps := ["self", "number", "rule", "count"]) fun _ _ _ _ _ _ us hl => match us, hl with | [_, _, _, _], _ => rfl
  have F_Hand_drop := fun_mk (st := a_Hand_drop) l_Hand_drop c_Hand_drop k_Hand_drop
  have b_Hand_drop := F_Hand_drop.binds (ps := ["self", "number"]) fun _ _ _ _ _ _ us hl => match us, hl with | [_, _], _ => rfl
  have npl : PL1 ≠ PL2 := fun z => by rw [z, beq_self_eq_true] at r_np; cases r_np
  refine ⟨PySem.W.fnOf "law" "law" (defArgs a_law) (defBody a_law) (defScope a_law) .none kV22 dc22 pm22 an22 cd22 ct22, [(cL1, PL1), (cL2, PL2)], spLaw K [(PL1, qRt), (PL2, qLw)], all2 hTab1 hTab2, all2 tN1 tN2, all2 (PySem.W.codeHd_of_K X tH1) (PySem.W.codeHd_of_K X tH2), fun s v => .of_eq rfl, fun H a ns hl hT hS => ⟨a, ns, rfl, hS, hl, all2 (LamX.TabS.nil (hT (cL1, PL1) List.mem_cons_self)) (LamX.TabS.nil (hT (cL2, PL2) (List.mem_cons_of_mem _ List.mem_cons_self))), fun _ => rfl⟩, fun base _ _ hTB => ?_⟩
  have TBl := hTB (cL1, PL1) List.mem_cons_self
  have TBl2 := hTB (cL2, PL2) (List.mem_cons_of_mem _ List.mem_cons_self)
  have hm1 : (PL1, qRt) ∈ [(PL1, qRt), (PL2, qLw)] := List.mem_cons_self
  have hm2 : (PL2, qLw) ∈ [(PL1, qRt), (PL2, qLw)] := List.mem_cons_of_mem _ List.mem_cons_self
  have hu1 : ∀ p ∈ [(PL1, qRt), (PL2, qLw)], p.1 = PL1 → p.2 = qRt := all2 (fun _ => rfl) (fun z => absurd z.symm npl)
  have hu2 : ∀ p ∈ [(PL1, qRt), (PL2, qLw)], p.1 = PL2 → p.2 = qLw := all2 (fun z => absurd z npl) (fun _ => rfl)
  have GX_NoRule := ok_NoRule (P := l.prog) (w := w) (mg := mg) (base := base) F_NoRule O_NoRule nb_NoRule
  have GX_NoLetter := ok_NoLetter (P := l.prog) (w := w) (mg := mg) (base := base) F_NoLetter O_NoLetter nb_NoLetter
  have RTx := (⟨gB_BothError, gS_NoThing, PySem.W.mg_of X G a_NoRule, PySem.W.mg_of X G a_NoLetter, m1, m7, m13⟩ : RefT K mg _ _ _ _)
  have RRx := (⟨XC_NoRule, EX_NoRule.xf, nb_NoRule, EM_NoRule_BothError, KV_NoRule, KN_NoRule_NoThing, kit_self, KN_NoRule_NoLetter, rfl⟩ : RefC K CB_BothError CS_NoThing C_NoRule C_NoLetter C_NoRule true false)
  have RLx := (⟨XC_NoLetter, EX_NoLetter.xf, nb_NoLetter, EM_NoLetter_BothError, KV_NoLetter, KN_NoLetter_NoThing, KN_NoLetter_NoRule, kit_self, rfl⟩ : RefC K CB_BothError CS_NoThing C_NoRule C_NoLetter C_NoLetter false true)
  have K_is_whole := Kn.mk (x := "is_whole") (base := base) (w := w) (P := l.prog) (ok_is_whole (k := 0) F1 m4 m6 m7) g1 F1.kp b1
  have K_is_count := Kn.mk (x := "is_count") (base := base) (w := w) (P := l.prog) (ok_is_count (k := 0) F2 K_is_whole) g2 F2.kp b2
  have K_is_wish := Kn.mk (x := "is_wish") (base := base) (w := w) (P := l.prog) (ok_is_wish (k := 0) F3 K_is_whole K_is_count gv1 m3 m7 m8 m17) g3 F3.kp b3
  have K_is_letter := Kn.mk (x := "is_letter") (base := base) (w := w) (P := l.prog) (ok_is_letter (k := 0) F4 K_is_count K_is_wish m7 m8 m16 m17) g4 F4.kp b4
  have K_wish_number := Kn.mk (x := "wish_number") (base := base) (w := w) (P := l.prog) (ok_wish_number (k := 0) F5 ) g5 F5.kp b5
  have K_is_shared := Kn.mk (x := "is_shared") (base := base) (w := w) (P := l.prog) (ok_is_shared (k := 0) F6 ) g6 F6.kp b6
  have K_own_side := Kn.mk (x := "own_side") (base := base) (w := w) (P := l.prog) (ok_own_side (k := 0) F7 ) g7 F7.kp b7
  have K_other_thing := Kn.mk (x := "other_thing") (base := base) (w := w) (P := l.prog) (ok_other_thing (k := 0) F8 ) g8 F8.kp b8
  have K_out_span := Kn.mk (x := "out_span") (base := base) (w := w) (P := l.prog) (ok_out_span (k := 0) F9 m10 m11) g9 F9.kp b9
  have K_is_out_at := Kn.mk (x := "is_out_at") (base := base) (w := w) (P := l.prog) (ok_is_out_at (k := 0) F10 K_out_span) g10 F10.kp b10
  have Ktake := Kn.mk (x := "_law_take") (base := base) (w := w) (P := l.prog) (ok_take (k := 0) F12) g12 F12.kp b12
  have K__law_take := Ktake
  have Kof := Kn.mk (x := "_law_of") (base := base) (w := w) (P := l.prog) (ok_of (k := 0) F13 Ktake m8) g13 F13.kp b13
  have K__law_of := Kof
  have K__law_hand_rules := Kn.mk (x := "_law_hand_rules") (base := base) (w := w) (P := l.prog) (ok__law_hand_rules (k := 0) F14 K__law_take K__law_of m8 m12 m17) g14 F14.kp b14
  have K__law_refusal := F15
  have K__law_no_rule := ok__law_no_rule (P := l.prog) (w := w) (mg := mg) (base := base) F16 m13
  have K__law_no_letter := ok__law_no_letter (P := l.prog) (w := w) (mg := mg) (base := base) F17 m13
  have M_Hand_shares : C8.Met l.prog w K mg base _ C_Hand "shares" _ [] := ⟨_, _, _, [], cl_Hand, ⟨a_Hand_shares_, i_Hand_shares, k_Hand_shares⟩, ok_Hand_shares (k := 0) F_Hand_shares K_is_whole K_is_shared HX, b_Hand_shares, .nil⟩
  have M_Hand_count_of : C8.Met l.prog w K mg base _ C_Hand "count_of" _ [] := ⟨_, _, _, [], cl_Hand, ⟨a_Hand_count_of_, i_Hand_count_of, k_Hand_count_of⟩, ok_Hand_count_of (k := 0) F_Hand_count_of M_Hand_shares HX, b_Hand_count_of, .nil⟩
  have M_Hand_has_leave : C8.Met l.prog w K mg base _ C_Hand "has_leave" _ [] := ⟨_, _, _, [], cl_Hand, ⟨a_Hand_has_leave_, i_Hand_has_leave, k_Hand_has_leave⟩, ok_Hand_has_leave (k := 0) F_Hand_has_leave M_Hand_count_of HX, b_Hand_has_leave, .nil⟩
  have M_Hand_shared : C8.Met l.prog w K mg base _ C_Hand "shared" _ [] := ⟨_, _, _, [], cl_Hand, ⟨a_Hand_shared_, i_Hand_shared, k_Hand_shared⟩, ok_Hand_shared (k := 0) F_Hand_shared K_is_shared HX m15, b_Hand_shared, .nil⟩
  have M_Hand_wished_place : C8.Met l.prog w K mg base _ C_Hand "wished_place" _ [] := ⟨_, _, _, [], cl_Hand, ⟨a_Hand_wished_place_, i_Hand_wished_place, k_Hand_wished_place⟩, ok_Hand_wished_place (k := 0) F_Hand_wished_place HX, b_Hand_wished_place, .nil⟩
  have M_Hand_lacks : C8.Met l.prog w K mg base _ C_Hand "lacks" _ [] := ⟨_, _, _, [], cl_Hand, ⟨a_Hand_lacks_, i_Hand_lacks, k_Hand_lacks⟩, ok_Hand_lacks (k := 0) F_Hand_lacks M_Hand_shared M_Hand_has_leave M_Hand_wished_place K_own_side K_is_out_at HX m17, b_Hand_lacks, .nil⟩
  have M_Hand_beat : C8.Met l.prog w K mg base _ C_Hand "beat" _ [] := ⟨_, _, _, [], cl_Hand, ⟨a_Hand_beat_, i_Hand_beat, k_Hand_beat⟩, ok_Hand_beat (k := 0) F_Hand_beat M_Hand_lacks M_Hand_shared K_other_thing HX m14 m15 m17, b_Hand_beat, .nil⟩
  have K__law_state := ok__law_state (P := l.prog) (w := w) (mg := mg) (base := base) F18 M_Hand_count_of M_Hand_has_leave M_Hand_lacks M_Hand_beat HX m13
  have K__law_odd := Kn.mk (x := "_law_odd") (base := base) (w := w) (P := l.prog) (ok__law_odd (k := 0) F19 K__law_of K__law_take m12) g19 F19.kp b19
  have K__law_no_letters := Kn.mk (x := "_law_no_letters") (base := base) (w := w) (P := l.prog) (ok__law_no_letters (k := 0) F20 K__law_of K__law_odd HX m12 m15 m17) g20 F20.kp b20
  have MX_Hand_shares : MetX l.prog w K mg base _ C_Hand "shares" _ := ⟨_, _, _, cl_Hand, ⟨a_Hand_shares_, i_Hand_shares, k_Hand_shares⟩, ok_Hand_shares_R (k := 0) F_Hand_shares K_is_whole K_is_shared HX, b_Hand_shares⟩
  have MX_Hand_count_of : MetX l.prog w K mg base _ C_Hand "count_of" _ := ⟨_, _, _, cl_Hand, ⟨a_Hand_count_of_, i_Hand_count_of, k_Hand_count_of⟩, ok_Hand_count_of_R (k := 0) F_Hand_count_of MX_Hand_shares HX EX_NoRule GX_NoRule, b_Hand_count_of⟩
  have MX_Hand_has_leave : MetX l.prog w K mg base _ C_Hand "has_leave" _ := ⟨_, _, _, cl_Hand, ⟨a_Hand_has_leave_, i_Hand_has_leave, k_Hand_has_leave⟩, ok_Hand_has_leave_R (k := 0) F_Hand_has_leave MX_Hand_count_of HX, b_Hand_has_leave⟩
  have MX_Hand_drop : MetX l.prog w K mg base _ C_Hand "drop" _ := ⟨_, _, _, cl_Hand, ⟨a_Hand_drop_, i_Hand_drop, k_Hand_drop⟩, ok_Hand_drop_R (k := 0) F_Hand_drop K_is_whole HX EX_NoRule GX_NoRule, b_Hand_drop⟩
  have MX_Hand_put : MetX l.prog w K mg base _ C_Hand "put" _ := ⟨_, _, _, cl_Hand, ⟨a_Hand_put_, i_Hand_put, k_Hand_put⟩, ok_Hand_put_R (k := 0) F_Hand_put K_is_whole HX EX_NoRule GX_NoRule, b_Hand_put⟩
  have M_Hand_has_place : C8.Met l.prog w K mg base _ C_Hand "has_place" _ [] := ⟨_, _, _, [], cl_Hand, ⟨a_Hand_has_place_, i_Hand_has_place, k_Hand_has_place⟩, ok_Hand_has_place (k := 0) F_Hand_has_place HX m8, b_Hand_has_place, .nil⟩
  have M_Hand_answers : C8.Met l.prog w K mg base _ C_Hand "answers" _ [] := ⟨_, _, _, [], cl_Hand, ⟨a_Hand_answers_, i_Hand_answers, k_Hand_answers⟩, ok_Hand_answers (k := 0) F_Hand_answers M_Hand_has_leave K_own_side K_is_out_at K_other_thing HX, b_Hand_answers, .nil⟩
  have MX_Hand_hear : MetX l.prog w K mg base _ C_Hand "hear" _ := ⟨_, _, _, cl_Hand, ⟨a_Hand_hear_, i_Hand_hear, k_Hand_hear⟩, ok_Hand_hear_R (k := 0) F_Hand_hear K_is_letter M_Hand_has_place K_wish_number M_Hand_shares M_Hand_answers HX EX_NoLetter GX_NoLetter m10, b_Hand_hear⟩
  have K__law_right := ok__law_right (P := l.prog) (w := w) (mg := mg) (base := base) F21 K__law_state g18 F18.kp b18 K__law_odd K__law_no_rule g16 F16.kp b16 K__law_no_letter g17 F17.kp b17 K__law_no_letters MX_Hand_count_of MX_Hand_has_leave MX_Hand_drop MX_Hand_put MX_Hand_hear HX RTx RRx RLx K__law_refusal g15 TBl tc1 hm1 hu1 m9 m10 m12 m15
  have Kpot := Kn.mk (x := "_law_pot") (base := base) (w := w) (P := l.prog) (ok_pot (k := 0) F11 m8 m2 m6) g11 F11.kp b11
  have K__law_pot := Kpot
  have M_Hand_drop : C8.Met l.prog w K mg base _ C_Hand "drop" _ [] := ⟨_, _, _, [], cl_Hand, ⟨a_Hand_drop_, i_Hand_drop, k_Hand_drop⟩, ok_Hand_drop (k := 0) F_Hand_drop K_is_whole HX, b_Hand_drop, .nil⟩
  have M_Hand_hear : C8.Met l.prog w K mg base _ C_Hand "hear" _ [] := ⟨_, _, _, [], cl_Hand, ⟨a_Hand_hear_, i_Hand_hear, k_Hand_hear⟩, ok_Hand_hear (k := 0) F_Hand_hear K_is_letter M_Hand_has_place K_wish_number M_Hand_shares M_Hand_answers HX m10, b_Hand_hear, .nil⟩
  have GI_Hand := ok_Hand___init__ (P := l.prog) (w := w) (mg := mg) (base := base) (k := 0) F_Hand___init__ HX
  exact ok_law F22 K__law_take K__law_of K__law_hand_rules K__law_pot K__law_right g21 F21.kp b21 K__law_no_rule g16 F16.kp b16 M_Hand_drop M_Hand_hear MX_Hand_count_of MX_Hand_drop HX MK_Hand GI_Hand bI_Hand mgC_Hand RTx RRx K__law_refusal g15 TBl2 tc2 hm2 hu2 m5 m6 m8 m10 m11 m12 m17
end K61
open PySem PySem.W PyProof.Rows
set_option maxHeartbeats 0 in
theorem PySem.Challenge.cw_notbothout_k61_hands_refuse_holds : PySem.Challenge.rw_notbothout_k61_hands_refuse.Holds := by
  w_on; o_law; k_head; (case hw => w_witness2)
  k_fill
  refine NB.walkGTs (l := PySem.Challenge.rw_notbothout_k61_hands_refuse) (n := 63) (k := 13) (x := "_law_script") rfl (by decide) rfl ⟨rfl, by decide, by decide⟩ (fun w h Y => PySem.W.km_in_of Y) ?F
  case F =>
    intro w mg fa h Y KX G hmg
    refine' K61.all_mk KX G hmg ?a1 ?l1 ?c1 ?k1 ?a2 ?l2 ?c2 ?k2 ?a3 ?l3 ?c3 ?k3 ?a4 ?l4 ?c4 ?k4 ?a5 ?l5 ?c5 ?k5 ?a6 ?l6 ?c6 ?k6 ?a7 ?l7 ?c7 ?k7 ?a8 ?l8 ?c8 ?k8 ?a9 ?l9 ?c9 ?k9 ?a10 ?l10 ?c10 ?k10 ?a11 ?l11 ?c11 ?k11 ?a12 ?l12 ?c12 ?k12 ?a13 ?l13 ?c13 ?k13 ?a14 ?l14 ?c14 ?k14 ?a15 ?l15 ?c15 ?k15 ?a16 ?l16 ?c16 ?k16 ?a17 ?l17 ?c17 ?k17 ?a18 ?l18 ?c18 ?k18 ?a19 ?l19 ?c19 ?k19 ?a20 ?l20 ?c20 ?k20 ?a21 ?l21 ?c21 ?k21 ?a22 ?l22 ?c22 ?k22 ?v1 ?a_NoRule ?x_NoRule ?r_NoRule ?sa_NoRule ?ga_NoRule ?gg_NoRule ?nb_NoRule ?i_NoRule ?t_NoRule ?l_NoRule ?c_NoRule ?kf_NoRule ?kC_NoRule ?e_NoRule ?ty_NoRule ?hd_NoRule ?is_NoRule ?ss_NoRule ?a_NoLetter ?x_NoLetter ?r_NoLetter ?sa_NoLetter ?ga_NoLetter ?gg_NoLetter ?nb_NoLetter ?i_NoLetter ?t_NoLetter ?l_NoLetter ?c_NoLetter ?kf_NoLetter ?kC_NoLetter ?e_NoLetter ?ty_NoLetter ?hd_NoLetter ?is_NoLetter ?ss_NoLetter ?aB_BothError ?hB_BothError ?tB_BothError ?iB_BothError ?eB_BothError ?xc1_NoRule ?xc2_NoRule ?xc3_NoRule ?xc4_NoRule ?xv_NoRule ?xs_NoRule_BothError ?xc1_NoLetter ?xc2_NoLetter ?xc3_NoLetter ?xc4_NoLetter ?xv_NoLetter ?xs_NoLetter_BothError ?aS_NoThing ?hS_NoThing ?tS_NoThing ?xn_NoRule_NoThing ?r_ne_NoRule_NoThing ?xn_NoRule_NoLetter ?r_ne_NoRule_NoLetter ?xn_NoLetter_NoThing ?r_ne_NoLetter_NoThing ?xn_NoLetter_NoRule ?r_ne_NoLetter_NoRule ?aC_Hand ?pg_Hand ?hd_Hand ?po_Hand ?sa_Hand ?mk_Hand ?kc_Hand ?n_Hand_thing ?n_Hand_place ?n_Hand_wish ?n_Hand_held ?n_Hand_tally ?a_Hand___init___ ?i_Hand___init__ ?l_Hand___init__ ?c_Hand___init__ ?k_Hand___init__ ?a_Hand_shares_ ?i_Hand_shares ?l_Hand_shares ?c_Hand_shares ?k_Hand_shares ?a_Hand_shared_ ?i_Hand_shared ?l_Hand_shared ?c_Hand_shared ?k_Hand_shared ?a_Hand_count_of_ ?i_Hand_count_of ?l_Hand_count_of ?c_Hand_count_of ?k_Hand_count_of ?a_Hand_has_leave_ ?i_Hand_has_leave ?l_Hand_has_leave ?c_Hand_has_leave ?k_Hand_has_leave ?a_Hand_wished_place_ ?i_Hand_wished_place ?l_Hand_wished_place ?c_Hand_wished_place ?k_Hand_wished_place ?a_Hand_lacks_ ?i_Hand_lacks ?l_Hand_lacks ?c_Hand_lacks ?k_Hand_lacks ?a_Hand_beat_ ?i_Hand_beat ?l_Hand_beat ?c_Hand_beat ?k_Hand_beat ?a_Hand_hear_ ?i_Hand_hear ?l_Hand_hear ?c_Hand_hear ?k_Hand_hear ?a_Hand_has_place_ ?i_Hand_has_place ?l_Hand_has_place ?c_Hand_has_place ?k_Hand_has_place ?a_Hand_answers_ ?i_Hand_answers ?l_Hand_answers ?c_Hand_answers ?k_Hand_answers ?a_Hand_put_ ?i_Hand_put ?l_Hand_put ?c_Hand_put ?k_Hand_put ?a_Hand_drop_ ?i_Hand_drop ?l_Hand_drop ?c_Hand_drop ?k_Hand_drop ?z1 ?z2 ?z3 ?z4 ?z5 ?z6 ?z7 ?z8 ?z9 ?z10 ?z11 ?z12 ?z13 ?z14 ?z15 ?z16 ?z17 ?tc1 ?tL1 ?tV1 ?tN1 ?tH1 ?tc2 ?tL2 ?tV2 ?tN2 ?tH2 ?r_np ?hTab1 ?hTab2
    (case a1 => k_is)
    (case l1 => k_is)
    (case c1 => k_is)
    (case k1 => k_is)
    (case a2 => k_is)
    (case l2 => k_is)
    (case c2 => k_is)
    (case k2 => k_is)
    (case a3 => k_is)
    (case l3 => k_is)
    (case c3 => k_is)
    (case k3 => k_is)
    (case a4 => k_is)
    (case l4 => k_is)
    (case c4 => k_is)
    (case k4 => k_is)
    (case a5 => k_is)
    (case l5 => k_is)
    (case c5 => k_is)
    (case k5 => k_is)
    (case a6 => k_is)
    (case l6 => k_is)
    (case c6 => k_is)
    (case k6 => k_is)
    (case a7 => k_is)
    (case l7 => k_is)
    (case c7 => k_is)
    (case k7 => k_is)
    (case a8 => k_is)
    (case l8 => k_is)
    (case c8 => k_is)
    (case k8 => k_is)
    (case a9 => k_is)
    (case l9 => k_is)
    (case c9 => k_is)
    (case k9 => k_is)
    (case a10 => k_is)
    (case l10 => k_is)
    (case c10 => k_is)
    (case k10 => k_is)
    (case a11 => k_is)
    (case l11 => k_is)
    (case c11 => k_is)
    (case k11 => k_is)
    (case a12 => k_is)
    (case l12 => k_is)
    (case c12 => k_is)
    (case k12 => k_is)
    (case a13 => k_is)
    (case l13 => k_is)
    (case c13 => k_is)
    (case k13 => k_is)
    (case a14 => k_is)
    (case l14 => k_is)
    (case c14 => k_is)
    (case k14 => k_is)
    (case a15 => k_is)
    (case l15 => k_is)
    (case c15 => k_is)
    (case k15 => k_is)
    (case a16 => k_is)
    (case l16 => k_is)
    (case c16 => k_is)
    (case k16 => k_is)
    (case a17 => k_is)
    (case l17 => k_is)
    (case c17 => k_is)
    (case k17 => k_is)
    (case a18 => k_is)
    (case l18 => k_is)
    (case c18 => k_is)
    (case k18 => k_is)
    (case a19 => k_is)
    (case l19 => k_is)
    (case c19 => k_is)
    (case k19 => k_is)
    (case a20 => k_is)
    (case l20 => k_is)
    (case c20 => k_is)
    (case k20 => k_is)
    (case a21 => k_is)
    (case l21 => k_is)
    (case c21 => k_is)
    (case k21 => k_is)
    (case a22 => k_is)
    (case l22 => k_is)
    (case c22 => k_is)
    (case k22 => k_is)
    (case v1 => k_is)
    (case a_NoRule => k_is)
    (case x_NoRule => k_is)
    (case r_NoRule => first | rfl | decide +kernel)
    (case sa_NoRule => k_is)
    (case ga_NoRule => k_is)
    (case gg_NoRule => k_is)
    (case nb_NoRule => k_is)
    (case i_NoRule => k_is)
    (case t_NoRule => k_is)
    (case l_NoRule => k_is)
    (case c_NoRule => k_is)
    (case kf_NoRule => k_is)
    (case kC_NoRule => k_is)
    (case e_NoRule => k_is)
    (case ty_NoRule => k_is)
    (case hd_NoRule => k_is)
    (case is_NoRule => k_is)
    (case ss_NoRule => first | rfl | k_is)
    (case a_NoLetter => k_is)
    (case x_NoLetter => k_is)
    (case r_NoLetter => first | rfl | decide +kernel)
    (case sa_NoLetter => k_is)
    (case ga_NoLetter => k_is)
    (case gg_NoLetter => k_is)
    (case nb_NoLetter => k_is)
    (case i_NoLetter => k_is)
    (case t_NoLetter => k_is)
    (case l_NoLetter => k_is)
    (case c_NoLetter => k_is)
    (case kf_NoLetter => k_is)
    (case kC_NoLetter => k_is)
    (case e_NoLetter => k_is)
    (case ty_NoLetter => k_is)
    (case hd_NoLetter => k_is)
    (case is_NoLetter => k_is)
    (case ss_NoLetter => first | rfl | k_is)
    (case aB_BothError => k_is)
    (case hB_BothError => k_is)
    (case tB_BothError => k_is)
    (case iB_BothError => k_is)
    (case eB_BothError => k_is)
    (case xc1_NoRule => k_is)
    (case xc2_NoRule => k_is)
    (case xc3_NoRule => k_is)
    (case xc4_NoRule => k_is)
    (case xv_NoRule => k_is)
    (case xs_NoRule_BothError => k_is)
    (case xc1_NoLetter => k_is)
    (case xc2_NoLetter => k_is)
    (case xc3_NoLetter => k_is)
    (case xc4_NoLetter => k_is)
    (case xv_NoLetter => k_is)
    (case xs_NoLetter_BothError => k_is)
    (case aS_NoThing => k_is)
    (case hS_NoThing => k_is)
    (case tS_NoThing => k_is)
    (case xn_NoRule_NoThing => k_is)
    (case r_ne_NoRule_NoThing => first | rfl | decide +kernel)
    (case xn_NoRule_NoLetter => k_is)
    (case r_ne_NoRule_NoLetter => first | rfl | decide +kernel)
    (case xn_NoLetter_NoThing => k_is)
    (case r_ne_NoLetter_NoThing => first | rfl | decide +kernel)
    (case xn_NoLetter_NoRule => k_is)
    (case r_ne_NoLetter_NoRule => first | rfl | decide +kernel)
    (case aC_Hand => k_is)
    (case pg_Hand => k_is)
    (case hd_Hand => k_is)
    (case po_Hand => k_is)
    (case sa_Hand => k_is)
    (case mk_Hand => k_is)
    (case kc_Hand => k_is)
    (case n_Hand_thing => k_is)
    (case n_Hand_place => k_is)
    (case n_Hand_wish => k_is)
    (case n_Hand_held => k_is)
    (case n_Hand_tally => k_is)
    (case a_Hand___init___ => k_is)
    (case i_Hand___init__ => k_is)
    (case l_Hand___init__ => k_is)
    (case c_Hand___init__ => k_is)
    (case k_Hand___init__ => k_is)
    (case a_Hand_shares_ => k_is)
    (case i_Hand_shares => k_is)
    (case l_Hand_shares => k_is)
    (case c_Hand_shares => k_is)
    (case k_Hand_shares => k_is)
    (case a_Hand_shared_ => k_is)
    (case i_Hand_shared => k_is)
    (case l_Hand_shared => k_is)
    (case c_Hand_shared => k_is)
    (case k_Hand_shared => k_is)
    (case a_Hand_count_of_ => k_is)
    (case i_Hand_count_of => k_is)
    (case l_Hand_count_of => k_is)
    (case c_Hand_count_of => k_is)
    (case k_Hand_count_of => k_is)
    (case a_Hand_has_leave_ => k_is)
    (case i_Hand_has_leave => k_is)
    (case l_Hand_has_leave => k_is)
    (case c_Hand_has_leave => k_is)
    (case k_Hand_has_leave => k_is)
    (case a_Hand_wished_place_ => k_is)
    (case i_Hand_wished_place => k_is)
    (case l_Hand_wished_place => k_is)
    (case c_Hand_wished_place => k_is)
    (case k_Hand_wished_place => k_is)
    (case a_Hand_lacks_ => k_is)
    (case i_Hand_lacks => k_is)
    (case l_Hand_lacks => k_is)
    (case c_Hand_lacks => k_is)
    (case k_Hand_lacks => k_is)
    (case a_Hand_beat_ => k_is)
    (case i_Hand_beat => k_is)
    (case l_Hand_beat => k_is)
    (case c_Hand_beat => k_is)
    (case k_Hand_beat => k_is)
    (case a_Hand_hear_ => k_is)
    (case i_Hand_hear => k_is)
    (case l_Hand_hear => k_is)
    (case c_Hand_hear => k_is)
    (case k_Hand_hear => k_is)
    (case a_Hand_has_place_ => k_is)
    (case i_Hand_has_place => k_is)
    (case l_Hand_has_place => k_is)
    (case c_Hand_has_place => k_is)
    (case k_Hand_has_place => k_is)
    (case a_Hand_answers_ => k_is)
    (case i_Hand_answers => k_is)
    (case l_Hand_answers => k_is)
    (case c_Hand_answers => k_is)
    (case k_Hand_answers => k_is)
    (case a_Hand_put_ => k_is)
    (case i_Hand_put => k_is)
    (case l_Hand_put => k_is)
    (case c_Hand_put => k_is)
    (case k_Hand_put => k_is)
    (case a_Hand_drop_ => k_is)
    (case i_Hand_drop => k_is)
    (case l_Hand_drop => k_is)
    (case c_Hand_drop => k_is)
    (case k_Hand_drop => k_is)
    (case z1 => k_is)
    (case z2 => k_is)
    (case z3 => k_is)
    (case z4 => k_is)
    (case z5 => k_is)
    (case z6 => k_is)
    (case z7 => k_is)
    (case z8 => k_is)
    (case z9 => k_is)
    (case z10 => k_is)
    (case z11 => k_is)
    (case z12 => k_is)
    (case z13 => k_is)
    (case z14 => k_is)
    (case z15 => k_is)
    (case z16 => k_is)
    (case z17 => k_is)
    (case tc1 => rfl)
    (case tL1 => k_is)
    (case tV1 => first | rfl | decide +kernel)
    (case tN1 => first | k_is | rfl | decide +kernel)
    (case tH1 => first | k_is | rfl | decide +kernel)
    (case tc2 => rfl)
    (case tL2 => k_is)
    (case tV2 => first | rfl | decide +kernel)
    (case tN2 => first | k_is | rfl | decide +kernel)
    (case tH2 => first | k_is | rfl | decide +kernel)
    (case r_np => first | rfl | decide +kernel)
    (case hTab1 => exact PySem.W.km_tabs_of Y _ (by decide +kernel))
    (case hTab2 => exact PySem.W.km_tabs_of Y _ (by decide +kernel))
