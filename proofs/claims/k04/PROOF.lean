import PyProof.Rows.All
import Wide.All
import OpenK.AllK
import Wide.FinOn
import HandS.Base
import HandS.Call
import HandS.List
import HandS.Comp
import HandS.Ends
import HandS.Dict
import HandS.Iter
import HandS.Text
import HandS.Words
import HandS.WordsList
import HandS.WordsDict
import HandS.Wide
import HandS.Zip
import HandS.Flow
import HandS.Flt
import KE.GoesMore
import KE.KDictZip
import PyProof.ReprRoads
import HandS.Walk
import PyProof.TupleOfSeq
import HandS.TupAny
import HandS.Codes
import PyProof.ReprLen
import PySem.Challenge.RW_notbothout_k04_far_middle_between
set_option Elab.async false
set_option linter.all false
set_option maxRecDepth 100000
/-! Defs whose callers are known to show nothing (guards empty): what repr wants. -/
namespace NB
open PySem PySem.Spec PyProof.Rows L2

/-- a def's promise, wherever nothing is being shown around it -/
structure FnG (P : Program) (w : World) (K : PySem.W.Frag) (mg : Str → Option Value) (base : Heap) (k : Nat) (f : Addr) (fd : FuncData) (ps : List Str) (sp : Sp) : Prop where
  len : ∀ vs H Q E, sp vs H Q E → vs.length = ps.length
  go : ∀ (A : Around) (out : List Env) (s : Shared) (H : Hp) (ar : Args) (us : List Value) (vs : List V) (Q : VK) (E : XK),
    A.guards = some [] → Room k A → Env0 P w K mg base A out s H → BindsTo s fd ar (ps.zip us) → Vals vs us → sp vs H Q E →
    codeAny (model P w) A (.call (.ref f) ar) (CR CX0 out P w H s Q E) s

section
variable {P : Program} {w : World} {K : PySem.W.Frag} {mg : Str → Option Value} {base : Heap}

theorem FnG.of {k : Nat} {f : Addr} {fd : FuncData} {ps : List Str} {sp : Sp} (F : FnOk P w K mg base CX0 k f fd ps sp) : FnG P w K mg base k f fd ps sp :=
  ⟨F.len, fun A out s H ar us vs Q E _ => F.run A out s H ar us vs Q E⟩

theorem fnG {x qual : Str} {st : Stmt} {f : Addr} {fd : FuncData} {N ps : List Str} {k : Nat} {sp : Sp} (F : Fun K x qual st f fd)
    (S : FnScope N ps (defScope st)) (len : ∀ vs H Q E, sp vs H Q E → vs.length = ps.length)
    (body : ∀ (c : Value) (A : Around) (out : List Env) (s : Shared) (H : Hp) (vs : List V) (Q : VK) (E : XK),
      A.guards = some [] → Room k (A.deeper (envOfC qual (defScope st) s.heap.objs.size f c)) → sp vs H Q E →
      ∃ t, PSs (cxOf CX0 P w K mg base N qual (defScope st) f c A out s H E).nox (defBody st) t ∧
        t { nx := fun _ H' => Q .non H', rt := Q } (start N vs) H) :
    FnG P w K mg base (k + 1) f fd ps sp := by
  obtain ⟨oc, od, kV, doc, pm, an, c, ct, osl, rfl, lk, hc⟩ := F.ex
  refine ⟨len, fun A out s H ar us vs Q E hg hr e hb r h => ?_⟩
  have stays : ∀ b o, base.get? b = some o → s.heap.get? b = some o := fun b o q => (e.bs b o q).1
  have inH : K.In s.heap := e.mod.kin.keeps stays
  have noLim : s.heap.NoLimit := e.mod.nolimit.keeps stays
  have kinds : ∀ y ∈ ps.zip us, (defScope st).names.lookup y.1 = some .local ∨
      ((defScope st).names.lookup y.1 = some .cell ∧ ((cellsFrom (s.heap.objs.size + 1) (defScope st).names []).lookup y.1).isSome = true) := by
    intro y hy
    obtain ⟨n, v⟩ := y
    cases S.par n (List.of_mem_zip hy).1 with
    | inl q => exact .inl q
    | inr q => exact .inr ⟨q, PySem.W.cellsFrom_some _ _ _ (.inl q)⟩
  refine codeAny_call_function hr.depth (inH _ _ lk) rfl S.co S.gen rfl (PySem.W.codeRec_of inH hc) (hb _ _ _ _ ?_)
  refine wpAny_newFunctionEnv_cells S.kind kinds ?_
  rintro env rfl s1 x
  refine ⟨noLim.keeps x.toInCall.keep, codeAny_func ?_⟩
  obtain ⟨t, ht, hq⟩ := body c A out s H vs Q E hg (hr.deeper _) h
  have I := inv_start (CX := CX0) (E := E) S hr.hd e (len _ _ _ _ h) r x
  refine wpAny_mono (ht.nox.run [] s1 (start N vs) H _ I hq) ?_ fun _ _ z => z
  intro fl s' z
  cases fl with
  | ret u =>
    obtain ⟨v, σ', H', J, rv, q⟩ := z
    exact ⟨v, H', J.os, J.bare, J.base, J.hok, rv, q⟩
  | next =>
    obtain ⟨σ', H', J, q⟩ := z
    exact ⟨V.non, H', J.os, J.bare, J.base, J.hok, rfl, q⟩
  | brk => exact False.elim z.choose_spec.choose_spec.2
  | cont => exact False.elim z.choose_spec.choose_spec.2
end

section
variable {X : Cx} {k : Nat} {f : Addr} {fd : FuncData} {ps : List Str} {sp : Sp} {x : Str} {p pos : Pos} {e : Expr} {es : List Expr} {t : TA}
/-- f(..) of such a def, all arguments written -/
theorem pe_callG (hG : X.A.guards = some []) (F : FnG X.prog X.w X.K X.mg X.base k f fd ps sp) (hr : Room k X.A) (hg : Gl X x) (hm : X.mg x = some (.ref f))
    (hk : PySem.W.keepIn X.K (.ref f) = true) (hb : Binds X.K fd ps []) (ha : PA X (e :: es) t) (hdb : (x == ("__debug__" : Str)) = false := by decide)
    (he : starEach (e :: es) X.env = (false, eval e X.env) :: starEach es X.env := by rfl) (hpl : (backTo pos (starEach es X.env)).any (·.1) = false := by rfl) :
    PE X (.Call (.Name x p) (e :: es) [] pos) (tCall sp [] E0 t) := by
  refine ⟨fun pins s σ H Q I h => wpAny_Call_Name_kw (ld_glob I hg hm ?_ hdb)⟩
  refine PySem.W.callWith_K (h₀ := X.base) I.ok.mod.kin hk (thn (ha.run pos pins s σ H _ I h) ?_) he hpl
  rintro us s1 ⟨vs, H1, I1, r, q⟩
  refine ⟨I1.kIn, wpAny_call ?_⟩
  have q2 : sp vs H1 Q E0 := by
    have q' : sp (vs ++ []) H1 Q E0 := q
    rwa [List.append_nil] at q'
  have ln : us.length = ps.length := r.length.symm.trans (F.len _ _ _ _ q2)
  have bnd : BindsTo s1 fd ⟨us, []⟩ (ps.zip us) := by
    have b := hb s1 us I1.kIn (by rw [List.append_nil]; exact ln)
    rwa [List.append_nil] at b
  refine codeAny_mono (F.go X.A X.stack s1 H1 ⟨us, []⟩ us vs Q E0 hG hr I1.env0 bnd r q2) ?_
  intro rs s' z
  cases rs with
  | error e => exact False.elim z
  | ok fl =>
    cases fl with
    | ret u => exact I1.after z
    | next => exact False.elim z
    | brk => exact False.elim z
    | cont => exact False.elim z
end

section
variable {X : Cx}
/-- what repr asks of data -/
structure Showable (d : PyData) : Prop where
  sh : d.showable = true
  nd : d.hasDict = false
  dp : d.depth ≤ 60
  sz : d.shown.length ≤ sizeLine
/-- repr(x), x a list or a tuple of data -/
theorem call_reprD (hG : X.A.guards = some []) (hu : X.A.units + 64 < cLine) : CallR X (.builtin "repr") (fun xs H Q => ∃ a d, xs = [.ref a] ∧ Dp X.K H (.ref a) d ∧ Showable d ∧ Q (.str d.shown) H) := by
  intro pins s σ H xs us Q I r h
  obtain ⟨a, d, rfl, hd, S, q⟩ := h
  obtain ⟨u, rfl, ru⟩ := vals1 r
  obtain ⟨as, rd⟩ := Dp.reads I d _ u hd ru
  cases ru
  have hn := S.dp
  exact repr_of_reads' rd S.sh (PyData.noDict_hsm S.nd) hG (by omega) (fun _ _ z => z) (fun h' u tk hk => ⟨.str _, H, I.kept hk, ⟨_, rfl⟩, q⟩) S.sz
end
end NB

set_option Elab.async false
set_option linter.all false
set_option maxRecDepth 100000
set_option maxHeartbeats 1000000
/-! zip of three tuples of one length, its turns given to one name or to three. -/
namespace NB
open PySem PySem.Spec PyProof.Rows L2
open PySem.Sem (wp)

/-- a zip as it stands between two turns: a is None or the tuple given out last -/
abbrev Zat (h : Heap) (z ti to : Addr) (a b : Value) : Prop :=
  h.get? z = some { cls := .type "zip", dict := none, data := .fields #[a, b, .bool false, .ref ti, .ref to], slots := #[] }
def Out (a : Value) : Prop := a = .none ∨ ∃ T : Addr, a = rawInt T

section
variable {prog : Program} {w : World} {A : Around} {E : Value → Shared → Prop} {s : Shared} {z ti to i1 i2 i3 l1 l2 l3 : Addr} {a a1 a2 a3 : Value} {f : Bool} {xs ys zs : Array Value} {i : Nat}

theorem freeOr {Q : Bool → Shared → Prop} (ho : Out a) (hz : Zat s.heap z ti to a (.bool f))
    (h : ∀ (b : Bool) (h' : Heap) (g : Bool), Zat h' z ti to a (.bool g) → Heap.SameBut z s.heap h' → Q b { s with heap := h' }) :
    wpAny (model prog w) A (Builtin.SmallTypes.ownedTupleIsFree (.ref z)) Q E s := by
  unfold Builtin.SmallTypes.ownedTupleIsFree
  refine wpAny_bind (wpAny_field hz rfl (x := a) rfl ?_)
  rcases ho with e | ⟨T, e⟩
  · subst e
    exact wpAny_pure (h true s.heap f hz (Heap.SameBut.refl _ _))
  · subst e
    show wpAny _ _ (loadIfAlive ((T : Int).toNat) >>= _) _ _ _
    rw [Int.toNat_natCast]
    refine wpAny_bind ?_
    cases e : s.heap.get? T with
    | none =>
      have key : wpAny (model prog w) A (loadIfAlive T) (fun r s' => r = none ∧ s' = s) E s := fun _ _ _ => ⟨e, rfl⟩
      refine thn key fun r s' q => ?_
      obtain ⟨rfl, rfl⟩ := q
      exact wpAny_pure (h true _ f hz (Heap.SameBut.refl _ _))
    | some o =>
      refine PySem.W.kdx_alive e ?_
      simp only [Option.isNone_some, Bool.false_eq_true, if_false]
      refine wpAny_bind (wpAny_field hz rfl (x := .bool f) rfl ?_)
      cases f with
      | true =>
        rw [if_neg (show ¬ ((Value.bool true != Value.bool true) = true) by decide)]
        exact wpAny_pure (h false s.heap true hz (Heap.SameBut.refl _ _))
      | false =>
        rw [if_pos (show (Value.bool false != Value.bool true) = true by decide)]
        exact wpAny_bind (wpAny_setField_rec hz (by simp) fun h1 z1 s1 => wpAny_pure (h false h1 true z1 s1))

/-- the three iterators over their tuples at turn i, apart from the zip's own cells -/
abbrev St3 (h : Heap) (i1 i2 i3 l1 l2 l3 : Addr) (xs ys zs : Array Value) (i : Nat) : Prop :=
  (h.IsTupleIter i1 l1 i ∧ h.IsTuple l1 xs) ∧ (h.IsTupleIter i2 l2 i ∧ h.IsTuple l2 ys) ∧ (h.IsTupleIter i3 l3 i ∧ h.IsTuple l3 zs)

theorem keepIt {h h' : Heap} {it l : Addr} {k : Nat} {vs : Array Value} (st : h.IsTupleIter it l k ∧ h.IsTuple l vs) {x : Addr} (hs : Heap.SameBut x h h') (n1 : it ≠ x) (n2 : l ≠ x) : h'.IsTupleIter it l k ∧ h'.IsTuple l vs :=
  ⟨st.1.extBut hs.extBut n1, st.2.extBut hs.extBut n2⟩

structure Far3 (z ti to i1 i2 i3 l1 l2 l3 : Addr) : Prop where
  tiz : ti ≠ z
  toz : to ≠ z
  tito : ti ≠ to
  ti1 : ti ≠ i1
  ti2 : ti ≠ i2
  ti3 : ti ≠ i3
  to1 : to ≠ i1
  to2 : to ≠ i2
  to3 : to ≠ i3
  z1 : i1 ≠ z
  z2 : i2 ≠ z
  z3 : i3 ≠ z
  n12 : i1 ≠ i2
  n13 : i1 ≠ i3
  n23 : i2 ≠ i3
  l1n : l1 ≠ z ∧ l1 ≠ to ∧ l1 ≠ i1 ∧ l1 ≠ i2 ∧ l1 ≠ i3
  l2n : l2 ≠ z ∧ l2 ≠ to ∧ l2 ≠ i1 ∧ l2 ≠ i2 ∧ l2 ≠ i3
  l3n : l3 ≠ z ∧ l3 ≠ to ∧ l3 ≠ i1 ∧ l3 ≠ i2 ∧ l3 ≠ i3

theorem drawT {it l : Addr} {k : Nat} {vs : Array Value} {x : Value} {Q : Value → Shared → Prop} (st : s.heap.IsTupleIter it l k ∧ s.heap.IsTuple l vs) (ne : l ≠ it) (hx : vs[k]? = some x)
    (h : ∀ h', (h'.IsTupleIter it l (k + 1) ∧ h'.IsTuple l vs) → Heap.SameBut it s.heap h' → Q x { s with heap := h' }) :
    wpAny (model prog w) A (Builtin.SmallTypes.nextOf (.ref it)) Q E s :=
  RZ.nextOf_tuple_item st.1 st.2 hx fun h' q1 q2 => h h' ⟨q1, st.2.extBut q2.extBut ne⟩ q2

theorem next3 {x1 x2 x3 : Value} {Q : Value → Shared → Prop} (D : Far3 z ti to i1 i2 i3 l1 l2 l3) (ho : Out a) (hz : Zat s.heap z ti to a (.bool f))
    (hI : IsTupOf3 s.heap ti (.ref i1) (.ref i2) (.ref i3)) (hO : IsTupOf3 s.heap to a1 a2 a3) (st : St3 s.heap i1 i2 i3 l1 l2 l3 xs ys zs i)
    (hx : xs[i]? = some x1) (hy : ys[i]? = some x2) (hw : zs[i]? = some x3)
    (hQ : ∀ (h' : Heap) (a' : Value) (g : Bool) (b1 b2 b3 : Value), Out a' → Zat h' z ti to a' (.bool g) → IsTupOf3 h' to b1 b2 b3 → St3 h' i1 i2 i3 l1 l2 l3 xs ys zs (i + 1) → IsTupOf3 h' s.heap.objs.size x1 x2 x3 → h'.objs.size = s.heap.objs.size + 1 →
      (∀ c o, c ≠ z → c ≠ to → c ≠ i1 → c ≠ i2 → c ≠ i3 → s.heap.get? c = some o → h'.get? c = some o) → Q (.ref s.heap.objs.size) { s with heap := h' }) :
    wpAny (model prog w) A (Builtin.«zip.__next__» ⟨[.ref z], []⟩) (fun fin s' => ∃ v, fin = .done (.ret v) ∧ Q v s') E s := by
  obtain ⟨hp, gg, dd, tk, os⟩ := s
  show wpAny _ _ (field (.ref z) 2 >>= _) _ _ _
  refine wpAny_bind (wpAny_field hz rfl (x := .bool false) rfl ?_)
  show wpAny _ _ (field (.ref z) 3 >>= _) _ _ _
  refine wpAny_bind (wpAny_field hz rfl (x := .ref ti) rfl ?_)
  refine wpAny_bind (wpAny_seqItems hI rfl ?_)
  show wpAny _ _ (Builtin.SmallTypes.ownedTupleIsFree (.ref z) >>= _) _ _ _
  refine wpAny_bind (freeOr ho hz fun b h1 f1 hz1 hs1 => ?_)
  replace hs1 : Heap.SameBut z hp h1 := hs1
  obtain ⟨sa, sb, sc⟩ := st
  have sa1 := keepIt sa hs1 D.z1 D.l1n.1
  have sb1 := keepIt sb hs1 D.z2 D.l2n.1
  have sc1 := keepIt sc hs1 D.z3 D.l3n.1
  have hO1 : IsTupOf3 h1 to a1 a2 a3 := hs1.extBut _ _ D.toz hO
  cases b with
  | false =>
    simp only [Bool.false_eq_true, if_false]
    refine wpAny_bind ?_
    rw [← Array.forIn_toList]
    simp only [List.forIn_cons, List.forIn_nil]
    refine wpAny_bind (wpAny_bind (wpAny_holding ?_))
    show wpAny _ _ (Builtin.SmallTypes.nextOf (.ref i1) >>= _) _ _ ⟨h1, gg, dd, tk, os⟩
    refine wpAny_bind (drawT (s := ⟨h1, gg, dd, tk, os⟩) sa1 D.l1n.2.2.1 hx fun h2 sa2 hs2 => wpAny_pure (wpAny_pure ?_))
    replace hs2 : Heap.SameBut i1 h1 h2 := hs2
    have sb2 := keepIt sb1 hs2 D.n12.symm D.l2n.2.2.1
    have sc2 := keepIt sc1 hs2 D.n13.symm D.l3n.2.2.1
    refine wpAny_bind (wpAny_bind (wpAny_holding ?_))
    show wpAny _ _ (Builtin.SmallTypes.nextOf (.ref i2) >>= _) _ _ ⟨h2, gg, dd, tk, os⟩
    refine wpAny_bind (drawT (s := ⟨h2, gg, dd, tk, os⟩) sb2 D.l2n.2.2.2.1 hy fun h3 sb3 hs3 => wpAny_pure (wpAny_pure ?_))
    replace hs3 : Heap.SameBut i2 h2 h3 := hs3
    have sa3 := keepIt sa2 hs3 D.n12 D.l1n.2.2.2.1
    have sc3 := keepIt sc2 hs3 D.n23.symm D.l3n.2.2.2.1
    refine wpAny_bind (wpAny_bind (wpAny_holding ?_))
    show wpAny _ _ (Builtin.SmallTypes.nextOf (.ref i3) >>= _) _ _ ⟨h3, gg, dd, tk, os⟩
    refine wpAny_bind (drawT (s := ⟨h3, gg, dd, tk, os⟩) sc3 D.l3n.2.2.2.2 hw fun h4 sc4 hs4 => wpAny_pure (wpAny_pure (wpAny_pure ?_)))
    replace hs4 : Heap.SameBut i3 h3 h4 := hs4
    have sa4 := keepIt sa3 hs4 D.n13 D.l1n.2.2.2.2
    have sb4 := keepIt sb3 hs4 D.n23 D.l2n.2.2.2.2
    show wpAny _ _ (newTuple [x1, x2, x3] >>= _) _ _ ⟨h4, gg, dd, tk, os⟩
    refine wpAny_bind (wpAny_newTuple (wpAny_pure ⟨_, rfl, ?_⟩))
    have sz : h4.objs.size = hp.objs.size := by rw [hs4.1, hs3.1, hs2.1, hs1.1]
    have kk : ∀ c o, c ≠ z → c ≠ i1 → c ≠ i2 → c ≠ i3 → hp.get? c = some o → h4.get? c = some o := fun c o c0 c1 c2 c3 e =>
      hs4.extBut _ _ c3 (hs3.extBut _ _ c2 (hs2.extBut _ _ c1 (hs1.extBut _ _ c0 e)))
    have hz4 : Zat h4 z ti to a (.bool f1) := hs4.extBut _ _ D.z3.symm (hs3.extBut _ _ D.z2.symm (hs2.extBut _ _ D.z1.symm hz1))
    have hO4 : IsTupOf3 h4 to a1 a2 a3 := kk _ _ D.toz D.to1 D.to2 D.to3 hO
    have up : ∀ c o, h4.get? c = some o → (h4.push { cls := .type "tuple", data := .seq #[x1, x2, x3] }).get? c = some o := fun c o e => Heap.get?_push_of_some _ e
    have nw : IsTupOf3 (h4.push { cls := .type "tuple", data := .seq #[x1, x2, x3] }) h4.objs.size x1 x2 x3 := Heap.get?_push_size _ rfl
    have zw : (h4.push { cls := .type "tuple", data := .seq #[x1, x2, x3] }).objs.size = h4.objs.size + 1 := Heap.size_push ..
    show Q (.ref h4.objs.size) _
    rw [sz] at nw zw ⊢
    exact hQ _ a f1 a1 a2 a3 ho (up _ _ hz4) (up _ _ hO4)
      ⟨⟨sa4.1.at fun o e => up _ o e, sa4.2.push _⟩, ⟨sb4.1.at fun o e => up _ o e, sb4.2.push _⟩, ⟨sc4.1.at fun o e => up _ o e, sc4.2.push _⟩⟩ nw zw
      fun c o c0 _ c1 c2 c3 e => up c o (kk c o c0 c1 c2 c3 e)
  | true =>
    simp only [if_true]
    refine wpAny_bind (wpAny_rule ?_)
    refine wpAny_bind (wpAny_field (s := ⟨h1, gg, dd, tk, os⟩) hz1 rfl (x := .ref to) rfl ?_)
    refine wpAny_bind (wpAny_setField_rec (s := ⟨h1, gg, dd, tk, os⟩) hz1 (by simp) fun g0 z0 s0 => ?_)
    replace z0 : Zat g0 z ti to .ellipsis (.bool f1) := z0
    replace s0 : Heap.SameBut z h1 g0 := s0
    have ta0 := keepIt sa1 s0 D.z1 D.l1n.1
    have tb0 := keepIt sb1 s0 D.z2 D.l2n.1
    have tc0 := keepIt sc1 s0 D.z3 D.l3n.1
    have o0 : IsTupOf3 g0 to a1 a2 a3 := s0.extBut _ _ D.toz hO1
    refine wpAny_bind ?_
    simp only [List.zipIdx_cons, List.zipIdx_nil, List.forIn_cons, List.forIn_nil]
    refine wpAny_bind (wpAny_bind (wpAny_onRaise ?_))
    show wpAny _ _ (Builtin.SmallTypes.nextOf (.ref i1) >>= _) _ _ ⟨g0, gg, dd, tk, os⟩
    refine wpAny_bind (drawT (s := ⟨g0, gg, dd, tk, os⟩) ta0 D.l1n.2.2.1 hx fun p1 ta1 s1 => wpAny_pure ?_)
    replace s1 : Heap.SameBut i1 g0 p1 := s1
    have o1 : IsTupOf3 p1 to a1 a2 a3 := s1.extBut _ _ D.to1 o0
    refine wpAny_bind (wpAny_seqItems (s := ⟨p1, gg, dd, tk, os⟩) o1 rfl ?_)
    refine wpAny_bind (updateSeq_IsTupOf3 (s := ⟨p1, gg, dd, tk, os⟩) o1 fun q1 u1 r1 => wpAny_bind (wpAny_letGo (wpAny_pure ?_)))
    replace u1 : IsTupOf3 q1 to x1 a2 a3 := u1
    replace r1 : Heap.SameBut to p1 q1 := r1
    have ta2 := keepIt ta1 r1 D.to1.symm D.l1n.2.1
    have tb2 := keepIt (keepIt tb0 s1 D.n12.symm D.l2n.2.2.1) r1 D.to2.symm D.l2n.2.1
    have tc2 := keepIt (keepIt tc0 s1 D.n13.symm D.l3n.2.2.1) r1 D.to3.symm D.l3n.2.1
    refine wpAny_bind (wpAny_bind (wpAny_onRaise ?_))
    show wpAny _ _ (Builtin.SmallTypes.nextOf (.ref i2) >>= _) _ _ ⟨q1, gg, dd, tk, os⟩
    refine wpAny_bind (drawT (s := ⟨q1, gg, dd, tk, os⟩) tb2 D.l2n.2.2.2.1 hy fun p2 tb3 s2 => wpAny_pure ?_)
    replace s2 : Heap.SameBut i2 q1 p2 := s2
    have o2 : IsTupOf3 p2 to x1 a2 a3 := s2.extBut _ _ D.to2 u1
    refine wpAny_bind (wpAny_seqItems (s := ⟨p2, gg, dd, tk, os⟩) o2 rfl ?_)
    refine wpAny_bind (updateSeq_IsTupOf3 (s := ⟨p2, gg, dd, tk, os⟩) o2 fun q2 u2 r2 => wpAny_bind (wpAny_letGo (wpAny_pure ?_)))
    replace u2 : IsTupOf3 q2 to x1 x2 a3 := u2
    replace r2 : Heap.SameBut to p2 q2 := r2
    have ta4 := keepIt (keepIt ta2 s2 D.n12 D.l1n.2.2.2.1) r2 D.to1.symm D.l1n.2.1
    have tb4 := keepIt tb3 r2 D.to2.symm D.l2n.2.1
    have tc4 := keepIt (keepIt tc2 s2 D.n23.symm D.l3n.2.2.2.1) r2 D.to3.symm D.l3n.2.1
    refine wpAny_bind (wpAny_bind (wpAny_onRaise ?_))
    show wpAny _ _ (Builtin.SmallTypes.nextOf (.ref i3) >>= _) _ _ ⟨q2, gg, dd, tk, os⟩
    refine wpAny_bind (drawT (s := ⟨q2, gg, dd, tk, os⟩) tc4 D.l3n.2.2.2.2 hw fun p3 tc5 s3 => wpAny_pure ?_)
    replace s3 : Heap.SameBut i3 q2 p3 := s3
    have o3 : IsTupOf3 p3 to x1 x2 a3 := s3.extBut _ _ D.to3 u2
    refine wpAny_bind (wpAny_seqItems (s := ⟨p3, gg, dd, tk, os⟩) o3 rfl ?_)
    refine wpAny_bind (updateSeq_IsTupOf3 (s := ⟨p3, gg, dd, tk, os⟩) o3 fun q3 u3 r3 => wpAny_bind (wpAny_letGo (wpAny_pure (wpAny_pure ?_))))
    replace u3 : IsTupOf3 q3 to x1 x2 x3 := u3
    replace r3 : Heap.SameBut to p3 q3 := r3
    have ta6 := keepIt (keepIt ta4 s3 D.n13 D.l1n.2.2.2.2) r3 D.to1.symm D.l1n.2.1
    have tb6 := keepIt (keepIt tb4 s3 D.n23 D.l2n.2.2.2.2) r3 D.to2.symm D.l2n.2.1
    have tc6 := keepIt tc5 r3 D.to3.symm D.l3n.2.1
    refine wpAny_bind (wpAny_seqItems (s := ⟨q3, gg, dd, tk, os⟩) u3 rfl (wpAny_bind (wpAny_newTuple ?_)))
    have sz : q3.objs.size = hp.objs.size := by rw [r3.1, s3.1, r2.1, s2.1, r1.1, s1.1, s0.1, hs1.1]
    have hz3 : Zat q3 z ti to .ellipsis (.bool f1) := r3.extBut _ _ D.toz.symm (s3.extBut _ _ D.z3.symm (r2.extBut _ _ D.toz.symm (s2.extBut _ _ D.z2.symm (r1.extBut _ _ D.toz.symm (s1.extBut _ _ D.z1.symm z0)))))
    have kk : ∀ c o, c ≠ z → c ≠ to → c ≠ i1 → c ≠ i2 → c ≠ i3 → hp.get? c = some o → q3.get? c = some o := fun c o c0 ct c1 c2 c3 e =>
      r3.extBut _ _ ct (s3.extBut _ _ c3 (r2.extBut _ _ ct (s2.extBut _ _ c2 (r1.extBut _ _ ct (s1.extBut _ _ c1 (s0.extBut _ _ c0 (hs1.extBut _ _ c0 e)))))))
    have zlt : z < q3.objs.size := Heap.lt_size hz3
    show wpAny _ _ (Builtin.SmallTypes.ownedTupleHandOut (.ref z) (.ref q3.objs.size) >>= _) _ _ ⟨q3.push { cls := .type "tuple", data := .seq #[x1, x2, x3] }, gg, dd, tk, os⟩
    refine wpAny_bind ?_
    unfold Builtin.SmallTypes.ownedTupleHandOut
    have z5 : Zat (q3.push { cls := .type "tuple", data := .seq #[x1, x2, x3] }) z ti to .ellipsis (.bool f1) := Heap.get?_push_of_some _ hz3
    refine wpAny_bind (wpAny_setField_rec z5 (by simp) fun h7 z7 s7 => ?_)
    replace z7 : Zat h7 z ti to (rawInt q3.objs.size) (.bool f1) := z7
    replace s7 : Heap.SameBut z (q3.push { cls := .type "tuple", data := .seq #[x1, x2, x3] }) h7 := s7
    refine wpAny_setField_rec z7 (by simp) fun h8 z8 s8 => ?_
    replace z8 : Zat h8 z ti to (rawInt q3.objs.size) (.bool false) := z8
    replace s8 : Heap.SameBut z h7 h8 := s8
    have up : ∀ c o, c ≠ z → q3.get? c = some o → h8.get? c = some o := fun c o c1 e => s8.extBut _ _ c1 (s7.extBut _ _ c1 (Heap.get?_push_of_some _ e))
    have nw : IsTupOf3 h8 q3.objs.size x1 x2 x3 := s8.extBut _ _ (Nat.ne_of_gt zlt) (s7.extBut _ _ (Nat.ne_of_gt zlt) (Heap.get?_push_size _ rfl))
    have zw : h8.objs.size = q3.objs.size + 1 := by rw [s8.1, s7.1, Heap.size_push]
    have fin : ∀ {it l : Addr} {k : Nat} {vs : Array Value}, (q3.IsTupleIter it l k ∧ q3.IsTuple l vs) → it ≠ z → l ≠ z → h8.IsTupleIter it l k ∧ h8.IsTuple l vs := fun {it l k vs} st n1 n2 =>
      keepIt (keepIt ⟨st.1.at fun o e => Heap.get?_push_of_some _ e, st.2.push _⟩ s7 n1 n2) s8 n1 n2
    refine wpAny_pure ⟨_, rfl, ?_⟩
    show Q (.ref q3.objs.size) _
    rw [sz] at nw zw z8 ⊢
    exact hQ h8 _ false x1 x2 x3 (.inr ⟨_, rfl⟩) z8 (up _ _ D.toz u3) ⟨fin ta6 D.z1 D.l1n.1, fin tb6 D.z2 D.l2n.1, fin tc6 D.z3 D.l3n.1⟩ nw zw
      fun c o c0 ct c1 c2 c3 e => up c o c0 (kk c o c0 ct c1 c2 c3 e)

theorem end3 {Q : Fin → Shared → Prop} (hh : A.handled = none) (D : Far3 z ti to i1 i2 i3 l1 l2 l3) (ho : Out a) (hz : Zat s.heap z ti to a (.bool f))
    (hI : IsTupOf3 s.heap ti (.ref i1) (.ref i2) (.ref i3)) (st : s.heap.IsTupleIter i1 l1 i ∧ s.heap.IsTuple l1 xs) (hx : xs[i]? = none)
    (hE : ∀ h' e, (∀ c o, c ≠ z → c ≠ to → c ≠ i1 → c ≠ i2 → c ≠ i3 → s.heap.get? c = some o → h'.get? c = some o) → (∃ o, h'.get? e = some o ∧ o.cls = .type "StopIteration") → E (.ref e) { s with heap := h' }) :
    wpAny (model prog w) A (Builtin.«zip.__next__» ⟨[.ref z], []⟩) Q E s := by
  obtain ⟨hp, gg, dd, tk, os⟩ := s
  show wpAny _ _ (field (.ref z) 2 >>= _) _ _ _
  refine wpAny_bind (wpAny_field hz rfl (x := .bool false) rfl ?_)
  show wpAny _ _ (field (.ref z) 3 >>= _) _ _ _
  refine wpAny_bind (wpAny_field hz rfl (x := .ref ti) rfl ?_)
  refine wpAny_bind (wpAny_seqItems hI rfl ?_)
  show wpAny _ _ (Builtin.SmallTypes.ownedTupleIsFree (.ref z) >>= _) _ _ _
  refine wpAny_bind (freeOr ho hz fun b h1 f1 hz1 hs1 => ?_)
  replace hs1 : Heap.SameBut z hp h1 := hs1
  have sa1 := keepIt st hs1 D.z1 D.l1n.1
  cases b with
  | false =>
    simp only [Bool.false_eq_true, if_false]
    refine wpAny_bind ?_
    rw [← Array.forIn_toList]
    simp only [List.forIn_cons, List.forIn_nil]
    refine wpAny_bind (wpAny_bind (wpAny_holding ?_))
    show wpAny _ _ (Builtin.SmallTypes.nextOf (.ref i1) >>= _) _ _ ⟨h1, gg, dd, tk, os⟩
    refine wpAny_bind (RZ.nextOf_tuple_end (s := ⟨h1, gg, dd, tk, os⟩) hh sa1.1 sa1.2 hx fun h2 e hs2 he => ?_)
    exact hE h2 e (fun c o c0 _ c1 _ _ q => hs2 _ _ c1 (hs1.extBut _ _ c0 q)) he
  | true =>
    simp only [if_true]
    refine wpAny_bind (wpAny_rule ?_)
    refine wpAny_bind (wpAny_field (s := ⟨h1, gg, dd, tk, os⟩) hz1 rfl (x := .ref to) rfl ?_)
    refine wpAny_bind (wpAny_setField_rec (s := ⟨h1, gg, dd, tk, os⟩) hz1 (by simp) fun g0 z0 s0 => ?_)
    replace z0 : Zat g0 z ti to .ellipsis (.bool f1) := z0
    replace s0 : Heap.SameBut z h1 g0 := s0
    have ta0 := keepIt sa1 s0 D.z1 D.l1n.1
    refine wpAny_bind ?_
    simp only [List.zipIdx_cons, List.zipIdx_nil, List.forIn_cons, List.forIn_nil]
    refine wpAny_bind (wpAny_bind (wpAny_onRaise ?_))
    show wpAny _ _ (Builtin.SmallTypes.nextOf (.ref i1) >>= _) _ _ ⟨g0, gg, dd, tk, os⟩
    refine wpAny_bind (RZ.nextOf_tuple_end (s := ⟨g0, gg, dd, tk, os⟩) hh ta0.1 ta0.2 hx fun h2 e hs2 he => ?_)
    obtain ⟨oe, hoe, hce⟩ := he
    replace hs2 : Heap.ExtBut i1 g0 h2 := hs2
    replace hoe : h2.get? e = some oe := hoe
    have z2 : Zat h2 z ti to .ellipsis (.bool f1) := hs2 _ _ D.z1.symm z0
    have ne : e ≠ z := fun q => by subst q; rw [z2] at hoe; cases hoe; simp at hce
    refine wpAny_setField_rec (s := ⟨h2, gg, dd, tk, os⟩) z2 (by simp) fun h3 _ s3 => ?_
    replace s3 : Heap.SameBut z h2 h3 := s3
    exact hE h3 e (fun c o c0 _ c1 _ _ q => s3.extBut _ _ c0 (hs2 _ _ c1 (s0.extBut _ _ c0 (hs1.extBut _ _ c0 q)))) ⟨oe, s3.extBut _ _ ne hoe, hce⟩
end
end NB

set_option Elab.async false
set_option linter.all false
set_option maxRecDepth 100000
set_option maxHeartbeats 1000000
namespace NB
open PySem PySem.Spec PyProof.Rows L2

section
variable {prog : Program} {w : World} {A : Around} {E : Value → Shared → Prop} {s : Shared} {z ti to i1 i2 i3 l1 l2 l3 : Addr} {a a1 a2 a3 : Value} {f : Bool} {xs ys zs : Array Value} {i : Nat}

theorem pyNext3 {x1 x2 x3 : Value} {Q : Option Value → Shared → Prop} (D : Far3 z ti to i1 i2 i3 l1 l2 l3) (ho : Out a) (hz : Zat s.heap z ti to a (.bool f))
    (hI : IsTupOf3 s.heap ti (.ref i1) (.ref i2) (.ref i3)) (hO : IsTupOf3 s.heap to a1 a2 a3) (st : St3 s.heap i1 i2 i3 l1 l2 l3 xs ys zs i)
    (hx : xs[i]? = some x1) (hy : ys[i]? = some x2) (hw : zs[i]? = some x3)
    (hQ : ∀ (h' : Heap) (a' : Value) (g : Bool) (b1 b2 b3 : Value), Out a' → Zat h' z ti to a' (.bool g) → IsTupOf3 h' to b1 b2 b3 → St3 h' i1 i2 i3 l1 l2 l3 xs ys zs (i + 1) → IsTupOf3 h' s.heap.objs.size x1 x2 x3 → h'.objs.size = s.heap.objs.size + 1 →
      (∀ c o, c ≠ z → c ≠ to → c ≠ i1 → c ≠ i2 → c ≠ i3 → s.heap.get? c = some o → h'.get? c = some o) → Q (some (.ref s.heap.objs.size)) { s with heap := h' }) :
    wpAny (model prog w) A (pyNext (.ref z)) Q E s := by
  have ty : s.TypeIs (.ref z) "zip" := ⟨_, hz, rfl⟩
  unfold pyNext
  refine wpAny_bind (wpAny_attempt (wpAny_callSpecial?_slot (name := Str.ofString "__next__") ty F.slot_zip_next ?_))
  refine wpAny_call_entry F.slot_zip_next ty F.entry_zip_next ?_ (F.args_zip_next_1 _)
  exact next3 D ho hz hI hO st hx hy hw fun h' a' g b1 b2 b3 c1 c2 c3 c4 c5 c6 c7 => wpAny_pure (hQ h' a' g b1 b2 b3 c1 c2 c3 c4 c5 c6 c7)

theorem pyEnd3 {Q : Option Value → Shared → Prop} (hh : A.handled = none) (D : Far3 z ti to i1 i2 i3 l1 l2 l3) (ho : Out a) (hz : Zat s.heap z ti to a (.bool f))
    (hI : IsTupOf3 s.heap ti (.ref i1) (.ref i2) (.ref i3)) (st : s.heap.IsTupleIter i1 l1 i ∧ s.heap.IsTuple l1 xs) (hx : xs[i]? = none)
    (hQ : ∀ h', (∀ c o, c ≠ z → c ≠ to → c ≠ i1 → c ≠ i2 → c ≠ i3 → s.heap.get? c = some o → h'.get? c = some o) → Q none { s with heap := h' }) :
    wpAny (model prog w) A (pyNext (.ref z)) Q E s := by
  have ty : s.TypeIs (.ref z) "zip" := ⟨_, hz, rfl⟩
  unfold pyNext
  refine wpAny_bind (wpAny_attempt (wpAny_callSpecial?_slot (name := Str.ofString "__next__") ty F.slot_zip_next ?_))
  refine wpAny_call_entry F.slot_zip_next ty F.entry_zip_next (end3 hh D ho hz hI st hx fun h' e hk he => ?_) (F.args_zip_next_1 _)
  obtain ⟨o, h1, h2⟩ := he
  exact wpAny_bind (wpAny_isInstance (T := "StopIteration") (b := true) ⟨o, h1, h2⟩ isSubtype_stop (wpAny_pure (hQ _ hk)))

/-- ahead of the target's store: a target of several names lets the tuple go -/
theorem letGo3 {tg : Expr} {T : Addr} {Q : Unit → Shared → Prop} (ho : Out a) (hz : Zat s.heap z ti to a (.bool f))
    (h : ∀ (h' : Heap) (a' : Value), Out a' → Zat h' z ti to a' (.bool f) → Heap.SameBut z s.heap h' → Q () { s with heap := h' }) :
    wpAny (model prog w) A (letOwnedTupleGo tg (.ref z) (.ref T)) Q E s := by
  have same : Q () s := h s.heap a ho hz (Heap.SameBut.refl _ _)
  have main : wpAny (model prog w) A (do
      let o ← load z
      match o.cls, o.data with
      | .type n, .fields vs =>
        if ["enumerate", "zip", "dict_itemiterator", "dict_reverseitemiterator", "odict_iterator", "itertools.zip_longest", "itertools.pairwise"].contains n && vs[0]? == some (rawInt T) then
          rule "for.unpacks-the-owned-tuple"
          updateField z 0 .none
      | _, _ => pure ()) Q E s := by
    refine wpAny_bind (wpAny_load hz ?_)
    dsimp only
    split
    · refine wpAny_bind (wpAny_rule ?_)
      show wpAny _ _ (setField (.ref z) 0 .none) Q E s
      exact wpAny_setField_rec hz (by simp) fun h' z' s' => h h' .none (.inl rfl) z' s'
    · exact wpAny_pure same
  unfold letOwnedTupleGo
  cases tg <;> first
    | exact wpAny_pure same
    | exact main

theorem iter3 {Q : Value → Shared → Prop} (hz : Zat s.heap z ti to a (.bool f)) (h : Q (.ref z) s) : wpAny (model prog w) A (pyIter (.ref z)) Q E s := by
  have ty : s.TypeIs (.ref z) "zip" := ⟨_, hz, rfl⟩
  refine wpAny_pyIter_slot ty F.slot_zip_iter (wpAny_call_entry F.slot_zip_iter ty F.entry_zip_iter ?_ (F.args_zip_iter_1 _))
  show wpAny _ _ (ret (.ref z)) _ _ s
  exact wpAny_pure ⟨_, rfl, "zip", _, ty, F.slot_zip_next.lookup, h⟩
end

/-- three tuples of one length, turn by turn: a new tuple of the three items -/
def It3 (K : PySem.W.Frag) (a b c : Addr) : It :=
  ⟨fun i H => ∃ (xs ys zs : List V) (x y z : V), SqT K H a xs ∧ SqT K H b ys ∧ SqT K H c zs ∧ xs[i]? = some x ∧ ys[i]? = some y ∧ zs[i]? = some z,
    fun i H v H' => ∃ T x y z, v = .ref T ∧ H T = none ∧ H' = upd H T (.tup [x, y, z]) ∧ (∀ xs, SqT K H a xs → xs[i]? = some x) ∧ (∀ ys, SqT K H b ys → ys[i]? = some y) ∧ ∀ zs, SqT K H c zs → zs[i]? = some z,
    fun i H => ∃ xs : List V, SqT K H a xs ∧ xs.length ≤ i⟩

theorem turn3 {P : Program} {w : World} {K : PySem.W.Frag} {tg : Expr} {a b c z ti to i1 i2 i3 : Addr} (D : Far3 z ti to i1 i2 i3 a b c) :
    Turn P w K tg (It3 K a b c) [z, ti, to, i1, i2, i3] z (fun i h => (∃ v f, Out v ∧ Zat h z ti to v (.bool f)) ∧ IsTupOf3 h ti (.ref i1) (.ref i2) (.ref i3) ∧ (∃ b1 b2 b3, IsTupOf3 h to b1 b2 b3) ∧
      h.IsTupleIter i1 a i ∧ h.IsTupleIter i2 b i ∧ h.IsTupleIter i3 c i) where
  mem := by simp
  obj := fun i h st q hq => by
    obtain ⟨⟨v, f, _, hz⟩, hI, ⟨b1, b2, b3, hO⟩, ⟨o1, e1, _, d1⟩, ⟨o2, e2, _, d2⟩, ⟨o3, e3, _, d3⟩⟩ := st
    have e' : q = z ∨ q = ti ∨ q = to ∨ q = i1 ∨ q = i2 ∨ q = i3 := by simpa using hq
    rcases e' with r | r | r | r | r | r
    · rw [r]; exact ⟨_, hz, fun v q => nomatch q⟩
    · rw [r]; exact ⟨_, hI, fun v q => nomatch q⟩
    · rw [r]; exact ⟨_, hO, fun v q => nomatch q⟩
    · rw [r]; exact ⟨o1, e1, fun v q => by rw [d1] at q; cases q⟩
    · rw [r]; exact ⟨o2, e2, fun v q => by rw [d2] at q; cases q⟩
    · rw [r]; exact ⟨o3, e3, fun v q => by rw [d3] at q; cases q⟩
  keep := fun i h h' st k => by
    obtain ⟨⟨v, f, ho, hz⟩, hI, ⟨b1, b2, b3, hO⟩, h1, h2, h3⟩ := st
    exact ⟨⟨v, f, ho, k z (by simp) _ hz⟩, k ti (by simp) _ hI, ⟨b1, b2, b3, k to (by simp) _ hO⟩, h1.at fun o q => k i1 (by simp) o q, h2.at fun o q => k i2 (by simp) o q, h3.at fun o q => k i3 (by simp) o q⟩
  item := by
    intro X hP hw hK hc i pins s σ H E I hf st hg
    subst hP hw hK
    obtain ⟨⟨v, f, ho, hz⟩, hI, ⟨b1, b2, b3, hO⟩, h1, h2, h3⟩ := st
    obtain ⟨xs, ys, zs, x, y, u, qx, qy, qu, hx, hy, hu⟩ := hg
    obtain ⟨t1, r1, p1, _⟩ := I.tuple qx
    obtain ⟨t2, r2, p2, _⟩ := I.tuple qy
    obtain ⟨t3, r3, p3, _⟩ := I.tuple qu
    obtain ⟨v1, g1, rv1⟩ := r1.get hx
    obtain ⟨v2, g2, rv2⟩ := r2.get hy
    obtain ⟨v3, g3, rv3⟩ := r3.get hu
    have zl : z < s.heap.objs.size := Heap.lt_size hz
    refine pyNext3 D ho hz hI hO ⟨⟨h1, p1⟩, ⟨h2, p2⟩, ⟨h3, p3⟩⟩ (x1 := v1) (x2 := v2) (x3 := v3) (by simpa using g1) (by simpa using g2) (by simpa using g3) fun h' v' f' c1 c2 c3 ho' hz' hO' st' hT hsz hk => ?_
    refine ⟨_, rfl, letGo3 (s := { s with heap := h' }) ho' hz' fun h'' v'' ho'' hz'' sb => ?_⟩
    have hT2 : h''.get? s.heap.objs.size = some { cls := .type "tuple", data := .seq #[v1, v2, v3] } := (sb.2 _ (Nat.ne_of_gt zl)).trans hT
    have new : ObjOk X.prog X.w (upd H s.heap.objs.size (.tup [x, y, u])) h'' s.heap.objs.size (.tup [x, y, u]) :=
      ⟨by show 3 ≤ sizeLine; decide, [v1, v2, v3], .cons rv1 (.cons rv2 (.cons rv3 .nil)), ⟨_, hT2, rfl, _, rfl⟩⟩
    have I1 : Inv X pins σ (upd H s.heap.objs.size (.tup [x, y, u])) { s with heap := h'' } :=
      I.turnedNew (t' := s.toks) (ch := [z, ti, to, i1, i2, i3]) (fun q o hb e => (sb.2 q (fun q' => hb (by simp [q']))).trans
        (hk q o (fun q' => hb (by simp [q'])) (fun q' => hb (by simp [q'])) (fun q' => hb (by simp [q'])) (fun q' => hb (by simp [q'])) (fun q' => hb (by simp [q'])) e)) hf (Nat.le_refl _) new
    refine ⟨.ref s.heap.objs.size, _, I1, rfl, ⟨_, x, y, u, rfl, I.hok.fresh (Nat.le_refl _), rfl, fun l hl => by rw [I.tuple_inj hl qx]; exact hx, fun l hl => by rw [I.tuple_inj hl qy]; exact hy, fun l hl => by rw [I.tuple_inj hl qu]; exact hu⟩,
      ⟨⟨v'', f', ho'', hz''⟩, ?_, ⟨c1, c2, c3, (sb.2 _ D.toz).trans hO'⟩, st'.1.1.at fun o q => (sb.2 _ D.z1).trans q, st'.2.1.1.at fun o q => (sb.2 _ D.z2).trans q, st'.2.2.1.at fun o q => (sb.2 _ D.z3).trans q⟩, fun q hq => ?_⟩
    · exact (sb.2 _ D.tiz).trans (hk _ _ D.tiz D.tito D.ti1 D.ti2 D.ti3 hI)
    · have lt : q < s.heap.objs.size := by
        have e' : q = z ∨ q = ti ∨ q = to ∨ q = i1 ∨ q = i2 ∨ q = i3 := by simpa using hq
        rcases e' with r | r | r | r | r | r
        · rw [r]; exact zl
        · rw [r]; exact Heap.lt_size hI
        · rw [r]; exact Heap.lt_size hO
        · rw [r]; obtain ⟨_, e1, _⟩ := h1; exact Heap.lt_size e1
        · rw [r]; obtain ⟨_, e1, _⟩ := h2; exact Heap.lt_size e1
        · rw [r]; obtain ⟨_, e1, _⟩ := h3; exact Heap.lt_size e1
      rw [upd_ne (Nat.ne_of_lt lt)]
      exact (hf q hq).1
  done := by
    intro X hP hw hK hc i pins s σ H E I hf st hg
    subst hP hw hK
    obtain ⟨⟨v, f, ho, hz⟩, hI, ⟨b1, b2, b3, hO⟩, h1, h2, h3⟩ := st
    obtain ⟨xs, qx, hlen⟩ := hg
    obtain ⟨t1, r1, p1, _⟩ := I.tuple qx
    have le := r1.length
    refine pyEnd3 (I.ok.hd hc) D ho hz hI ⟨h1, p1⟩ (by simp; omega) fun h' hk => ⟨rfl, I.turnedL (t' := s.toks) (ch := [z, ti, to, i1, i2, i3]) (fun q o hb e => ?_) hf⟩
    exact hk q o (fun q' => hb (by simp [q'])) (fun q' => hb (by simp [q'])) (fun q' => hb (by simp [q'])) (fun q' => hb (by simp [q'])) (fun q' => hb (by simp [q'])) e
  self := fun A i s Q E st h => by
    obtain ⟨⟨v, f, _, hz⟩, _⟩ := st
    exact iter3 hz h

theorem far_at (n a b c : Nat) (ha : a < n) (hb : b < n) (hc : c < n) : Far3 (n + 5) (n + 3) (n + 4) n (n + 1) (n + 2) a b c := by
  constructor <;> first | (show (_ : Nat) ≠ _; omega) | (refine ⟨?_, ?_, ?_, ?_, ?_⟩ <;> (show (_ : Nat) ≠ _; omega))

def iZip3 (K : PySem.W.Frag) (ta : TA) : TI := fun σ H R => ta σ H fun vs H1 => ∃ a b c xs ys zs, vs = [.ref a, .ref b, .ref c] ∧ SqT K H1 a xs ∧ SqT K H1 b ys ∧ SqT K H1 c zs ∧ R (It3 K a b c) H1
/-- zip(e, e2, e3), tuples of one length; any target -/
theorem pi_zip3 {X : Cx} {tg e e2 e3 : Expr} {ta : TA} {p pos : Pos} (hg : Gl X "zip") (hm : X.mg "zip" = none) (ha : PA X [e, e2, e3] ta)
    (hs : starEach [e, e2, e3] X.env = (false, eval e X.env) :: starEach [e2, e3] X.env := by rfl) (hpl : (backTo pos (starEach [e2, e3] X.env)).any (·.1) = false := by rfl) :
    PI X tg (.Call (.Name "zip" p) [e, e2, e3] [] pos) (iZip3 X.K ta) := by
  refine ⟨fun pins s σ H R I h => ?_⟩
  refine Call_ (ld_blt I hg hm PyProof.Rows.boot_zip (PyProof.Rows.callWith_type1 (thn (ha.run pos pins s σ H _ I h) fun us s1 q => ?_) hs hpl))
  obtain ⟨vs, H1, I1, r1, a, b, c, xs, ys, zs, ex, q1, q2, q3, q⟩ := q
  subst ex
  cases r1 with
  | cons ra rr =>
    cases rr with
    | cons rb rr =>
      cases rr with
      | cons rc rr =>
        cases rr
        cases ra
        cases rb
        cases rc
        obtain ⟨t1, r1, p1, _⟩ := I1.tuple q1
        obtain ⟨t2, r2, p2, _⟩ := I1.tuple q2
        obtain ⟨t3, r3, p3, _⟩ := I1.tuple q3
        obtain ⟨o1, g1, _⟩ := id p1
        obtain ⟨o2, g2, _⟩ := id p2
        obtain ⟨o3, g3, _⟩ := id p3
        refine zip_begins3 (begins_tuple a t1.toArray) (begins_tuple b t2.toArray) (begins_tuple c t3.toArray) p1 p2 p3 fun h' hz hI hO e1 e2 e3 hsz hk => iter3 hz ?_
        have I2 : Inv X pins σ H1 { s1 with heap := h' } := I1.kept (t' := s1.toks) hk
        refine ⟨s1.heap.objs.size + 5, [s1.heap.objs.size + 5, s1.heap.objs.size + 3, s1.heap.objs.size + 4, s1.heap.objs.size, s1.heap.objs.size + 1, s1.heap.objs.size + 2], _, _, H1, rfl, I2, turn3 (far_at s1.heap.objs.size a b c (Heap.lt_size g1) (Heap.lt_size g2) (Heap.lt_size g3)),
          ⟨⟨.none, false, .inl rfl, hz⟩, hI, ⟨_, _, _, hO⟩, ⟨_, e1, rfl, rfl⟩, ⟨_, e2, rfl, rfl⟩, ⟨_, e3, rfl, rfl⟩⟩, fun q hq => ?_, q⟩
        have le : s1.heap.objs.size ≤ q := by
          have e' : q = s1.heap.objs.size + 5 ∨ q = s1.heap.objs.size + 3 ∨ q = s1.heap.objs.size + 4 ∨ q = s1.heap.objs.size ∨ q = s1.heap.objs.size + 1 ∨ q = s1.heap.objs.size + 2 := by simpa using hq
          rcases e' with r | r | r | r | r | r <;> rw [r] <;> first | exact Nat.le_add_right _ _ | exact Nat.le_refl _
        exact I1.fpOk le (I1.hok.fresh le)

/-- a new triple of the i-th ones -/
def Y3 (xs ys zs : List V) : Nat → Hp → V → Hp → Prop := fun i H v H' => ∃ T x y z, v = .ref T ∧ H T = none ∧ H' = upd H T (.tup [x, y, z]) ∧ xs[i]? = some x ∧ ys[i]? = some y ∧ zs[i]? = some z
theorem walk_zip3 {K : PySem.W.Frag} {a b c : Addr} {xs ys zs : List V} (h2 : ys.length = xs.length) (h3 : zs.length = xs.length) :
    Walk (It3 K a b c) xs.length (fun H => SqT K H a xs ∧ SqT K H b ys ∧ SqT K H c zs) (Y3 xs ys zs) := by
  refine ⟨fun i _ hi q => ?_, fun _ q => ⟨xs, q.1, Nat.le_refl _⟩, fun i H v H' _ q y => ?_⟩
  · exact ⟨xs, ys, zs, xs[i], ys[i]'(by omega), zs[i]'(by omega), q.1, q.2.1, q.2.2, by simp [hi], by simp [show i < ys.length by omega], by simp [show i < zs.length by omega]⟩
  · obtain ⟨T, x, y, z, e1, e2, e3, f1, f2, f3⟩ := y
    exact ⟨T, x, y, z, e1, e2, e3, f1 xs q.1, f2 ys q.2.1, f3 zs q.2.2⟩
theorem walk_zipT {K : PySem.W.Frag} {a b : Addr} {xs ys : List V} (h2 : ys.length = xs.length) :
    Walk (RZ.ItzT K a b) xs.length (fun H => SqT K H a xs ∧ SqT K H b ys) (YPair (fun i => xs[i]?) (fun i => ys[i]?)) := by
  refine ⟨fun i _ hi q => ?_, fun _ q => ⟨xs, ys, q.1, q.2, by omega⟩, fun i H v H' _ q y => ?_⟩
  · exact ⟨xs, ys, xs[i], ys[i]'(by omega), q.1, q.2, by simp [hi], by simp [show i < ys.length by omega]⟩
  · obtain ⟨T, x, u, e1, e2, e3, f1, f2⟩ := y
    exact ⟨T, x, u, e1, e2, e3, f1 xs q.1, f2 ys q.2⟩
end NB

set_option Elab.async false
set_option linter.all false
set_option maxRecDepth 100000
set_option maxHeartbeats 1000000
namespace NB
open PySem PySem.Spec PyProof.Rows L2

/-- the law's own call, its def kept to its promise where nothing is being shown -/
theorem law_end {P : Program} {w : World} {K : PySem.W.Frag} {mg mb : Str → Option Value} {k : Nat} {fa a : Addr} {fd : FuncData} {x : Str} {sp : Sp} {s : Shared} {vs : List Value} {ns : List Int}
    (hK : K.In s.heap) (hN : s.heap.Ns mainGlobals mg) (hB : s.heap.Ns builtinsNs mb) (hbb : ∀ x : Str, x ≠ "__name__" → mb x = bootBuiltins x) (lim : s.heap.NoLimit) (hg : s.gens = #[])
    (ha : s.heap.get? a = some { cls := .type "list", data := .seq vs.toArray }) (hi : IntsAre vs ns) (hl : ns.length ≤ sizeLine) (hr : Room k callerA)
    (F : ∀ base : Heap, K.In base → base.Ns mainGlobals mg → FnG P w K mg base k fa fd [x] sp) (hb : ∀ (s : Shared) (u : Value), BindsTo s fd ⟨[u], []⟩ [(x, u)])
    (hsp : ∀ H : Hp, SqL K H a (ns.map V.int) → sp [.ref a] H (fun v _ => v = .bl true) E0) :
    codeAny (model P w) callerA (.call (.ref fa) ⟨[.ref a], []⟩) (fun r s' => r = .ok (.ret (.bool true)) ∧ OldK s.heap s'.heap ∧ s'.os = s.os ∧ AllBare s'.gens) s := by
  have rv := vals_ints hi
  have lv := hi.length
  -- H: the script alone is tracked, or nothing
  suffices go : ∀ H : Hp, (∀ b, H b ≠ none → b = a ∧ K.lookup a = none ∧ ∃ o xs, H b = some (.frz o (.lst xs))) → SqL K H a (ns.map V.int) → HOk P w H s.heap →
      codeAny (model P w) callerA (.call (.ref fa) ⟨[.ref a], []⟩) (fun r s' => r = .ok (.ret (.bool true)) ∧ OldK s.heap s'.heap ∧ s'.os = s.os ∧ AllBare s'.gens) s by
    cases hk : K.lookup a with
    | some o =>
      have e := hK a o hk
      rw [ha] at e
      cases e
      refine go (fun _ => none) (fun b q => absurd rfl q) (.inr ⟨_, vs.toArray, _, hk, rfl, rfl, rfl, ?_, by simpa using rv⟩) (fun b u q => by cases (show (none : Option HO) = some u from q))
      rw [List.size_toArray, lv]
      exact hl
    | none =>
      refine go (fun b => if b = a then some (.frz { cls := .type "list", data := .seq vs.toArray } (.lst (ns.map V.int))) else none) (fun b q => ?_) (.inl (.inr ⟨_, if_pos rfl⟩)) (fun b u q => ?_)
      · by_cases h : b = a
        · exact ⟨h, hk, _, _, if_pos h⟩
        · exact absurd (if_neg h) q
      · by_cases h : b = a
        · have q' := (if_pos h).symm.trans q
          cases q'
          subst h
          exact ⟨ha, by rw [List.length_map]; exact hl, vs, _, rv, ha⟩
        · have q' := (if_neg h).symm.trans q
          cases q'
  intro H hO hS ok
  have dictFree : ∀ {b : Addr} {o : Obj} {es : Array DictEntry} {ep : Nat}, s.heap.get? b = some o → o.data = .dict es ep → H b = none := by
    intro b o es ep e d
    cases q : H b with
    | none => rfl
    | some u =>
      obtain ⟨e', _⟩ := hO b (by rw [q]; simp)
      subst e'
      rw [ha] at e
      cases e
      cases (show Data.seq vs.toArray _ = Data.dict es ep from d)
  have ns' : ∀ {b : Addr} {m : Str → Option Value}, s.heap.Ns b m → (hidT s.heap H).Ns b m := by
    rintro b m ⟨o, es, ep, e, d, r⟩
    exact ⟨o, es, ep, hidT_get e (dictFree e d), d, r⟩
  have kB : K.In (hidT s.heap H) := by
    intro b o e
    refine hidT_get (hK b o e) ?_
    cases q : H b with
    | none => rfl
    | some u =>
      obtain ⟨e', n, _⟩ := hO b (by rw [q]; simp)
      subst e'
      rw [n] at e
      cases e
  have md : Mod K mg (hidT s.heap H) := by
    obtain ⟨mc, h1, h2⟩ := lim
    exact ⟨kB, ns' hN, ⟨mb, ns' hB, hbb⟩, ⟨mc, ns' h1, h2⟩⟩
  have e0 : Env0 P w K mg (hidT s.heap H) callerA [] s H :=
    ⟨rfl, md, fun b o e => of_hidT e, Nat.le_of_eq (hidT_size _ _), trivial, fun b q => absurd (show b ∈ ([] : List Addr) from q) (by simp), ok, .of_eq hg⟩
  refine codeAny_mono ((F _ kB (ns' hN)).go callerA [] s H ⟨[.ref a], []⟩ [.ref a] [.ref a] _ _ rfl hr e0 (hb s (.ref a)) (.cons rfl .nil) (hsp H hS)) ?_
  intro r s' q
  cases r with
  | error e => exact False.elim q
  | ok fl =>
    cases fl with
    | next => exact False.elim q
    | brk => exact False.elim q
    | cont => exact False.elim q
    | ret u =>
      obtain ⟨v, H', os, bare, un, ok', r', q'⟩ := q
      have q2 : v = .bl true := q'
      subst q2
      obtain rfl : u = Value.bool true := r'
      refine ⟨rfl, OldK.of_keep fun b o e => ?_, os, bare⟩
      cases q : H b with
      | none => exact un.keep b o e q (fun z => absurd (show b ∈ ([] : List Addr) from z) (by simp)) (by simp)
      | some u =>
        obtain ⟨_, _, ob, xs, z⟩ := hO b (by rw [q]; simp)
        obtain ⟨e1, _⟩ := ok b _ z
        obtain ⟨e2, _⟩ := ok' b _ (un.frzs b ob _ z)
        rw [e] at e1
        cases e1
        exact e2

/-- what k_head leaves, from the promise of the law's def -/
theorem walkG {l : PySem.W.OpenLaw} {n k : Nat} {q : Program} {loose : List Str} {XP : (Str → Option Value) → Heap → Prop} {YP : World → Heap → Prop} {d : DefRec} {K : Params → PySem.W.Frag} {sp : World → Sp} {x : Str}
    (hn : l.most = some n) (hn2 : n ≤ sizeLine) (hdf : d.params.defaults = []) (hr : Room k callerA) (hY : ∀ (w : World) (h : Heap), YP w h → (K w.params).In h)
    (F : ∀ (w : World) (mg : Str → Option Value) (fa : Addr) (h : Heap), (K w.params).In h → h.Ns mainGlobals mg → mg d.name = some (.ref fa) →
      ∃ fd : FuncData, (∀ (s : Shared) (u : Value), BindsTo s fd ⟨[u], []⟩ [(x, u)]) ∧
        ∀ base : Heap, (K w.params).In base → base.Ns mainGlobals mg → FnG l.prog w (K w.params) mg base k fa fd [x] (sp w))
    (hsp : ∀ (w : World) (H : Hp) (a : Addr) (ns : List Int), ns.length ≤ n → SqL (K w.params) H a (ns.map V.int) → sp w [.ref a] H (fun v _ => v = .bl true) E0) :
    PySem.W.WalkO q loose XP YP l.row.toRowW d [] (fun f vs => PySem.call f vs) := by
  refine Att.attach_call hn hdf ?_
  intro w s₀ s₁ mg mb fa o pm cd doc a vs ns G Y ho hd hcd hmg hobj hints hlen hg
  have kX := hY w _ Y
  obtain ⟨fd, hb, hF⟩ := F w mg fa _ kX G.T.g hmg
  exact law_end kX G.T.g G.T.b G.T.builtins G.T.nolimit hg hobj hints (Nat.le_trans hlen hn2) hr hF hb fun H hS => hsp w H a ns hlen hS
end NB

set_option Elab.async false
set_option linter.all false
set_option maxRecDepth 100000
set_option maxHeartbeats 1000000
namespace NB
open PySem PySem.Spec PyProof.Rows L2
section
variable {prog : Program} {w : World} {A : Around} {E : Value → Shared → Prop} {s : Shared}
theorem sortedTuple {t : Addr} {vs : List Value} {ns : List Int} {Q : Value → Shared → Prop} (hl : s.heap.IsTuple t vs.toArray) (hI : IntsAre vs ns) (h64 : vs.length < 64)
    (h : ∀ (h1 h' : Heap) (p : Addr) (out : Array Value) (ep : Nat) (ns' : List Int), IntsAre out.toList ns' → ns'.Perm ns → ns'.Pairwise (· ≤ ·) → (∀ b o, s.heap.get? b = some o → h1.get? b = some o) → (∀ b o, h1.get? b = some o → h'.get? b = some o) → h1.objs.size ≤ p →
      h'.get? p = some (seqObj "list" out ep) → Q (.ref p) { s with heap := h' }) :
    wpAny (model prog w) A (call (.builtin "sorted") [.ref t]) Q E s := by
  obtain ⟨o, ho, hc, n, hd⟩ := hl
  refine Calls.call_function_entry kind_sorted plain_sorted entry_sorted (args_sorted1 _) ?_
  unfold Builtin.«sorted»
  refine wpAny_bind (m := checkCount "sorted" 1 1 _) (wpAny_pure ?_)
  refine wpAny_bind (wpAny_collect_seq t (.inr rfl) ho hc hd (fun h1 hk => ?_) (by rw [List.size_toArray, sizeLine_eq]; omega))
  refine wpAny_bind (wpAny_newList ?_)
  have e0 : (vs.toArray.toList) = vs := rfl
  have hoL : (h1.push (seqObj "list" vs.toArray 0)).get? h1.objs.size = some (seqObj "list" vs.toArray 0) := Heap.get?_push_size _ rfl
  show wpAny _ _ _ _ _ { s with heap := h1.push (seqObj "list" vs.toArray 0) }
  refine wpAny_bind (wpAny_holding (wpAny_call_entry slot_list_sort ⟨_, hoL, rfl⟩ entry_list_sort (list_sort_tree hoL hI h64 fun out ns' q1 q2 q3 => ⟨_, rfl, ?_⟩) (args_list_sort _)))
  refine wpAny_pure ⟨_, rfl, ?_⟩
  obtain ⟨ep, hat⟩ := sortedHeap_at (vs := vs) (out := out) hoL
  refine h h1 _ h1.objs.size out ep ns' q1 q2 q3 hk (fun b o q => ?_) (Nat.le_refl _) hat
  have lt := Heap.lt_size q
  rw [sortedHeap_old (Nat.ne_of_lt lt) (by rw [size_push']; exact Nat.lt_succ_of_lt lt)]
  exact Heap.get?_push_of_some _ q
end
section
variable {X : Cx}
/-- sorted(t), t a tuple of few ints -/
def rSortT (K : PySem.W.Frag) : List V → Hp → VK → Prop := fun vs H Q => ∃ (a : Addr) (ns : List Int), vs = [V.ref a] ∧ SqT K H a (ns.map V.int) ∧ ns.length < 64 ∧
  ∀ (ns' : List Int) (p : Addr), ns'.Perm ns → ns'.Pairwise (· ≤ ·) → H p = none → Q (.ref p) (upd H p (.lst (ns'.map V.int)))
theorem cr_sortT : CallR X (.builtin "sorted") (rSortT X.K) := by
  intro pins s σ H vs us Q I r h
  obtain ⟨a, ns, rfl, hs, h64, q⟩ := h
  obtain ⟨its, rv, hl, _⟩ := I.tuple hs
  rw [Vals.ref1 r]
  have hi := rv.ints
  refine sortedTuple hl hi (by rw [hi.length]; exact h64) fun h1 h' p out ep ns' q1 q2 q3 k1 k2 hp hat => ?_
  have I1 : Inv X pins σ H { s with heap := h1 } := I.kept (t' := s.toks) k1
  have hlen : (ns'.map V.int).length ≤ sizeLine := by rw [List.length_map, q2.length_eq]; exact small64 h64
  exact ⟨.ref p, upd H p (.lst (ns'.map V.int)), I1.laid (t' := s.toks) k2 hp ⟨hlen, out.toList, ep, vals_of_ints q1, hat⟩, rfl, q ns' p q2 q3 (I1.hok.fresh hp)⟩

theorem perm_sum {l l' : List Int} (h : l.Perm l') : l.sum = l'.sum := by
  induction h with
  | nil => rfl
  | cons x _ ih => simp only [List.sum_cons, ih]
  | swap x y l => simp only [List.sum_cons]; omega
  | trans _ _ i1 i2 => exact i1.trans i2
/-- the middle one of three -/
def mid3 (a b c : Int) : Int := if a ≤ b then (if b ≤ c then b else if a ≤ c then c else a) else (if a ≤ c then a else if b ≤ c then c else b)
theorem mid_of_sorted {a b c x y z : Int} (p : [x, y, z].Perm [a, b, c]) (s : [x, y, z].Pairwise (· ≤ ·)) : y = mid3 a b c := by
  have h1 : x ≤ y ∧ y ≤ z := by
    rw [List.pairwise_cons, List.pairwise_cons] at s
    exact ⟨s.1 y (by simp), s.2.1 z (by simp)⟩
  have ha : a ∈ [x, y, z] := p.symm.subset (by simp)
  have hb : b ∈ [x, y, z] := p.symm.subset (by simp)
  have hc : c ∈ [x, y, z] := p.symm.subset (by simp)
  have hs : x + y + z = a + b + c := by
    have e := perm_sum p
    simp only [List.sum_cons, List.sum_nil] at e
    omega
  simp only [List.mem_cons, List.not_mem_nil, or_false] at ha hb hc
  unfold mid3
  rcases ha with e | e | e <;> rcases hb with f | f | f <;> rcases hc with g | g | g <;> split <;> split <;> (try split) <;> omega
theorem max3 (hc : X.calm = true) : CallR X (.builtin "max") (fun xs H Q => ∃ i j k : Int, xs = [.int i, .int j, .int k] ∧ Q (.int (max (max i j) k)) H) := by
  intro pins s σ H xs us Q I r h
  obtain ⟨i, j, k, rfl, q⟩ := h
  refine call_max3Nu hc pins s σ H _ us Q I r ⟨_, _, _, _, rfl, ?_, q⟩
  have two : ∀ a b : Int, nuMax2 (.int a) (.int b) = some (.int (max a b)) := fun a b => by
    show some (if decide (a < b) = true then V.int b else V.int a) = _
    by_cases h : a < b
    · rw [if_pos (decide_eq_true h), Int.max_eq_right (Int.le_of_lt h)]
    · rw [if_neg (by simpa using h), Int.max_eq_left (by omega)]
  show (nuMax2 (.int i) (.int j)).bind (fun m => nuMax2 m (.int k)) = _
  rw [two]
  exact two _ _
theorem min3 (hc : X.calm = true) : CallR X (.builtin "min") (fun xs H Q => ∃ i j k : Int, xs = [.int i, .int j, .int k] ∧ Q (.int (min (min i j) k)) H) := by
  intro pins s σ H xs us Q I r h
  obtain ⟨i, j, k, rfl, q⟩ := h
  refine call_min3Nu hc pins s σ H _ us Q I r ⟨_, _, _, _, rfl, ?_, q⟩
  have two : ∀ a b : Int, nuMin2 (.int a) (.int b) = some (.int (min a b)) := fun a b => by
    show some (if decide (b < a) = true then V.int b else V.int a) = _
    by_cases h : b < a
    · rw [if_pos (decide_eq_true h), Int.min_eq_right (Int.le_of_lt h)]
    · rw [if_neg (by simpa using h), Int.min_eq_left (by omega)]
  show (nuMin2 (.int i) (.int j)).bind (fun m => nuMin2 m (.int k)) = _
  rw [two]
  exact two _ _
/-- a ** b: the result within 2 ^ 27 bits -/
def CPowW (i j : Int) : Prop := 0 ≤ j ∧ (Builtin.Int.intBits i : Int) * j ≤ 2 ^ 27
theorem op_powW : OpR X (binaryOp .Pow) (rI CPowW fun i j => .int (i ^ j.toNat)) := opI fun _ _ _ _ _ _ _ hc q => pow_int hc.1 hc.2 q
end
end NB

set_option Elab.async false
set_option linter.all false
set_option maxRecDepth 100000
namespace K04
open PySem PySem.Spec PyProof.Rows L2 NB
def topS (i : Nat) : Stmt := PySem.Challenge.pw_notbothout_k04_far_middle_between.main.body.getD i (.Pass ⟨0, 0, 0, 0⟩)

/-- all that was tracked stands, but for what is at a -/
def But (a : Addr) (H H' : Hp) : Prop := ∀ b o, b ≠ a → H b = some o → H' b = some o
theorem But.of {a : Addr} {H H' : Hp} (h : Same H H') : But a H H' := fun b o _ e => h b o e
theorem But.trans {a : Addr} {H H1 H2 : Hp} (h : But a H H1) (h' : But a H1 H2) : But a H H2 := fun b o n e => h' b o n (h b o n e)
theorem But.seq {K : PySem.W.Frag} {a l : Addr} {H H' : Hp} {xs : List V} (h : But a H H') (n : l ≠ a) (q : SqL K H l xs) : SqL K H' l xs := by
  rcases q with (q | ⟨o, q⟩) | q
  · exact .inl (.inl (h _ _ n q))
  · exact .inl (.inr ⟨o, h _ _ n q⟩)
  · exact .inr q
theorem But.tup {K : PySem.W.Frag} {a l : Addr} {H H' : Hp} {xs : List V} (h : But a H H') (n : l ≠ a) (q : SqT K H l xs) : SqT K H' l xs := by
  rcases q with (q | ⟨o, q⟩) | q
  · exact .inl (.inl (h _ _ n q))
  · exact .inl (.inr ⟨o, h _ _ n q⟩)
  · exact .inr q
theorem sameT {K : PySem.W.Frag} {l : Addr} {H H' : Hp} {xs : List V} (h : Same H H') (q : SqT K H l xs) : SqT K H' l xs := by
  rcases q with (q | ⟨o, q⟩) | q
  · exact .inl (.inl (h _ _ q))
  · exact .inl (.inr ⟨o, h _ _ q⟩)
  · exact .inr q
theorem same_new {H : Hp} {p : Addr} {o : HO} (h : H p = none) : Same H (upd H p o) := fun b x e => by
  rw [upd_ne (ne_of_none e h)]
  exact e
/-- a cell that was free and is written stands apart from what was -/
theorem same_over {H H' : Hp} {p : Addr} {o : HO} (h : Same H H') (n : H p = none) : Same H (upd H' p o) := fun b x e => by
  rw [upd_ne (ne_of_none e n)]
  exact h b x e

abbrev sFar : Stmt := topS 1
abbrev sMiddle : Stmt := topS 2
abbrev sBetween : Stmt := topS 3
theorem scFar : FnScope ["one", "other", "here", "there"] ["one", "other"] (defScope sFar) := ⟨rfl, rfl, rfl, by decide +kernel, rfl, by decide +kernel, by decide +kernel⟩
theorem scMid : FnScope ["one", "two", "three", "places"] ["one", "two", "three"] (defScope sMiddle) := ⟨rfl, rfl, rfl, by decide +kernel, rfl, by decide +kernel, by decide +kernel⟩
theorem scBet : FnScope ["one", "x", "other", "a", "place", "b"] ["one", "x", "other"] (defScope sBetween) := ⟨rfl, rfl, rfl, by decide +kernel, rfl, by decide +kernel, by decide +kernel⟩

/-! ### mathematics -/
def dist : List Int → List Int → Int
  | x :: xs, y :: ys => (if x - y < 0 then -(x - y) else x - y) + dist xs ys
  | _, _ => 0
def dists : List Int → List Int → List Int
  | x :: xs, y :: ys => (if x - y < 0 then -(x - y) else x - y) :: dists xs ys
  | _, _ => []
theorem dists_sum : ∀ xs ys, (dists xs ys).sum = dist xs ys
  | [], _ => rfl
  | _ :: _, [] => rfl
  | x :: xs, y :: ys => by simp only [dists, dist, List.sum_cons, dists_sum xs ys]
theorem dists_len : ∀ xs ys : List Int, ys.length = xs.length → (dists xs ys).length = xs.length
  | [], _, _ => rfl
  | _ :: _, [], h => by simp at h
  | x :: xs, y :: ys, h => by simp only [dists, List.length_cons, dists_len xs ys (by simpa using h)]
theorem dists_get : ∀ (xs ys : List Int) (i : Nat) (x y : Int), xs[i]? = some x → ys[i]? = some y → (dists xs ys)[i]? = some (if x - y < 0 then -(x - y) else x - y)
  | [], _, _, _, _, h, _ => by simp at h
  | _ :: _, [], _, _, _, _, h => by simp at h
  | a :: xs, b :: ys, 0, x, y, h, h' => by
    have e1 : a = x := Option.some.inj h
    have e2 : b = y := Option.some.inj h'
    subst e1 e2
    rfl
  | a :: xs, b :: ys, i + 1, x, y, h, h' => dists_get xs ys i x y h h'

section
variable {P : Program} {w : World} {K : PySem.W.Frag} {mg : Str → Option Value} {base : Heap}

theorem mapGet {α β : Type} {f : α → β} {xs : List α} {i : Nat} {y : β} (h : (xs.map f)[i]? = some y) : ∃ x, xs[i]? = some x ∧ y = f x := by
  rw [List.getElem?_map] at h
  cases e : xs[i]? with
  | none => rw [e] at h; cases h
  | some x => rw [e] at h; exact ⟨x, rfl, (Option.some.inj h).symm⟩

def spFar (K : PySem.W.Frag) : Sp := fun vs H Q _ => ∃ (a b : Addr) (xs ys : List Int), vs = [.ref a, .ref b] ∧ SqT K H a (xs.map V.int) ∧ SqT K H b (ys.map V.int) ∧ ys.length = xs.length ∧ xs.length ≤ 1000 ∧
  ∀ H', Same H H' → Q (.int (dist xs ys)) H'
theorem ok_far {f : Addr} {fd : FuncData} {k : Nat} (F : Fun K "far" "far" sFar f fd) (mz : mg "zip" = none) (ms : mg "sum" = none) (ma : mg "abs" = none) : FnOk P w K mg base CX0 (k + 1) f fd ["one", "other"] (spFar K) := by
  refine F.ok scFar (fun vs H Q E h => ?_) (fun cdv A outer s H vs Q E hr h => ?_)
  · obtain ⟨a, b, xs, ys, rfl, _⟩ := h
    rfl
  · obtain ⟨a, b, xs, ys, rfl, hx, hy, hl, hn, q⟩ := h
    refine ⟨_, pss_one (ps_ret (pe_callB (cr_sum rfl) (by rfl) ms (by decide +kernel) (pa_cons
      (pe_lc (own := [("here", 2), ("there", 3)]) (g := gTup K 2 (gCons (gName 2) (gCons (gName 3) gNil))) (tt := tYes) rfl scFar.nd (RZ.pi_zipA (by rfl) mz (pa_cons (pv 0) (pa_cons (pv 1) pa_nil))) (blkOk_by (N := ["one", "other", "here", "there"]) (sc := defScope sFar) (by decide +kernel))
        (fun _ _ _ _ _ => pg_tup rfl (pgs_cons (pg_name (i := 2) scFar.nd rfl (.inl rfl) (hf := .inr rfl)) (pgs_cons (pg_name (i := 3) scFar.nd rfl (.inl rfl) (hf := .inr rfl)) pgs_nil))) (fun _ _ _ _ _ => pts_nil)
        (fun _ _ _ _ _ => pe_callB call_abs (by rfl) ma (by decide +kernel) (pa_cons (pe_op op_sub (pv 2) (pv 3)) pa_nil))) pa_nil))), ?_⟩
    refine ⟨.ref a, rfl, .ref b, rfl, a, b, _, _, rfl, .inr ⟨hx, hy, fun D nD => lc_it (walk_zipT (xs := xs.map V.int) (ys := ys.map V.int) (by simpa using hl)) (fun i H' => Same H H' ∧ H' D = some (.lst (((dists xs ys).take i).map V.int))) ⟨same_new nD, upd_same⟩ (fun i H' _ p => ⟨sameT p.1 hx, sameT p.1 hy⟩) (fun i v H1 H2 hi p y => ?_) (fun H' p => ?_)⟩⟩
    · obtain ⟨sm, eD⟩ := p
      obtain ⟨T, x, y, rfl, nT, rfl, gx, gy⟩ := y
      obtain ⟨x, ex, rfl⟩ := mapGet gx
      obtain ⟨y, ey, rfl⟩ := mapGet gy
      refine ⟨T, _, rfl, .inl (.inl upd_same), rfl, _, _, rfl, _, _, rfl, rfl, rfl, .int x, rfl, .int y, rfl, x, y, rfl, rfl, _, rfl, _, (upd_ne (ne_of_none eD nT)).trans eD, ?_, ?_, ?_⟩
      · rw [List.length_map, List.length_take]
        exact Nat.lt_of_le_of_lt (Nat.min_le_right _ _) (small1000 (by rw [dists_len xs ys hl]; exact hn))
      · exact same_over (same_over sm (sm.free nT)) nD
      · rw [upd_same, List.take_add_one, dists_get xs ys i x y ex ey, List.map_append]
        rfl
    · obtain ⟨sm, eD⟩ := p
      refine ⟨D, dists xs ys, rfl, .inl (.inl ?_), ?_⟩
      · rw [eD, List.take_of_length_le (by rw [List.length_map, dists_len xs ys hl]; exact Nat.le_refl _)]
      · rw [dists_sum]
        exact q H' sm
end
end K04

set_option Elab.async false
set_option linter.all false
set_option maxRecDepth 100000
namespace K04
open PySem PySem.Spec PyProof.Rows L2 NB

abbrev sMid : Stmt := topS 11
abbrev sApart : Stmt := topS 12
abbrev sLies : Stmt := topS 13
theorem scM : FnScope ["_law_a", "_law_b", "_law_c"] ["_law_a", "_law_b", "_law_c"] (defScope sMid) := ⟨rfl, rfl, rfl, by decide +kernel, rfl, by decide +kernel, by decide +kernel⟩
theorem scA : FnScope ["_law_one", "_law_other", "_law_found", "_law_here", "_law_there"] ["_law_one", "_law_other"] (defScope sApart) := ⟨rfl, rfl, rfl, by decide +kernel, rfl, by decide +kernel, by decide +kernel⟩
theorem scL : FnScope ["_law_one", "_law_x", "_law_other", "_law_here", "_law_place", "_law_there"] ["_law_one", "_law_x", "_law_other"] (defScope sLies) := ⟨rfl, rfl, rfl, by decide +kernel, rfl, by decide +kernel, by decide +kernel⟩

/-! ### mathematics -/
def z3 {α : Type} (f : Int → Int → Int → α) : List Int → List Int → List Int → List α
  | x :: xs, y :: ys, z :: zs => f x y z :: z3 f xs ys zs
  | _, _, _ => []
theorem z3_len {α : Type} {f : Int → Int → Int → α} : ∀ xs ys zs : List Int, ys.length = xs.length → zs.length = xs.length → (z3 f xs ys zs).length = xs.length
  | [], _, _, _, _ => rfl
  | _ :: _, [], _, h, _ => by simp at h
  | _ :: _, _ :: _, [], _, h => by simp at h
  | x :: xs, y :: ys, z :: zs, h, h' => by simp only [z3, List.length_cons, z3_len xs ys zs (by simpa using h) (by simpa using h')]
theorem z3_get {α : Type} {f : Int → Int → Int → α} : ∀ (xs ys zs : List Int) (i : Nat) (x y z : Int), xs[i]? = some x → ys[i]? = some y → zs[i]? = some z → (z3 f xs ys zs)[i]? = some (f x y z)
  | [], _, _, _, _, _, _, h, _, _ => by simp at h
  | _ :: _, [], _, _, _, _, _, _, h, _ => by simp at h
  | _ :: _, _ :: _, [], _, _, _, _, _, _, h => by simp at h
  | a :: xs, b :: ys, c :: zs, 0, x, y, z, h, h', h'' => by
    have e1 : a = x := Option.some.inj h
    have e2 : b = y := Option.some.inj h'
    have e3 : c = z := Option.some.inj h''
    subst e1 e2 e3
    rfl
  | a :: xs, b :: ys, c :: zs, i + 1, x, y, z, h, h', h'' => z3_get xs ys zs i x y z h h' h''
theorem take_map {α β : Type} (f : α → β) (xs : List α) (i : Nat) (y : α) (h : xs[i]? = some y) : (xs.take (i + 1)).map f = (xs.take i).map f ++ [f y] := by
  rw [List.take_add_one, h, List.map_append]
  rfl
theorem take_small {α : Type} {xs : List α} {i : Nat} (h : xs.length ≤ 1000) {β : Type} (f : α → β) : ((xs.take i).map f).length < sizeLine := by
  rw [List.length_map, List.length_take]
  exact Nat.lt_of_le_of_lt (Nat.min_le_right _ _) (small1000 h)
def btw (a x b : Int) : Bool := decide (min a b ≤ x) && decide (x ≤ max a b)
def lie (h p t : Int) : Bool := decide (0 ≤ (h - p) * (p - t))
theorem lie_btw (h p t : Int) : lie h p t = btw h p t := by
  have key : 0 ≤ (h - p) * (p - t) ↔ (min h t ≤ p ∧ p ≤ max h t) := by
    constructor
    · intro q
      rcases Int.lt_trichotomy h p with a | a | a
      · rcases Int.lt_or_le t p with b | b
        · exfalso
          have n : (h - p) * (p - t) < 0 := Int.mul_neg_of_neg_of_pos (by omega) (by omega)
          omega
        · omega
      · omega
      · rcases Int.lt_or_le p t with b | b
        · exfalso
          have n : (h - p) * (p - t) < 0 := Int.mul_neg_of_pos_of_neg (by omega) (by omega)
          omega
        · omega
    · intro q
      rcases Int.lt_trichotomy h p with a | a | a
      · exact Int.mul_nonneg_of_nonpos_of_nonpos (by omega) (by omega)
      · rw [a]; simp
      · exact Int.mul_nonneg (by omega) (by omega)
  unfold lie btw
  rw [← Bool.decide_and]
  exact decide_eq_decide.mpr key
theorem z3_congr {α : Type} {f g : Int → Int → Int → α} (h : ∀ x y z, f x y z = g x y z) : ∀ xs ys zs, z3 f xs ys zs = z3 g xs ys zs
  | [], _, _ => rfl
  | _ :: _, [], _ => rfl
  | _ :: _, _ :: _, [] => rfl
  | x :: xs, y :: ys, z :: zs => by simp only [z3, h, z3_congr h xs ys zs]
theorem mid_sum (a b c : Int) : a + b + c - max (max a b) c - min (min a b) c = mid3 a b c := by
  unfold mid3
  split <;> split <;> (try split) <;> omega

section
variable {P : Program} {w : World} {K : PySem.W.Frag} {mg : Str → Option Value} {base : Heap}

def spMiddle (K : PySem.W.Frag) : Sp := fun vs H Q _ => ∃ (a b c : Addr) (xs ys zs : List Int), vs = [.ref a, .ref b, .ref c] ∧ SqT K H a (xs.map V.int) ∧ SqT K H b (ys.map V.int) ∧ SqT K H c (zs.map V.int) ∧ ys.length = xs.length ∧ zs.length = xs.length ∧ xs.length ≤ 1000 ∧
  ∀ H' p, Same H H' → H p = none → H' p = some (.tup ((z3 mid3 xs ys zs).map V.int)) → Q (.ref p) H'
theorem ok_middle {f : Addr} {fd : FuncData} {k : Nat} (F : Fun K "middle" "middle" sMiddle f fd) (mz : mg "zip" = none) (ms : mg "sorted" = none) (mt : mg "tuple" = none) : FnOk P w K mg base CX0 (k + 1) f fd ["one", "two", "three"] (spMiddle K) := by
  refine F.ok scMid (fun vs H Q E h => ?_) (fun cdv A outer s H vs Q E hr h => ?_)
  · obtain ⟨a, b, c, xs, ys, zs, rfl, _⟩ := h
    rfl
  · obtain ⟨a, b, c, xs, ys, zs, rfl, hx, hy, hz, hl, hm, hn, q⟩ := h
    refine ⟨_, pss_one (ps_ret (pe_callTy call_tuple_of (by rfl) mt (by decide +kernel) (pa_cons
      (pe_lc (own := [("places", 3)]) (g := gName 3) (tt := tYes) rfl scMid.nd (pi_zip3 (by rfl) mz (pa_cons (pv 0) (pa_cons (pv 1) (pa_cons (pv 2) pa_nil)))) (blkOk_by (N := ["one", "two", "three", "places"]) (sc := defScope sMiddle) (by decide +kernel))
        (fun _ _ _ _ _ => pg_name (i := 3) scMid.nd rfl (.inl rfl) (hf := .inr rfl)) (fun _ _ _ _ _ => pts_nil)
        (fun _ _ _ _ _ => pe_ix (r := rIxL K) ix_list (pe_callB (id := "sorted") (r := rSortT K) cr_sortT (by rfl) ms (by decide +kernel) (pa_cons (pv 3) pa_nil)) pe_int (fun _ _ => rfl))) pa_nil))), ?_⟩
    refine ⟨.ref a, rfl, .ref b, rfl, .ref c, rfl, a, b, c, _, _, _, rfl, hx, hy, hz, fun D nD => lc_it (walk_zip3 (xs := xs.map V.int) (ys := ys.map V.int) (zs := zs.map V.int) (by simpa using hl) (by simpa using hm)) (fun i H' => Same H H' ∧ H' D = some (.lst (((z3 mid3 xs ys zs).take i).map V.int))) ⟨same_new nD, upd_same⟩ (fun i H' _ p => ⟨sameT p.1 hx, sameT p.1 hy, sameT p.1 hz⟩) (fun i v H1 H2 hi p y => ?_) (fun H' p => ?_)⟩
    · obtain ⟨sm, eD⟩ := p
      obtain ⟨T, x, y, z, rfl, nT, rfl, gx, gy, gz⟩ := y
      obtain ⟨x, ex, rfl⟩ := mapGet gx
      obtain ⟨y, ey, rfl⟩ := mapGet gy
      obtain ⟨z, ez, rfl⟩ := mapGet gz
      have nTD : D ≠ T := ne_of_none eD nT
      refine ⟨rfl, .ref T, rfl, T, [x, y, z], rfl, .inl (.inl upd_same), (show 3 < 64 by decide), fun ns' p pm so np => ?_⟩
      have l3 : ns'.length = 3 := pm.length_eq
      obtain ⟨u1, u2, u3, rfl⟩ : ∃ u1 u2 u3, ns' = [u1, u2, u3] := by
        match ns', l3 with
        | [u1, u2, u3], _ => exact ⟨u1, u2, u3, rfl⟩
      have em : u2 = mid3 x y z := mid_of_sorted pm so
      have nDp : D ≠ p := fun e => by
        rw [← e, upd_ne nTD, eD] at np
        cases np
      refine ⟨p, _, 1, .int u2, rfl, rfl, .inl (.inl upd_same), atI_nat (j := 1) rfl, _, (upd_ne nDp).trans ((upd_ne nTD).trans eD), take_small (by rw [z3_len xs ys zs hl hm]; exact hn) _, ?_, ?_⟩
      · refine same_over (same_over (same_over sm (sm.free nT)) ?_) nD
        have smT : Same H (upd H1 T (.tup [V.int x, V.int y, V.int z])) := same_over sm (sm.free nT)
        exact smT.free np
      · rw [upd_same, take_map _ _ _ _ (z3_get xs ys zs i x y z ex ey ez), em]
    · obtain ⟨sm, eD⟩ := p
      refine ⟨D, _, rfl, .inl ⟨.inl (.inl eD), fun l nl => ?_⟩⟩
      rw [List.length_map, List.take_of_length_le (by rw [z3_len xs ys zs hl hm]; exact Nat.le_refl _)]
      exact q _ l (same_over sm (sm.free nl)) (sm.free nl) upd_same

def spBet (K : PySem.W.Frag) : Sp := fun vs H Q _ => ∃ (a b c : Addr) (xs ys zs : List Int), vs = [.ref a, .ref b, .ref c] ∧ SqT K H a (xs.map V.int) ∧ SqT K H b (ys.map V.int) ∧ SqT K H c (zs.map V.int) ∧ ys.length = xs.length ∧ zs.length = xs.length ∧ xs.length ≤ 1000 ∧
  ∀ H', Same H H' → Q (.bl ((z3 btw xs ys zs).all id)) H'
theorem ok_bet {f : Addr} {fd : FuncData} {k : Nat} (F : Fun K "is_between" "is_between" sBetween f fd) (mz : mg "zip" = none) (mi : mg "min" = none) (ma : mg "max" = none) (mal : mg "all" = none) : FnOk P w K mg base CX0 (k + 1) f fd ["one", "x", "other"] (spBet K) := by
  refine F.ok scBet (fun vs H Q E h => ?_) (fun cdv A outer s H vs Q E hr h => ?_)
  · obtain ⟨a, b, c, xs, ys, zs, rfl, _⟩ := h
    rfl
  · obtain ⟨a, b, c, xs, ys, zs, rfl, hx, hy, hz, hl, hm, hn, q⟩ := h
    refine ⟨_, pss_one (ps_ret (pe_callB (cr_all rfl) (by rfl) mal (by decide +kernel) (pa_cons
      (pe_lc (own := [("a", 3), ("place", 4), ("b", 5)]) (g := gTup K 3 (gCons (gName 3) (gCons (gName 4) (gCons (gName 5) gNil)))) (tt := tYes) rfl scBet.nd (pi_zip3 (by rfl) mz (pa_cons (pv 0) (pa_cons (pv 1) (pa_cons (pv 2) pa_nil)))) (blkOk_by (N := ["one", "x", "other", "a", "place", "b"]) (sc := defScope sBetween) (by decide +kernel))
        (fun _ _ _ _ _ => pg_tup rfl (pgs_cons (pg_name (i := 3) scBet.nd rfl (.inl rfl) (hf := .inr rfl)) (pgs_cons (pg_name (i := 4) scBet.nd rfl (.inl rfl) (hf := .inr rfl)) (pgs_cons (pg_name (i := 5) scBet.nd rfl (.inl rfl) (hf := .inr rfl)) pgs_nil)))) (fun _ _ _ _ _ => pts_nil)
        (fun _ _ _ _ _ => pe_chain op_le op_le (pe_callB (call_min2 rfl) (by rfl) mi (by decide +kernel) (pa_cons (pv 3) (pa_cons (pv 5) pa_nil))) (pv 4) (pe_callB (call_max2 rfl) (by rfl) ma (by decide +kernel) (pa_cons (pv 3) (pa_cons (pv 5) pa_nil))))) pa_nil))), ?_⟩
    refine ⟨.ref a, rfl, .ref b, rfl, .ref c, rfl, a, b, c, _, _, _, rfl, hx, hy, hz, fun D nD => lc_it (walk_zip3 (xs := xs.map V.int) (ys := ys.map V.int) (zs := zs.map V.int) (by simpa using hl) (by simpa using hm)) (fun i H' => Same H H' ∧ H' D = some (.lst (((z3 btw xs ys zs).take i).map V.bl))) ⟨same_new nD, upd_same⟩ (fun i H' _ p => ⟨sameT p.1 hx, sameT p.1 hy, sameT p.1 hz⟩) (fun i v H1 H2 hi p y => ?_) (fun H' p => ?_)⟩
    · obtain ⟨sm, eD⟩ := p
      obtain ⟨T, x, y, z, rfl, nT, rfl, gx, gy, gz⟩ := y
      obtain ⟨x, ex, rfl⟩ := mapGet gx
      obtain ⟨y, ey, rfl⟩ := mapGet gy
      obtain ⟨z, ez, rfl⟩ := mapGet gz
      have nTD : D ≠ T := ne_of_none eD nT
      have fin : ∀ b : Bool, b = btw x y z → ∃ acc, (upd H1 T (.tup [V.int x, V.int y, V.int z])) D = some (.lst acc) ∧ acc.length < sizeLine ∧ Same H (upd (upd H1 T (.tup [V.int x, V.int y, V.int z])) D (.lst (acc ++ [.bl b]))) ∧
          (upd (upd H1 T (.tup [V.int x, V.int y, V.int z])) D (.lst (acc ++ [.bl b]))) D = some (.lst (((z3 btw xs ys zs).take (i + 1)).map V.bl)) := by
        intro b e
        subst e
        refine ⟨_, (upd_ne nTD).trans eD, take_small (by rw [z3_len xs ys zs hl hm]; exact hn) _, same_over (same_over sm (sm.free nT)) nD, ?_⟩
        rw [upd_same, take_map _ _ _ _ (z3_get xs ys zs i x y z ex ey ez)]
      refine ⟨T, _, rfl, .inl (.inl upd_same), rfl, _, _, rfl, _, _, rfl, _, _, rfl, rfl, rfl, .int x, rfl, .int z, rfl, x, z, rfl, .int y, rfl, _, _, rfl, rfl, _, rfl, ite2 (fun c => ?_) (fun c => ?_)⟩
      · have c' := of_decide_eq_true c
        refine ⟨.int x, rfl, .int z, rfl, x, z, rfl, y, _, rfl, rfl, fin _ ?_⟩
        unfold btw
        rw [decide_eq_true (show min x z ≤ y by split at c' <;> omega), Bool.true_and]
        exact decide_eq_decide.mpr (by split <;> omega)
      · have c' : ¬ ((if z < x then z else x) ≤ y) := fun q => c (decide_eq_true q)
        refine fin false ?_
        unfold btw
        rw [decide_eq_false (show ¬ min x z ≤ y by split at c' <;> omega), Bool.false_and]
    · obtain ⟨sm, eD⟩ := p
      refine ⟨D, z3 btw xs ys zs, rfl, .inl (.inl ?_), q H' sm⟩
      rw [eD, List.length_map, List.take_of_length_le (by rw [z3_len xs ys zs hl hm]; exact Nat.le_refl _)]

def spMid : Sp := fun vs H Q _ => ∃ a b c : Int, vs = [.int a, .int b, .int c] ∧ Q (.int (mid3 a b c)) H
theorem ok_mid {f : Addr} {fd : FuncData} {k : Nat} (F : Fun K "_law_mid" "_law_mid" sMid f fd) (mi : mg "min" = none) (ma : mg "max" = none) : FnOk P w K mg base CX0 (k + 1) f fd ["_law_a", "_law_b", "_law_c"] spMid := by
  refine F.ok scM (fun vs H Q E h => ?_) (fun cdv A outer s H vs Q E hr h => ?_)
  · obtain ⟨a, b, c, rfl, _⟩ := h
    rfl
  · obtain ⟨a, b, c, rfl, q⟩ := h
    refine ⟨_, pss_one (ps_ret (pe_op op_sub (pe_op op_sub (pe_op op_add (pe_op op_add (pv 0) (pv 1)) (pv 2)) (pe_callB (max3 rfl) (by rfl) ma (by decide +kernel) (pa_cons (pv 0) (pa_cons (pv 1) (pa_cons (pv 2) pa_nil)))))
      (pe_callB (min3 rfl) (by rfl) mi (by decide +kernel) (pa_cons (pv 0) (pa_cons (pv 1) (pa_cons (pv 2) pa_nil)))))), ?_⟩
    refine ⟨.int a, rfl, .int b, rfl, a, b, rfl, rfl, .int c, rfl, _, c, rfl, rfl, .int a, rfl, .int b, rfl, .int c, rfl, a, b, c, rfl, _, _, rfl, rfl, .int a, rfl, .int b, rfl, .int c, rfl, a, b, c, rfl, _, _, rfl, rfl, ?_⟩
    have e : Q (.int (a + b + c - max (max a b) c - min (min a b) c)) H := by
      rw [mid_sum]
      exact q
    exact e

theorem dist_step {xs ys : List Int} {i : Nat} {x y : Int} (hx : xs[i]? = some x) (hy : ys[i]? = some y) : ((dists xs ys).take (i + 1)).sum = ((dists xs ys).take i).sum + max x y - min x y := by
  rw [List.take_add_one, dists_get xs ys i x y hx hy, List.sum_append]
  simp only [Option.toList_some, List.sum_cons, List.sum_nil]
  split <;> omega
def spApart (K : PySem.W.Frag) : Sp := spFar K
theorem ok_apart {f : Addr} {fd : FuncData} {k : Nat} (F : Fun K "_law_apart" "_law_apart" sApart f fd) (mz : mg "zip" = none) (mi : mg "min" = none) (ma : mg "max" = none) : FnOk P w K mg base CX0 (k + 1) f fd ["_law_one", "_law_other"] (spApart K) := by
  refine F.ok scA (fun vs H Q E h => ?_) (fun cdv A outer s H vs Q E hr h => ?_)
  · obtain ⟨a, b, xs, ys, rfl, _⟩ := h
    rfl
  · obtain ⟨a, b, xs, ys, rfl, hx, hy, hl, hn, q⟩ := h
    refine ⟨_, pss_cons (ps_set (i := 2) scA.nd rfl (.inl rfl) pe_int)
      (pss_cons (ps_for PassesOwn.never rfl (RZ.pi_zipA (by rfl) mz (pa_cons (pv 0) (pa_cons (pv 1) pa_nil)))
        (pg_tup rfl (pgs_cons (pg_name (i := 3) scA.nd rfl (.inl rfl)) (pgs_cons (pg_name (i := 4) scA.nd rfl (.inl rfl)) pgs_nil)))
        (pss_one (ps_set (i := 2) scA.nd rfl (.inl rfl) (pe_op op_sub (pe_op op_add (pv 2) (pe_callB (call_max2 rfl) (by rfl) ma (by decide +kernel) (pa_cons (pv 3) (pa_cons (pv 4) pa_nil)))) (pe_callB (call_min2 rfl) (by rfl) mi (by decide +kernel) (pa_cons (pv 3) (pa_cons (pv 4) pa_nil)))))))
      (pss_one (ps_ret (pv 2)))), ?_⟩
    refine ⟨.ref a, rfl, .ref b, rfl, a, b, _, _, rfl, .inr ⟨hx, hy, for_it (walk_zipT (xs := xs.map V.int) (ys := ys.map V.int) (by simpa using hl))
      (fun i σ H' => (∃ u v, σ = [some (.ref a), some (.ref b), some (.int ((dists xs ys).take i).sum), u, v]) ∧ Same H H') ⟨⟨none, none, rfl⟩, Same.refl H⟩ (fun i σ H' _ p => ⟨sameT p.2 hx, sameT p.2 hy⟩) (fun i v σ H1 H2 hi p y => ?_) (fun σ H' p => ?_)⟩⟩
    · obtain ⟨⟨u, v, rfl⟩, sm⟩ := p
      obtain ⟨T, x, y, rfl, nT, rfl, gx, gy⟩ := y
      obtain ⟨x, ex, rfl⟩ := mapGet gx
      obtain ⟨y, ey, rfl⟩ := mapGet gy
      refine ⟨T, _, rfl, .inl (.inl upd_same), rfl, _, _, rfl, _, _, rfl, rfl, _, rfl, .int x, rfl, .int y, rfl, x, y, rfl, _, _, rfl, rfl, .int x, rfl, .int y, rfl, x, y, rfl, _, _, rfl, rfl, ⟨some (.int x), some (.int y), ?_⟩, same_over sm (sm.free nT)⟩
      rw [dist_step ex ey]
      have e1 : (if y > x then y else x) = max x y := by split <;> omega
      have e2 : (if y < x then y else x) = min x y := by split <;> omega
      rw [e1, e2]
      rfl
    · obtain ⟨⟨u, v, rfl⟩, sm⟩ := p
      refine ⟨_, rfl, ?_⟩
      rw [List.length_map, List.take_of_length_le (by rw [dists_len xs ys hl]; exact Nat.le_refl _), dists_sum]
      exact q H' sm

/-- no number is too long to be written or multiplied -/
def Bd (xs : List Int) : Prop := ∀ x ∈ xs, x.natAbs < 2 ^ 110
theorem Bd.at {xs : List Int} {i : Nat} {x : Int} (h : Bd xs) (e : xs[i]? = some x) : x.natAbs < 2 ^ 110 := h x (List.mem_of_getElem? e)
theorem sub_bd {x y : Int} (h : x.natAbs < 2 ^ 110) (h' : y.natAbs < 2 ^ 110) : (x - y).natAbs < 2 ^ 111 := by omega

def spLies (K : PySem.W.Frag) : Sp := fun vs H Q _ => ∃ (a b c : Addr) (xs ys zs : List Int), vs = [.ref a, .ref b, .ref c] ∧ SqT K H a (xs.map V.int) ∧ SqT K H b (ys.map V.int) ∧ SqT K H c (zs.map V.int) ∧ ys.length = xs.length ∧ zs.length = xs.length ∧ xs.length ≤ 1000 ∧ Bd xs ∧ Bd ys ∧ Bd zs ∧
  ∀ H', Same H H' → Q (.bl ((z3 btw xs ys zs).all id)) H'
theorem ok_lies {f : Addr} {fd : FuncData} {k : Nat} (F : Fun K "_law_lies" "_law_lies" sLies f fd) (mz : mg "zip" = none) (mal : mg "all" = none) : FnOk P w K mg base CX0 (k + 1) f fd ["_law_one", "_law_x", "_law_other"] (spLies K) := by
  refine F.ok scL (fun vs H Q E h => ?_) (fun cdv A outer s H vs Q E hr h => ?_)
  · obtain ⟨a, b, c, xs, ys, zs, rfl, _⟩ := h
    rfl
  · obtain ⟨a, b, c, xs, ys, zs, rfl, hx, hy, hz, hl, hm, hn, b1, b2, b3, q⟩ := h
    refine ⟨_, pss_one (ps_ret (pe_callB (cr_all rfl) (by rfl) mal (by decide +kernel) (pa_cons
      (pe_lc (own := [("_law_here", 3), ("_law_place", 4), ("_law_there", 5)]) (g := gTup K 3 (gCons (gName 3) (gCons (gName 4) (gCons (gName 5) gNil)))) (tt := tYes) rfl scL.nd (pi_zip3 (by rfl) mz (pa_cons (pv 0) (pa_cons (pv 1) (pa_cons (pv 2) pa_nil)))) (blkOk_by (N := ["_law_one", "_law_x", "_law_other", "_law_here", "_law_place", "_law_there"]) (sc := defScope sLies) (by decide +kernel))
        (fun _ _ _ _ _ => pg_tup rfl (pgs_cons (pg_name (i := 3) scL.nd rfl (.inl rfl) (hf := .inr rfl)) (pgs_cons (pg_name (i := 4) scL.nd rfl (.inl rfl) (hf := .inr rfl)) (pgs_cons (pg_name (i := 5) scL.nd rfl (.inl rfl) (hf := .inr rfl)) pgs_nil)))) (fun _ _ _ _ _ => pts_nil)
        (fun _ _ _ _ _ => pe_cmpR op_ge (pe_op op_mulW (pe_op op_sub (pv 3) (pv 4)) (pe_op op_sub (pv 4) (pv 5))) pe_int (nomark _))) pa_nil))), ?_⟩
    rw [← z3_congr lie_btw] at q
    refine ⟨.ref a, rfl, .ref b, rfl, .ref c, rfl, a, b, c, _, _, _, rfl, hx, hy, hz, fun D nD => lc_it (walk_zip3 (xs := xs.map V.int) (ys := ys.map V.int) (zs := zs.map V.int) (by simpa using hl) (by simpa using hm)) (fun i H' => Same H H' ∧ H' D = some (.lst (((z3 lie xs ys zs).take i).map V.bl))) ⟨same_new nD, upd_same⟩ (fun i H' _ p => ⟨sameT p.1 hx, sameT p.1 hy, sameT p.1 hz⟩) (fun i v H1 H2 hi p y => ?_) (fun H' p => ?_)⟩
    · obtain ⟨sm, eD⟩ := p
      obtain ⟨T, x, y, z, rfl, nT, rfl, gx, gy, gz⟩ := y
      obtain ⟨x, ex, rfl⟩ := mapGet gx
      obtain ⟨y, ey, rfl⟩ := mapGet gy
      obtain ⟨z, ez, rfl⟩ := mapGet gz
      have nTD : D ≠ T := ne_of_none eD nT
      refine ⟨T, _, rfl, .inl (.inl upd_same), rfl, _, _, rfl, _, _, rfl, _, _, rfl, rfl, rfl, .int x, rfl, .int y, rfl, x, y, rfl, rfl, .int y, rfl, .int z, rfl, y, z, rfl, rfl, _, _, rfl, rfl, wide_mul (sub_bd (b1.at ex) (b2.at ey)) (sub_bd (b2.at ey) (b3.at ez)) (by decide) (by decide) (by decide), _, 0, rfl, rfl,
        _, (upd_ne nTD).trans eD, take_small (by rw [z3_len xs ys zs hl hm]; exact hn) _, same_over (same_over sm (sm.free nT)) nD, ?_⟩
      rw [upd_same, take_map _ _ _ _ (z3_get xs ys zs i x y z ex ey ez)]
      rfl
    · obtain ⟨sm, eD⟩ := p
      refine ⟨D, z3 lie xs ys zs, rfl, .inl (.inl ?_), q H' sm⟩
      rw [eD, List.length_map, List.take_of_length_le (by rw [z3_len xs ys zs hl hm]; exact Nat.le_refl _)]
end
end K04

set_option Elab.async false
set_option linter.all false
set_option maxRecDepth 100000
namespace K04
open PySem PySem.Spec PyProof.Rows L2 NB

abbrev sPot : Stmt := topS 5
abbrev sTake : Stmt := topS 6
abbrev sOf : Stmt := topS 7
abbrev sStand : Stmt := topS 8
abbrev sWide : Stmt := topS 9
theorem scPot : FnScope ["_law_script", "_law_k", "_law_cell", "_law_great"] ["_law_script", "_law_k"] (defScope sPot) := ⟨rfl, rfl, rfl, by decide +kernel, rfl, by decide +kernel, by decide +kernel⟩
theorem scTake : FnScope ["_law_pot_here", "_law_many", "_law_digit", "_law_prime", "_law_mixed"] ["_law_pot_here", "_law_many"] (defScope sTake) := ⟨rfl, rfl, rfl, by decide +kernel, rfl, by decide +kernel, by decide +kernel⟩
theorem scOf : FnScope ["_law_pot_here", "_law_some_here"] ["_law_pot_here", "_law_some_here"] (defScope sOf) := ⟨rfl, rfl, rfl, by decide +kernel, rfl, by decide +kernel, by decide +kernel⟩
theorem scStand : FnScope ["_law_pot_here", "_law_tops", "_law_top"] ["_law_pot_here", "_law_tops"] (defScope sStand) := ⟨rfl, rfl, rfl, by decide +kernel, rfl, by decide +kernel, by decide +kernel⟩
theorem scWide : FnScope ["_law_pot_here", "_law_found", "_law_thing", "_law_great"] ["_law_pot_here"] (defScope sWide) := ⟨rfl, rfl, rfl, by decide +kernel, rfl, by decide +kernel, by decide +kernel⟩

/-- a pot out of which at most c numbers were taken by reckoning -/
def PotAt (H : Hp) (a : Addr) (c : Nat) : Prop := ∃ p q r : Int, H a = some (.lst [.int p, .int q, .int r]) ∧ 0 ≤ p ∧ 0 ≤ r ∧ r ≤ c
theorem PotAt.mono {H : Hp} {a : Addr} {c d : Nat} (h : PotAt H a c) (le : c ≤ d) : PotAt H a d := by
  obtain ⟨p, q, r, e, h1, h2, h3⟩ := h
  exact ⟨p, q, r, e, h1, h2, by omega⟩
theorem PotAt.keep {H H' : Hp} {a : Addr} {c : Nat} (h : PotAt H a c) (s : Same H H') : PotAt H' a c := by
  obtain ⟨p, q, r, e, h1, h2, h3⟩ := h
  exact ⟨p, q, r, s _ _ e, h1, h2, h3⟩
theorem PotAt.ne {H : Hp} {a b : Addr} {c : Nat} (h : PotAt H a c) (n : H b = none) : b ≠ a := by
  obtain ⟨p, q, r, e, _⟩ := h
  exact (ne_of_none e n).symm
theorem But.free {a b : Addr} {H H' : Hp} (h : But a H H') (ne : b ≠ a) (n : H' b = none) : H b = none := by
  cases e : H b with
  | none => rfl
  | some o =>
    rw [h b o ne e] at n
    cases n
theorem but_new {a p : Addr} {H H' : Hp} {o : HO} (h : But a H H') (n : H p = none) : But a H (upd H' p o) := fun b x ne e => by
  rw [upd_ne (ne_of_none e n)]
  exact h b x ne e
theorem but_at {a : Addr} {H H' : Hp} {o : HO} (h : But a H H') : But a H (upd H' a o) := fun b x ne e => by
  rw [upd_ne ne]
  exact h b x ne e

theorem prime_at (j : Int) (h0 : 0 ≤ j) (h4 : j < 4) : ∃ pr : Int, atI [V.int 2305843009213693951, V.int 999999999989, V.int 1000000000039, V.int 67280421310721] j = some (.int pr) ∧ 0 < pr ∧ pr < 2 ^ 62 := by
  have : j = 0 ∨ j = 1 ∨ j = 2 ∨ j = 3 := by omega
  rcases this with rfl | rfl | rfl | rfl
  · exact ⟨_, atI_nat (j := 0) rfl, by decide, by decide⟩
  · exact ⟨_, atI_nat (j := 1) rfl, by decide, by decide⟩
  · exact ⟨_, atI_nat (j := 2) rfl, by decide, by decide⟩
  · exact ⟨_, atI_nat (j := 3) rfl, by decide, by decide⟩

section
variable {P : Program} {w : World} {K : PySem.W.Frag} {mg : Str → Option Value} {base : Heap}

def spPot (K : PySem.W.Frag) : Sp := fun vs H Q _ => ∃ (a : Addr) (ns : List Int) (k : Nat), vs = [.ref a, .int k] ∧ SqL K H a (ns.map V.int) ∧ k ≤ 1000 ∧
  ∀ H' p, Same H H' → H p = none → PotAt H' p 0 → Q (.ref p) H'
theorem ok_pot {f : Addr} {fd : FuncData} {k : Nat} (F : Fun K "_law_pot" "_law_pot" sPot f fd) (ml : mg "len" = none) (ma : mg "abs" = none) (mi : mg "int" = none) : FnOk P w K mg base CX0 (k + 1) f fd ["_law_script", "_law_k"] (spPot K) := by
  refine F.ok scPot (fun vs H Q E h => ?_) (fun cdv A outer s H vs Q E hr h => ?_)
  · obtain ⟨a, ns, k, rfl, _⟩ := h
    rfl
  · obtain ⟨a, ns, k, rfl, hS, hk, q⟩ := h
    refine ⟨_, pss_cons (ps_set (i := 2) scPot.nd rfl (.inl rfl) (pe_ifExp (pt_cmpR op_lt (pv 1) (pe_callB call_len_seq (by rfl) ml PySem.boot_len (pa_cons (pv 0) pa_nil)) (nomark _)) (pe_ix ix_list (pv 0) (pv 1) (fun _ _ => rfl)) (pe_op op_add (pe_op op_mul pe_int (pv 1)) pe_int)))
      (pss_cons (ps_set (i := 3) scPot.nd rfl (.inl rfl) (pe_op op_mul (pe_op op_mod (pe_callB call_abs (by rfl) ma (by decide +kernel) (pa_cons (pv 2) pa_nil)) (pe_op op_powW (pe_op op_pow pe_int pe_int) pe_int))
          (pe_callTy call_int1 (by rfl) mi (by decide +kernel) (pa_cons (pe_cmpR op_ge (pe_callB call_abs (by rfl) ma (by decide +kernel) (pa_cons (pv 2) pa_nil)) (pe_op op_pow pe_int pe_int) (nomark _)) pa_nil))))
      (pss_one (ps_ret (pe_lst (pa_cons (pv 3) (pa_cons (pe_op op_mod (pe_op op_mul (pe_op op_add (pe_op op_add (pe_op op_mod (pv 2) pe_int) (pe_op op_mul (pe_op op_mul pe_int (pv 1)) (pv 1))) pe_int) pe_int) pe_int) (pa_cons pe_int pa_nil))))))), ?_⟩
    have k1 : -(2 ^ 64) < (k : Int) ∧ (k : Int) < 2 ^ 64 := by omega
    have big : (0 : Int) < (10 ^ (60 : Int).toNat) ^ (5 : Int).toNat := by decide +kernel
    have one : ∀ b : Bool, -(2 ^ 64) < (if b = true then (1 : Int) else 0) ∧ (if b = true then (1 : Int) else 0) < 2 ^ 64 := fun b => by cases b <;> decide
    have nn : ∀ (x : Int) (b : Bool), 0 ≤ x % (10 ^ (60 : Int).toNat) ^ (5 : Int).toNat * (if b = true then (1 : Int) else 0) := fun x b => Int.mul_nonneg (Int.emod_nonneg _ (Int.ne_of_gt big)) (by cases b <;> decide)
    refine ⟨.int k, rfl, .ref a, rfl, a, _, rfl, .inl hS, _, _, rfl, rfl, _, rfl, ite2 (fun c => ?_) (fun c => ?_)⟩
    · have c' := of_decide_eq_true c
      rw [List.length_map] at c'
      have lt : k < ns.length := by omega
      refine ⟨.ref a, rfl, .int k, rfl, a, _, k, .int ns[k], rfl, rfl, hS, atI_nat (by rw [List.getElem?_map, List.getElem?_eq_getElem lt]; rfl), ?_⟩
      refine ⟨.int ns[k], rfl, _, rfl, 10, 60, rfl, rfl, ⟨by decide, by decide, by decide⟩, _, 5, rfl, rfl, ⟨by decide, by decide +kernel⟩, _, _, rfl, rfl, big, .int ns[k], rfl, _, rfl, 10, 18, rfl, rfl, ⟨by decide, by decide, by decide⟩, _, _, rfl, rfl, .inr ⟨_, rfl, _, _, rfl, rfl, .inr (one _), ?_⟩⟩
      refine ⟨_, rfl, .int ns[k], rfl, _, 2305843009213693951, rfl, rfl, (show (0 : Int) < 2305843009213693951 by decide), .int k, rfl, 7919, k, rfl, rfl, .inl ⟨by decide, by decide⟩, .int k, rfl, _, k, rfl, rfl, .inr k1, _, _, rfl, rfl, _, 17, rfl, rfl, _, 48271, rfl, rfl, .inr ⟨by decide, by decide⟩, _, 2305843009213693921, rfl, rfl, (show (0 : Int) < 2305843009213693921 by decide), (show 3 ≤ sizeLine by decide), fun p np => ?_⟩
      exact q _ p (same_new np) np ⟨_, _, 0, upd_same, nn _ _, Int.le_refl _, Int.le_refl _⟩
    · refine ⟨.int k, rfl, 7, _, rfl, rfl, .inl ⟨by decide, by decide⟩, _, 3, rfl, rfl, ?_⟩
      refine ⟨_, rfl, _, rfl, 10, 60, rfl, rfl, ⟨by decide, by decide, by decide⟩, _, 5, rfl, rfl, ⟨by decide, by decide +kernel⟩, _, _, rfl, rfl, big, _, rfl, _, rfl, 10, 18, rfl, rfl, ⟨by decide, by decide, by decide⟩, _, _, rfl, rfl, .inr ⟨_, rfl, _, _, rfl, rfl, .inr (one _), ?_⟩⟩
      refine ⟨_, rfl, _, rfl, _, 2305843009213693951, rfl, rfl, (show (0 : Int) < 2305843009213693951 by decide), .int k, rfl, 7919, k, rfl, rfl, .inl ⟨by decide, by decide⟩, .int k, rfl, _, k, rfl, rfl, .inr k1, _, _, rfl, rfl, _, 17, rfl, rfl, _, 48271, rfl, rfl, .inr ⟨by decide, by decide⟩, _, 2305843009213693921, rfl, rfl, (show (0 : Int) < 2305843009213693921 by decide), (show 3 ≤ sizeLine by decide), fun p np => ?_⟩
      exact q _ p (same_new np) np ⟨_, _, 0, upd_same, nn _ _, Int.le_refl _, Int.le_refl _⟩

/-- a drawn number -/
def spTake : Sp := fun vs H Q _ => ∃ (a : Addr) (m : Int) (c : Nat), vs = [.ref a, .int m] ∧ PotAt H a c ∧ 1 ≤ m ∧ m < 2 ^ 200 ∧ c < 1000000 ∧
  ∀ (d : Int) H', But a H H' → PotAt H' a (c + 1) → 0 ≤ d → d < m → Q (.int d) H'
theorem ok_take {f : Addr} {fd : FuncData} {k : Nat} (F : Fun K "_law_take" "_law_take" sTake f fd) : FnOk P w K mg base CX0 (k + 1) f fd ["_law_pot_here", "_law_many"] spTake := by
  refine F.ok scTake (fun vs H Q E h => ?_) (fun cdv A outer s H vs Q E hr h => ?_)
  · obtain ⟨a, m, c, rfl, _⟩ := h
    rfl
  · obtain ⟨a, m, c, rfl, ⟨p0, p1, p2, ea, n0, n2, l2⟩, m1, m2, hc, q⟩ := h
    refine ⟨_, pss_cons (ps_if (pt_cmpR op_gt (pe_ix ix_list (pv 0) pe_int (fun _ _ => rfl)) pe_int (nomark _))
        (pss_cons (ps_set (i := 2) scTake.nd rfl (.inl rfl) (pe_op op_mod (pe_ix ix_list (pv 0) pe_int (fun _ _ => rfl)) (pv 1)))
        (pss_cons (ps_asg (pe_op op_fdivW (pe_ix ix_list (pv 0) pe_int (fun _ _ => rfl)) (pv 1)) (pg_sub (pv 0) pe_int set_list))
        (pss_one (ps_ret (pv 2))))) pss_nil)
      (pss_cons (ps_asg (pe_op op_add (pe_ix ix_list (pv 0) pe_int (fun _ _ => rfl)) pe_int) (pg_sub (pv 0) pe_int set_list))
      (pss_cons (ps_set (i := 3) scTake.nd rfl (.inl rfl) (pe_ix ix_list (pe_lst (pa_cons pe_int (pa_cons pe_int (pa_cons pe_int (pa_cons pe_int pa_nil))))) (pe_op op_mod (pe_ix ix_list (pv 0) pe_int (fun _ _ => rfl)) pe_int) (fun _ _ => rfl)))
      (pss_cons (ps_set (i := 4) scTake.nd rfl (.inl rfl) (pe_op op_mod (pe_op op_add (pe_op op_add (pe_ix ix_list (pv 0) pe_int (fun _ _ => rfl)) (pe_op op_mul (pe_op op_mul pe_int (pe_ix ix_list (pv 0) pe_int (fun _ _ => rfl))) (pe_ix ix_list (pv 0) pe_int (fun _ _ => rfl)))) (pe_op op_mul pe_int (pe_ix ix_list (pv 0) pe_int (fun _ _ => rfl)))) (pv 3)))
      (pss_cons (ps_set (i := 4) scTake.nd rfl (.inl rfl) (pe_op op_mod (pe_op op_pow (pv 4) pe_int) (pv 3)))
      (pss_one (ps_ret (pe_op op_mod (pe_op op_add (pe_op op_fdiv (pv 4) pe_int) (pe_op op_mul (pe_op op_fdiv (pv 4) pe_int) pe_int)) (pv 1)))))))), ?_⟩
    have mpos : (0 : Int) < m := by omega
    refine ⟨.ref a, rfl, a, _, 0, .int p0, rfl, rfl, .inl (.inl ea), atI_nat (j := 0) rfl, _, 0, rfl, rfl, _, rfl, ite2 (fun _ => ?_) (fun _ => ?_)⟩
    · refine ⟨.ref a, rfl, a, _, 0, .int p0, rfl, rfl, .inl (.inl ea), atI_nat (j := 0) rfl, .int m, rfl, p0, m, rfl, rfl, mpos, ?_⟩
      refine ⟨.ref a, rfl, a, _, 0, .int p0, rfl, rfl, .inl (.inl ea), atI_nat (j := 0) rfl, .int m, rfl, p0, m, rfl, rfl, wide_div (b := 200) mpos (by omega) (by decide) (by decide), ?_⟩
      refine ⟨.ref a, rfl, a, _, 0, 0, rfl, rfl, ea, rfl, ?_⟩
      refine ⟨.int (p0 % m), rfl, ?_⟩
      refine q _ _ (but_at (fun _ _ _ e => e)) ⟨p0 / m, p1, p2, upd_same, Int.ediv_nonneg n0 (by omega), n2, by omega⟩ (Int.emod_nonneg _ (by omega)) (Int.emod_lt_of_pos _ mpos)
    · refine ⟨.ref a, rfl, a, _, 2, .int p2, rfl, rfl, .inl (.inl ea), atI_nat (j := 2) rfl, p2, 1, rfl, rfl, ?_⟩
      refine ⟨.ref a, rfl, a, _, 2, 2, rfl, rfl, ea, rfl, ?_⟩
      obtain ⟨pr, epr, pp, pl⟩ := prime_at ((p2 + 1) % 4) (Int.emod_nonneg _ (by decide)) (Int.emod_lt_of_pos _ (by decide))
      have ea2 : (upd H a (.lst [.int p0, .int p1, .int (p2 + 1)])) a = some (.lst [.int p0, .int p1, .int (p2 + 1)]) := upd_same
      refine ⟨(show 4 ≤ sizeLine by decide), fun l nl => ?_⟩
      have nla : a ≠ l := ne_of_none ea2 nl
      have ea3 : (upd (upd H a (.lst [.int p0, .int p1, .int (p2 + 1)])) l (.lst [V.int 2305843009213693951, V.int 999999999989, V.int 1000000000039, V.int 67280421310721])) a = some (.lst [.int p0, .int p1, .int (p2 + 1)]) := (upd_ne nla).trans ea2
      refine ⟨.ref a, rfl, a, _, 2, .int (p2 + 1), rfl, rfl, .inl (.inl ea3), atI_nat (j := 2) rfl, p2 + 1, 4, rfl, rfl, (show (0 : Int) < 4 by decide), l, _, (p2 + 1) % 4, .int pr, rfl, rfl, .inl (.inl upd_same), epr, ?_⟩
      have b2 : -(2 ^ 64) < p2 + 1 ∧ p2 + 1 < 2 ^ 64 := by omega
      refine ⟨.ref a, rfl, a, _, 1, .int p1, rfl, rfl, .inl (.inl ea3), atI_nat (j := 1) rfl, .ref a, rfl, a, _, 2, .int (p2 + 1), rfl, rfl, .inl (.inl ea3), atI_nat (j := 2) rfl, 7919, p2 + 1, rfl, rfl, .inl ⟨by decide, by decide⟩, .ref a, rfl, a, _, 2, .int (p2 + 1), rfl, rfl, .inl (.inl ea3), atI_nat (j := 2) rfl, _, p2 + 1, rfl, rfl, .inr b2, _, _, rfl, rfl,
        .ref a, rfl, a, _, 2, .int (p2 + 1), rfl, rfl, .inl (.inl ea3), atI_nat (j := 2) rfl, 65537, p2 + 1, rfl, rfl, .inl ⟨by decide, by decide⟩, _, _, rfl, rfl, .int pr, rfl, _, pr, rfl, rfl, pp, ?_⟩
      have mx : ∀ e : Int, (e % pr).natAbs < 2 ^ 64 := fun e => by
        have h1 := Int.emod_nonneg e (Int.ne_of_gt pp)
        have h2 := Int.emod_lt_of_pos e pp
        omega
      refine ⟨_, rfl, _, 5, rfl, rfl, ⟨by decide, by decide, mx _⟩, .int pr, rfl, _, pr, rfl, rfl, pp, ?_⟩
      refine ⟨_, rfl, _, 4099, rfl, rfl, ⟨by decide, by decide⟩, _, rfl, _, 1000003, rfl, rfl, ⟨by decide, by decide⟩, _, 7, rfl, rfl, .inr ⟨by decide, by decide⟩, _, _, rfl, rfl, .int m, rfl, _, m, rfl, rfl, mpos, ?_⟩
      refine q _ _ ?_ ⟨p0, p1, p2 + 1, ea3, n0, by omega, by omega⟩ (Int.emod_nonneg _ (by omega)) (Int.emod_lt_of_pos _ mpos)
      exact but_new (but_at (fun _ _ _ e => e)) (by rw [upd_ne nla.symm] at nl; exact nl)
end
end K04

set_option Elab.async false
set_option linter.all false
set_option maxRecDepth 100000
namespace K04
open PySem PySem.Spec PyProof.Rows L2 NB

/-- a def that is known by its promise -/
structure Kn (P : Program) (w : World) (K : PySem.W.Frag) (mg : Str → Option Value) (base : Heap) (k : Nat) (x : Str) (ps : List Str) (sp : Sp) (f : Addr) (fd : FuncData) : Prop where
  ok : FnOk P w K mg base CX0 k f fd ps sp
  gl : mg x = some (.ref f)
  kp : PySem.W.keepIn K (.ref f) = true
  bi : Binds K fd ps []
theorem pe_kn {X : Cx} {k j : Nat} {x : Str} {ps : List Str} {sp : Sp} {f : Addr} {fd : FuncData} {p pos : Pos} {e : Expr} {es : List Expr} {t : TA} (C : Kn X.prog X.w X.K X.mg X.base k x ps sp f fd) (hr : Room j X.A) (hj : k ≤ j) (ha : PA X (e :: es) t) (hg : Gl X x := by rfl) (hdb : (x == ("__debug__" : Str)) = false := by decide)
    (he : starEach (e :: es) X.env = (false, eval e X.env) :: starEach es X.env := by rfl) (hpl : (backTo pos (starEach es X.env)).any (·.1) = false := by rfl) :
    PE X (.Call (.Name x p) (e :: es) [] pos) (tCall sp [] E0 t) := pe_call C.ok (hr.mono hj) hg C.gl C.kp C.bi .nil pass0 ha hdb he hpl

theorem But.tupP {K : PySem.W.Frag} {a t : Addr} {H H' : Hp} {c : Nat} {xs : List V} (b : But a H H') (p : PotAt H a c) (q : SqT K H t xs) : SqT K H' t xs := by
  obtain ⟨_, _, _, e, _⟩ := p
  rcases q with (q | ⟨o, q⟩) | q
  · exact .inl (.inl (b _ _ (ne_of q e (by intro z; cases z)) q))
  · exact .inl (.inr ⟨o, b _ _ (ne_of q e (by intro z; cases z)) q⟩)
  · exact .inr q
/-- places, or tops -/
def Pl (xs : List Int) : Prop := ∀ x ∈ xs, 0 ≤ x ∧ x < 10 ^ 30
theorem Pl.snoc {xs : List Int} {x : Int} (h : Pl xs) (h0 : 0 ≤ x) (h1 : x < 10 ^ 30) : Pl (xs ++ [x]) := fun y hy => by
  rcases List.mem_append.mp hy with q | q
  · exact h y q
  · rw [List.mem_singleton.mp q]
    exact ⟨h0, h1⟩

section
variable {P : Program} {w : World} {K : PySem.W.Frag} {mg : Str → Option Value} {base : Heap}

/-- one of some -/
def spOf (K : PySem.W.Frag) : Sp := fun vs H Q _ => ∃ (a l : Addr) (xs : List V) (c : Nat), vs = [.ref a, .ref l] ∧ PotAt H a c ∧ l ≠ a ∧ (SqL K H l xs ∨ SqT K H l xs) ∧ 1 ≤ xs.length ∧ xs.length ≤ 1000000 ∧ c < 1000000 ∧
  ∀ x H', x ∈ xs → But a H H' → PotAt H' a (c + 1) → Q x H'
theorem ok_of {f fT : Addr} {fd fdT : FuncData} {k : Nat} (F : Fun K "_law_of" "_law_of" sOf f fd) (T : Kn P w K mg base 1 "_law_take" ["_law_pot_here", "_law_many"] spTake fT fdT) (ml : mg "len" = none) : FnOk P w K mg base CX0 (k + 2) f fd ["_law_pot_here", "_law_some_here"] (spOf K) := by
  refine F.ok scOf (fun vs H Q E h => ?_) (fun cdv A outer s H vs Q E hr h => ?_)
  · obtain ⟨a, l, xs, c, rfl, _⟩ := h
    rfl
  · obtain ⟨a, l, xs, c, rfl, pa, ne, hl, l1, l2, hc, q⟩ := h
    refine ⟨_, pss_one (ps_ret (pe_ix ix_seq (pv 1) (pe_kn T hr (Nat.le_add_left 1 k) (pa_cons (pv 0) (pa_cons (pe_callB call_len_seq (by rfl) ml PySem.boot_len (pa_cons (pv 1) pa_nil)) pa_nil))) (fun _ _ => rfl))), ?_⟩
    refine ⟨.ref l, rfl, .ref a, rfl, .ref l, rfl, l, xs, rfl, hl, a, _, c, rfl, pa, by omega, ?_, hc, fun d H' b p' d0 dm => ?_⟩
    · have : (xs.length : Int) ≤ 1000000 := by omega
      exact Int.lt_of_le_of_lt this (by decide)
    have lt : d.toNat < xs.length := by omega
    have ei : atI xs d = some xs[d.toNat] := by
      have := atI_nat (xs := xs) (j := d.toNat) (List.getElem?_eq_getElem lt)
      rwa [Int.toNat_of_nonneg d0] at this
    have fin := q xs[d.toNat] H' (List.getElem_mem lt) b p'
    rcases hl with h | h
    · exact .inl ⟨l, xs, d, _, rfl, rfl, b.seq ne h, ei, fin⟩
    · exact .inr (.inl ⟨l, xs, d, _, rfl, rfl, b.tup ne h, ei, fin⟩)

/-- a standing -/
def spStand (K : PySem.W.Frag) : Sp := fun vs H Q _ => ∃ (a t : Addr) (tops : List Int) (c : Nat), vs = [.ref a, .ref t] ∧ PotAt H a c ∧ SqT K H t (tops.map V.int) ∧ Pl tops ∧ tops.length ≤ 12 ∧ c < 900000 ∧
  ∀ H' p st, But a H H' → PotAt H' a (c + 12) → H p = none → H' p = some (.tup (st.map V.int)) → st.length = tops.length → Pl st → Q (.ref p) H'
theorem ok_stand {f fT : Addr} {fd fdT : FuncData} {k : Nat} (F : Fun K "_law_standing" "_law_standing" sStand f fd) (T : Kn P w K mg base 1 "_law_take" ["_law_pot_here", "_law_many"] spTake fT fdT) (mt : mg "tuple" = none) : FnOk P w K mg base CX0 (k + 2) f fd ["_law_pot_here", "_law_tops"] (spStand K) := by
  refine F.ok scStand (fun vs H Q E h => ?_) (fun cdv A outer s H vs Q E hr h => ?_)
  · obtain ⟨a, t, tops, c, rfl, _⟩ := h
    rfl
  · obtain ⟨a, t, tops, c, rfl, pa, ht, pl, l12, hc, q⟩ := h
    refine ⟨_, pss_one (ps_ret (pe_callTy call_tuple_of (by rfl) mt (by decide +kernel) (pa_cons
      (pe_lc (own := [("_law_top", 2)]) (g := gName 2) (tt := tYes) rfl scStand.nd (pi_tup (pv 1)) (blkOk_by (N := ["_law_pot_here", "_law_tops", "_law_top"]) (sc := defScope sStand) (by decide +kernel))
        (fun _ _ _ _ _ => pg_name (i := 2) scStand.nd rfl (.inl rfl) (hf := .inr rfl)) (fun _ _ _ _ _ => pts_nil)
        (fun _ _ _ _ _ => pe_kn T hr (Nat.le_add_left 1 k) (pa_cons (pv 0) (pa_cons (pe_op op_add (pv 2) pe_int) pa_nil)))) pa_nil))), ?_⟩
    refine ⟨.ref t, rfl, t, rfl, ⟨_, ht⟩, fun D nD => lc_it (walk_tup (xs := tops.map V.int)) (fun i H' => But a H H' ∧ PotAt H' a (c + i) ∧ ∃ st : List Int, H' D = some (.lst (st.map V.int)) ∧ st.length = i ∧ Pl st)
      ⟨but_new (fun _ _ _ e => e) nD, pa.keep (same_new nD), [], upd_same, rfl, fun _ h => absurd h List.not_mem_nil⟩ (fun i H' _ p => p.1.tupP pa ht) (fun i v H1 H2 hi p y => ?_) (fun H' p => ?_)⟩
    · obtain ⟨b, p1, st, eD, sl, sp⟩ := p
      obtain ⟨rfl, gv⟩ := y
      obtain ⟨x, ex, rfl⟩ := mapGet gv
      have hx := pl x (List.mem_of_getElem? ex)
      have hi' : i < tops.length := by simpa using hi
      refine ⟨rfl, .ref a, rfl, .int x, rfl, x, 1, rfl, rfl, a, x + 1, c + i, rfl, p1, by omega, ?_, by omega, fun d H3 b3 p3 d0 dm => ?_⟩
      · have : x + 1 ≤ 10 ^ 30 := by omega
        exact Int.lt_of_le_of_lt this (by decide)
      have nDa : D ≠ a := pa.ne nD
      refine ⟨_, b3 _ _ nDa eD, ?_, but_new (b.trans b3) nD, ?_, st ++ [d], ?_, ?_, sp.snoc d0 (by omega)⟩
      · rw [List.length_map]
        exact small1000 (by omega)
      · obtain ⟨u, v, r, e, z⟩ := p3
        exact ⟨u, v, r, (upd_ne nDa.symm).trans e, z⟩
      · rw [upd_same, List.map_append]
        rfl
      · rw [List.length_append, sl]
        rfl
    · obtain ⟨b, p1, st, eD, sl, sp⟩ := p
      rw [List.length_map] at p1 sl
      refine ⟨D, _, rfl, .inl ⟨.inl (.inl eD), fun l nl => ?_⟩⟩
      have nla : l ≠ a := p1.ne nl
      have nlH : H l = none := b.free nla nl
      refine q _ l st (but_new b nlH) (((p1.mono (by omega)).keep (same_new nl))) nlH upd_same sl sp
end
end K04

set_option Elab.async false
set_option linter.all false
set_option maxRecDepth 100000
namespace K04
open PySem PySem.Spec PyProof.Rows L2 NB

section
variable {P : Program} {w : World} {K : PySem.W.Frag} {mg : Str → Option Value} {base : Heap}

theorem pot_upd {H : Hp} {a p : Addr} {c : Nat} {o : HO} (h : PotAt H a c) (n : p ≠ a) : PotAt (upd H p o) a c := by
  obtain ⟨x, y, z, e, r⟩ := h
  exact ⟨x, y, z, (upd_ne n.symm).trans e, r⟩
theorem e15 : (10 : Int) ^ (15 : Int).toNat = 1000000000000000 := by decide
theorem e30 : (10 : Int) ^ (30 : Int).toNat = 10 ^ 30 := by decide

def spWide (K : PySem.W.Frag) : Sp := fun vs H Q _ => ∃ (a : Addr) (c : Nat), vs = [.ref a] ∧ PotAt H a c ∧ c < 900000 ∧
  ∀ H' p tops, But a H H' → PotAt H' a (c + 60) → H p = none → H' p = some (.tup (tops.map V.int)) → 2 ≤ tops.length → tops.length ≤ 12 → Pl tops → Q (.ref p) H'
theorem ok_wide {f fT fO : Addr} {fd fdT fdO : FuncData} {k : Nat} (F : Fun K "_law_wide_tops" "_law_wide_tops" sWide f fd) (T : Kn P w K mg base 1 "_law_take" ["_law_pot_here", "_law_many"] spTake fT fdT)
    (O : Kn P w K mg base 2 "_law_of" ["_law_pot_here", "_law_some_here"] (spOf K) fO fdO) (mr : mg "range" = none) (mt : mg "tuple" = none) : FnOk P w K mg base CX0 (k + 3) f fd ["_law_pot_here"] (spWide K) := by
  refine F.ok scWide (fun vs H Q E h => ?_) (fun cdv A outer s H vs Q E hr h => ?_)
  · obtain ⟨a, c, rfl, _⟩ := h
    rfl
  · obtain ⟨a, c, rfl, pa, hc, q⟩ := h
    refine ⟨_, pss_cons (ps_set (i := 1) scWide.nd rfl (.inl rfl) (pe_lst pa_nil))
      (pss_cons (ps_for PassesOwn.never rfl (pi_range1 (by rfl) mr (pa_cons (pe_op op_add pe_int (pe_kn T hr (by omega) (pa_cons (pv 0) (pa_cons pe_int pa_nil)))) pa_nil)) (pg_name (i := 2) scWide.nd rfl (.inl rfl))
        (pss_cons (ps_set (i := 3) scWide.nd rfl (.inl rfl) (pe_op op_add (pe_op op_mul (pe_kn T hr (by omega) (pa_cons (pv 0) (pa_cons (pe_op op_pow pe_int pe_int) pa_nil))) (pe_op op_pow pe_int pe_int)) (pe_kn T hr (by omega) (pa_cons (pv 0) (pa_cons (pe_op op_pow pe_int pe_int) pa_nil)))))
        (pss_one (ps_expr (pe_bm PySem.F.plainAttrs_list PySem.F.slot_list_append PySem.F.type_list_append mt_append (pv 1) (pa_cons (pe_kn O hr (by omega) (pa_cons (pv 0) (pa_cons (pe_lst (pa_cons pe_int (pa_cons pe_int (pa_cons pe_int (pa_cons pe_int (pa_cons (pv 3) (pa_cons (pe_op op_sub (pe_op op_pow pe_int pe_int) pe_int) pa_nil))))))) pa_nil))) pa_nil))))))
      (pss_one (ps_ret (pe_callTy call_tuple_of (by rfl) mt (by decide +kernel) (pa_cons (pv 1) pa_nil))))), ?_⟩
    refine ⟨Nat.zero_le _, fun l nl => ?_⟩
    have nla : l ≠ a := pa.ne nl
    refine ⟨.ref a, rfl, a, 11, c, rfl, pot_upd pa nla, by decide, by decide, by omega, fun d H1 b1 p1 d0 d1 => ?_⟩
    have el1 : H1 l = some (.lst []) := b1 _ _ nla upd_same
    have bl1 : But a H H1 := fun b o ne e => b1 _ _ ne (by rw [upd_ne (ne_of_none e nl)]; exact e)
    refine ⟨2, d, rfl, rfl, 2 + d, rfl, by omega, by omega, for_it walk_range (fun i σ H' => (∃ u v, σ = [some (.ref a), some (.ref l), u, v]) ∧ But a H H' ∧ PotAt H' a (c + 1 + 3 * i) ∧ ∃ ts : List Int, H' l = some (.lst (ts.map V.int)) ∧ ts.length = i ∧ Pl ts)
      ⟨⟨none, none, rfl⟩, bl1, p1, [], el1, rfl, fun _ h => absurd h List.not_mem_nil⟩ (fun _ _ _ _ _ => trivial) (fun i v σ H2 H3 hi p y => ?_) (fun σ H2 p => ?_)⟩
    · obtain ⟨⟨u, v', rfl⟩, b2, p2, ts, el2, tl, tp⟩ := p
      obtain ⟨rfl, rfl⟩ := y
      have hi' : i < 12 := by omega
      refine ⟨.ref a, rfl, 10, 15, rfl, rfl, ⟨by decide, by decide, by decide⟩, a, _, c + 1 + 3 * i, rfl, p2, by rw [e15]; decide, by rw [e15]; decide, by omega, fun g1 H4 b4 p4 g0 gm => ?_⟩
      rw [e15] at gm
      refine ⟨10, 15, rfl, rfl, ⟨by decide, by decide, by decide⟩, g1, _, rfl, rfl, .inr (by rw [e15]; exact ⟨by decide, by decide⟩), .ref a, rfl, 10, 15, rfl, rfl, ⟨by decide, by decide, by decide⟩, a, _, c + 1 + 3 * i + 1, rfl, p4, by rw [e15]; decide, by rw [e15]; decide, by omega, fun g2 H5 b5 p5 h0 hm => ?_⟩
      rw [e15] at hm
      refine ⟨_, g2, rfl, rfl, ?_⟩
      have el5 : H5 l = some (.lst (ts.map V.int)) := b5 _ _ nla (b4 _ _ nla el2)
      refine ⟨.ref l, rfl, .inl ⟨rfl, _, .inl (.inl el5)⟩, .ref a, rfl, _, rfl, 10, 30, rfl, rfl, ⟨by decide, by decide, by decide⟩, _, 1, rfl, rfl, (show 6 ≤ sizeLine by decide), fun m nm => ?_⟩
      have nma : m ≠ a := p5.ne nm
      have nml : l ≠ m := ne_of_none el5 nm
      refine ⟨a, m, _, c + 1 + 3 * i + 1 + 1, rfl, pot_upd p5 nma, nma, .inl (.inl (.inl upd_same)), (show 1 ≤ 6 by decide), (show 6 ≤ 1000000 by decide), by omega, fun x H6 hx b6 p6 => ?_⟩
      have hx' : ∃ t : Int, x = .int t ∧ 0 ≤ t ∧ t < 10 ^ 30 := by
        simp only [List.mem_cons, List.not_mem_nil, or_false] at hx
        rcases hx with e | e | e | e | e | e
        · exact ⟨_, e, by decide, by decide⟩
        · exact ⟨_, e, by decide, by decide⟩
        · exact ⟨_, e, by decide, by decide⟩
        · exact ⟨_, e, by decide, by decide⟩
        · refine ⟨_, e, ?_, ?_⟩ <;> rw [e15] <;> omega
        · refine ⟨_, e, ?_, ?_⟩ <;> rw [e30] <;> decide
      obtain ⟨t, rfl, t0, t1⟩ := hx'
      have el6 : H6 l = some (.lst (ts.map V.int)) := b6 _ _ nla ((upd_ne nml).trans el5)
      refine ⟨l, _, _, rfl, rfl, el6, by rw [List.length_map]; exact small1000 (by omega), ⟨_, _, rfl⟩, ?_, ?_, ts ++ [t], ?_, ?_, tp.snoc t0 t1⟩
      · have nmH : H5 m = none := nm
        have b26 : But a H3 H6 := fun b o ne e => b6 _ _ ne (by
          have e5 := b5 _ _ ne (b4 _ _ ne e)
          rw [upd_ne (ne_of_none e5 nm)]
          exact e5)
        exact but_new (b2.trans b26) nl
      · exact pot_upd (p6.mono (by omega)) nla
      · rw [upd_same, List.map_append]
        rfl
      · rw [List.length_append, tl]
        rfl
    · obtain ⟨⟨u, v', rfl⟩, b2, p2, ts, el2, tl, tp⟩ := p
      refine ⟨.ref l, rfl, l, _, rfl, .inl ⟨.inl (.inl el2), fun m nm => ?_⟩⟩
      have nma : m ≠ a := p2.ne nm
      have nmH : H m = none := b2.free nma nm
      exact q _ m ts (but_new b2 nmH) (pot_upd (p2.mono (by omega)) nma) nmH upd_same (by omega) (by omega) tp
end
end K04

set_option Elab.async false
set_option linter.all false
set_option maxRecDepth 100000
namespace K04
open PySem PySem.Spec PyProof.Rows L2 NB

abbrev sSome : Stmt := topS 10
abbrev nSome : List Str := ["_law_pot_here", "_law_tops", "_law_found", "_law_turn", "_law_drawn", "_law_kind", "_law_at", "_law_thing", "_law_one"]
theorem scSome : FnScope nSome ["_law_pot_here", "_law_tops"] (defScope sSome) := ⟨rfl, rfl, rfl, by decide +kernel, rfl, by decide +kernel, by decide +kernel⟩
/-- the scope of the comprehension by things -/
def scThing : Scope := { kind := .function, names := [(".0", .local), ("_law_thing", .cell), ("_law_of", .globalImplicit), ("_law_found", .cell), ("_law_pot_here", .cell)], isGenerator := false, isCoroutine := false }

/-- a standing of n things -/
def Std (n : Nat) (H : Hp) (p : Addr) (st : List Int) : Prop := H p = some (.tup (st.map V.int)) ∧ st.length = n ∧ Pl st
theorem Std.but {n : Nat} {H H' : Hp} {a p : Addr} {c : Nat} {st : List Int} (h : Std n H p st) (b : But a H H') (pa : PotAt H a c) : Std n H' p st := by
  obtain ⟨_, _, _, e, _⟩ := pa
  exact ⟨b _ _ (ne_of h.1 e (by intro z; cases z)) h.1, h.2⟩
theorem Std.same {n : Nat} {H H' : Hp} {p : Addr} {st : List Int} (h : Std n H p st) (s : Same H H') : Std n H' p st := ⟨s _ _ h.1, h.2⟩
theorem Std.upd {n : Nat} {H : Hp} {p l : Addr} {o : HO} {xs : List V} {st : List Int} (h : Std n H p st) (e : H l = some (.lst xs)) : Std n (upd H l o) p st :=
  ⟨(upd_ne (ne_of h.1 e (by intro z; cases z))).trans h.1, h.2⟩
theorem Pl.sub {xs ys : List Int} (h : Pl xs) (s : ∀ y ∈ ys, y ∈ xs) : Pl ys := fun y hy => h y (s y hy)
theorem Pl.app {xs ys : List Int} (h : Pl xs) (h' : Pl ys) : Pl (xs ++ ys) := fun y hy => by
  rcases List.mem_append.mp hy with q | q
  · exact h y q
  · exact h' y q
/-- a piece of a tuple -/
def piece (xs : List Int) (lo hi : Option Int) : List Int := (xs.drop (HT.sIx xs.length 0 lo)).take (HT.sIx xs.length xs.length hi - HT.sIx xs.length 0 lo)
theorem cut_piece (xs : List Int) (lo hi : Option Int) : cutV (xs.map V.int) lo hi = (piece xs lo hi).map V.int := by
  unfold cutV piece
  rw [List.length_map, List.map_take, List.map_drop]
theorem Pl.piece {xs : List Int} (h : Pl xs) (lo hi : Option Int) : Pl (piece xs lo hi) := h.sub fun y hy => List.mem_of_mem_drop (List.mem_of_mem_take hy)
theorem piece_len (xs : List Int) (lo hi : Option Int) : (piece xs lo hi).length = min (HT.sIx xs.length xs.length hi - HT.sIx xs.length 0 lo) (xs.length - HT.sIx xs.length 0 lo) := by
  unfold piece
  rw [List.length_take, List.length_drop]
theorem cat_any {K : PySem.W.Frag} {H : Hp} {a b : Addr} {xs ys : List Int} {Q : VK} (ha : H a = some (.tup (xs.map V.int))) (hb : H b = some (.tup (ys.map V.int))) (hl : xs.length + ys.length ≤ 1000)
    (q : ∀ p H', Same H H' → H' p = some (.tup ((xs ++ ys).map V.int)) → Q (.ref p) H') : rCatA K (.ref a) (.ref b) H Q := by
  refine ⟨a, b, _, _, rfl, rfl, .inl (.inl ha), .inl (.inl hb), ?_, fun e => ?_, fun _ e => ?_, fun _ _ p np => ?_⟩
  · rw [List.length_map, List.length_map]
    exact Nat.le_of_lt (small1000 hl)
  · have e' : xs = [] := List.map_eq_nil_iff.mp e
    subst e'
    exact q b H (Same.refl H) hb
  · have e' : ys = [] := List.map_eq_nil_iff.mp e
    subst e'
    refine q a H (Same.refl H) ?_
    rw [List.append_nil]
    exact ha
  · refine q p _ (same_new np) ?_
    rw [upd_same, List.map_append]

section
variable {P : Program} {w : World} {K : PySem.W.Frag} {mg : Str → Option Value} {base : Heap}

abbrev refs (ps : List (Addr × List Int)) : List V := ps.map fun q => V.ref q.1
def spSome (K : PySem.W.Frag) : Sp := fun vs H Q _ => ∃ (a t : Addr) (tops : List Int) (c : Nat), vs = [.ref a, .ref t] ∧ PotAt H a c ∧ SqT K H t (tops.map V.int) ∧ Pl tops ∧ 2 ≤ tops.length ∧ tops.length ≤ 12 ∧ c < 800000 ∧
  ∀ H' l ps, But a H H' → PotAt H' a (c + 200) → H l = none → H' l = some (.lst (refs ps)) → (∀ q ∈ ps, Std tops.length H' q.1 q.2) → ps.length = 5 → Q (.ref l) H'

theorem ok_some {f fT fO fS : Addr} {fd fdT fdO fdS : FuncData} {k : Nat} (F : Fun K "_law_some" "_law_some" sSome f fd) (T : Kn P w K mg base 1 "_law_take" ["_law_pot_here", "_law_many"] spTake fT fdT)
    (O : Kn P w K mg base 2 "_law_of" ["_law_pot_here", "_law_some_here"] (spOf K) fO fdO) (S : Kn P w K mg base 2 "_law_standing" ["_law_pot_here", "_law_tops"] (spStand K) fS fdS)
    (mr : mg "range" = none) (mt : mg "tuple" = none) (ml : mg "len" = none) : FnOk P w K mg base CX0 (k + 3) f fd ["_law_pot_here", "_law_tops"] (spSome K) := by
  refine F.ok scSome (fun vs H Q E h => ?_) (fun cdv A outer s H vs Q E hr h => ?_)
  · obtain ⟨a, t, tops, c, rfl, _⟩ := h
    rfl
  · obtain ⟨a, t, tops, c, rfl, pa, ht, pl, l2, l12, hc, q⟩ := h
    refine ⟨_, pss_cons (ps_set (i := 2) scSome.nd rfl (.inr rfl) (pe_lst (pa_cons (pe_kn S hr (by omega) (pa_cons (pv 0) (pa_cons (pv 1) pa_nil))) (pa_cons (pe_kn S hr (by omega) (pa_cons (pv 0) (pa_cons (pv 1) pa_nil))) pa_nil))))
      (pss_cons (ps_for PassesOwn.never rfl (pi_range1 (by rfl) mr (pa_cons pe_int pa_nil)) (pg_name (i := 3) scSome.nd rfl (.inl rfl))
        (pss_cons (ps_par (i := 4) (j := 5) rfl scSome.nd rfl rfl (by decide) rfl rfl (pa_cons (pe_kn S hr (by omega) (pa_cons (pv 0) (pa_cons (pv 1) pa_nil))) (pa_cons (pe_kn T hr (by omega) (pa_cons (pv 0) (pa_cons pe_int pa_nil))) pa_nil)) (by rfl))
        (C8.pss_cut (ps_if (pt_cmpR op_eq (pv 5) pe_int (nomark _))
            (pss_one (ps_set (i := 4) scSome.nd rfl (.inl rfl) (pe_callTy call_tuple_of (by rfl) mt (by decide +kernel) (pa_cons
              (pe_lc (own := [("_law_thing", 7)]) (g := gName 7) (tt := tYes) (te := tCall (spOf K) [] E0 (tCons (tVar 0) (tCons (tLc (iList K (tVar 2)) (gName 8) tYes (tOp (rIxT K) (tVar 8) (tVar 7)) [8]) tNil))) rfl scSome.nd (pi_range1 (by rfl) mr (pa_cons (pe_callB call_len_seq (by rfl) ml PySem.boot_len (pa_cons (pv 1) pa_nil)) pa_nil)) (blkOk_by (N := nSome) (sc := defScope sSome) (by decide +kernel))
                (fun _ _ _ _ _ => pg_name (i := 7) scSome.nd rfl (.inr rfl) (hf := .inl rfl)) (fun _ _ _ _ _ => pts_nil)
                (fun _ _ _ _ _ => pe_kn O hr (by omega) (pa_cons (pv 0) (pa_cons
                  (pe_lc (own := [("_law_one", 8)]) (g := gName 8) (tt := tYes) (te := tOp (rIxT K) (tVar 8) (tVar 7)) rfl scSome.nd (pi_list (pv 2)) (blkOk_by (N := nSome) (sc := scThing) (by decide +kernel))
                    (fun _ _ _ _ _ => pg_name (i := 8) scSome.nd rfl (.inl rfl) (hf := .inr rfl)) (fun _ _ _ _ _ => pts_nil) (fun _ _ _ _ _ => pe_ix (r := rIxT K) ix_tup (pv 8) (pv 7) (fun _ _ => rfl))) pa_nil)))) pa_nil))))
            (pss_one (ps_if (pt_cmpR op_eq (pv 5) pe_int (nomark _))
              (pss_cons (ps_set (i := 6) scSome.nd rfl (.inl rfl) (pe_kn T hr (by omega) (pa_cons (pv 0) (pa_cons (pe_callB call_len_seq (by rfl) ml PySem.boot_len (pa_cons (pv 1) pa_nil)) pa_nil))))
              (pss_one (ps_set (i := 4) scSome.nd rfl (.inl rfl) (pe_op op_catA (pe_op op_catA (pe_slice sl_tup (pe_ix ix_list (pv 2) pe_int (fun _ _ => rfl)) po_none (po_some (pv 6))) (pe_slice sl_tup (pv 4) (po_some (pv 6)) (po_some (pe_op op_add (pv 6) pe_int))))
                (pe_slice sl_tup (pe_ix ix_list (pv 2) pe_int (fun _ _ => rfl)) (po_some (pe_op op_add (pv 6) pe_int)) po_none)))))
              pss_nil)))
          (pss_one (ps_expr (pe_bm PySem.F.plainAttrs_list PySem.F.slot_list_append PySem.F.type_list_append mt_append (pv 2) (pa_cons (pv 4) pa_nil)))))))
      (pss_one (ps_ret (pv 2)))), ?_⟩
    have tN : ∀ H', But a H H' → SqT K H' t (tops.map V.int) := fun H' b => b.tupP pa ht
    refine ⟨.ref a, rfl, .ref t, rfl, a, t, tops, c, rfl, pa, ht, pl, l12, by omega, fun H1 p1 st1 b1 q1 n1 e1 s1 m1 => ?_⟩
    refine ⟨.ref a, rfl, .ref t, rfl, a, t, tops, c + 12, rfl, q1, tN _ b1, pl, l12, by omega, fun H2 p2 st2 b2 q2 n2 e2 s2 m2 => ?_⟩
    refine ⟨(show 2 ≤ sizeLine by decide), fun l nl => ?_⟩
    have nla : l ≠ a := q2.ne nl
    have nlH : H l = none := (b1.trans b2).free nla nl
    have S1 : Std tops.length H2 p1 st1 := Std.but ⟨e1, s1, m1⟩ b2 q1
    have S2 : Std tops.length H2 p2 st2 := ⟨e2, s2, m2⟩
    refine ⟨3, rfl, by decide, by decide, for_it walk_range (fun i σ H' => (∃ u3 u4 u5 u6 u7 u8, σ = [some (.ref a), some (.ref t), some (.ref l), u3, u4, u5, u6, u7, u8]) ∧ But a H H' ∧ PotAt H' a (c + 24 + 26 * i) ∧ ∃ ps, H' l = some (.lst (refs ps)) ∧ (∀ q ∈ ps, Std tops.length H' q.1 q.2) ∧ ps.length = 2 + i)
      ⟨⟨none, none, none, none, none, none, rfl⟩, but_new (b1.trans b2) nlH, pot_upd q2 nla, [(p1, st1), (p2, st2)], upd_same, fun z hz => ?_, rfl⟩ (fun _ _ _ _ _ => trivial) (fun i v σ H3 H3' hi p y => ?_) (fun σ H3 p => ?_)⟩
    · simp only [List.mem_cons, List.not_mem_nil, or_false] at hz
      rcases hz with e | e <;> rw [e]
      · exact S1.same (same_new nl)
      · exact S2.same (same_new nl)
    · obtain ⟨⟨u3, u4, u5, u6, u7, u8, rfl⟩, b3, q3, ps, el3, sp3, pn⟩ := p
      obtain ⟨rfl, rfl⟩ := y
      refine ⟨.ref a, rfl, .ref t, rfl, a, t, tops, _, rfl, q3, tN _ b3, pl, l12, by omega, fun H4 p4 st4 b4 q4 n4 e4 s4 m4 => ?_⟩
      refine ⟨.ref a, rfl, a, 3, _, rfl, q4, by decide, by decide, by omega, fun kd H5 b5 q5 k0 k1 => ⟨_, _, rfl, ?_⟩⟩
      have b45 := b4.trans b5
      have b05 := b3.trans b45
      have el5 : H5 l = some (.lst (refs ps)) := b45 _ _ nla el3
      have sp5 : ∀ q ∈ ps, Std tops.length H5 q.1 q.2 := fun z hz => ((sp3 z hz).but b4 q3).but b5 q4
      have S5 : Std tops.length H5 p4 st4 := Std.but ⟨e4, s4, m4⟩ b5 q4
      refine ⟨fun σ' H' => ∃ kd u6 u7 u8 p st, σ' = [some (.ref a), some (.ref t), some (.ref l), some (.int (0 + i)), some (.ref p), kd, u6, u7, u8] ∧ But a H H' ∧ PotAt H' a (c + 24 + 26 * (i + 1)) ∧ H' l = some (.lst (refs ps)) ∧ (∀ q ∈ ps, Std tops.length H' q.1 q.2) ∧ Std tops.length H' p st, ?_, fun σ' H' hm => ?_⟩
      · refine ⟨.int kd, rfl, rfl, _, rfl, ite2 (fun _ => ?_) (fun _ => ?_)⟩
        · refine ⟨.ref t, rfl, t, _, rfl, .inr (tN _ b05), _, rfl, by rw [List.length_map]; omega, by rw [List.length_map]; omega, fun D nD => lc_it walk_range (fun j H' => But a H5 H' ∧ PotAt H' a (c + 24 + 26 * i + 12 + 1 + j) ∧ ∃ st : List Int, H' D = some (.lst (st.map V.int)) ∧ st.length = j ∧ Pl st)
            ⟨but_new (fun _ _ _ e => e) nD, pot_upd q5 (q5.ne nD), [], upd_same, rfl, fun _ h => absurd h List.not_mem_nil⟩ (fun _ _ _ _ => trivial) (fun j v H6 H6' hj p y => ?_) (fun H6 p => ?_)⟩
          · obtain ⟨b6, q6, st, eD, sl, sp⟩ := p
            obtain ⟨rfl, rfl⟩ := y
            rw [List.length_map, Int.toNat_natCast] at hj
            have nDa : D ≠ a := q5.ne nD
            have el6 : H6' l = some (.lst (refs ps)) := b6 _ _ nla el5
            have sp6 : ∀ q ∈ ps, Std tops.length H6' q.1 q.2 := fun z hz => (sp5 z hz).but b6 q5
            refine ⟨rfl, .ref a, rfl, .ref l, rfl, l, rfl, ⟨_, .inl (.inl el6)⟩, fun L nL => lc_it (walk_list (xs := refs ps)) (fun m H' => Same H6' H' ∧ ∃ vs : List Int, H' L = some (.lst (vs.map V.int)) ∧ vs.length = m ∧ Pl vs)
              ⟨same_new nL, [], upd_same, rfl, fun _ h => absurd h List.not_mem_nil⟩ (fun m H' _ p => p.1.seq (.inl (.inl el6))) (fun m v H7 H7' hm p y => ?_) (fun H7 p => ?_)⟩
            · obtain ⟨s7, vs, eL, vl, vp⟩ := p
              obtain ⟨rfl, gv⟩ := y
              obtain ⟨z, ez, rfl⟩ := mapGet gv
              have Sz := (sp6 z (List.mem_of_getElem? ez)).same s7
              have jl : j < z.2.length := by rw [Sz.2.1]; exact hj
              have hm' : m < ps.length := by simpa using hm
              refine ⟨rfl, .ref z.1, rfl, .int (0 + j), rfl, z.1, _, (0 + j : Int), .int z.2[j], rfl, rfl, .inl (.inl Sz.1), ?_, _, eL, by rw [List.length_map]; exact small1000 (by omega), same_over s7 nL, vs ++ [z.2[j]], ?_, ?_, ?_⟩
              · rw [Int.zero_add]
                exact atI_nat (by rw [List.getElem?_map, List.getElem?_eq_getElem jl]; rfl)
              · rw [upd_same, List.map_append]
                rfl
              · rw [List.length_append, vl]
                rfl
              · have hz := Sz.2.2 _ (List.getElem_mem jl)
                exact vp.snoc hz.1 hz.2
            · obtain ⟨s7, vs, eL, vl, vp⟩ := p
              have nLa : L ≠ a := q6.ne nL
              have q7 := q6.keep s7
              rw [List.length_map] at vl
              refine ⟨a, L, _, _, rfl, q7, nLa, .inl (.inl (.inl eL)), by rw [List.length_map]; omega, by rw [List.length_map]; omega, by omega, fun x H8 hx b8 q8 => ?_⟩
              obtain ⟨v, hv, rfl⟩ := List.mem_map.mp hx
              have eD7 : H7 D = some (.lst (st.map V.int)) := s7 _ _ eD
              refine ⟨_, b8 _ _ nDa eD7, by rw [List.length_map]; exact small1000 (by omega), but_new (fun b o ne e => b8 _ _ ne (s7 _ _ (b6 _ _ ne e))) nD, pot_upd q8 nDa, st ++ [v], ?_, ?_, sp.snoc (vp v hv).1 (vp v hv).2⟩
              · rw [upd_same, List.map_append]
                rfl
              · rw [List.length_append, sl]
                rfl
          · obtain ⟨b6, q6, st, eD, sl, sp⟩ := p
            rw [List.length_map, Int.toNat_natCast] at q6 sl
            refine ⟨D, _, rfl, .inl ⟨.inl (.inl eD), fun m nm => ?_⟩⟩
            have nma : m ≠ a := q6.ne nm
            refine ⟨_, _, _, _, m, st, rfl, but_new (b05.trans b6) ((b05.trans b6).free nma nm), pot_upd (q6.mono (by omega)) nma, same_new nm _ _ (b6 _ _ nla el5), fun z hz => ((sp5 z hz).but b6 q5).same (same_new nm), upd_same, sl, sp⟩
        · refine ⟨.int kd, rfl, rfl, _, rfl, ite2 (fun _ => ?_) (fun _ => ?_)⟩
          · refine ⟨.ref a, rfl, .ref t, rfl, t, _, rfl, .inr (tN _ b05), a, _, _, rfl, q5, by rw [List.length_map]; omega, ?_, by omega, fun at_ H6 b6 q6 a0 a1 => ?_⟩
            · rw [List.length_map]
              have : (tops.length : Int) ≤ 12 := by omega
              exact Int.lt_of_le_of_lt this (by decide)
            rw [List.length_map] at a1
            obtain ⟨n, rfl⟩ : ∃ n : Nat, at_ = n := ⟨at_.toNat, by omega⟩
            have nl' : n < tops.length := by omega
            obtain ⟨z, zs, rfl⟩ : ∃ z zs, ps = z :: zs := by
              cases ps with
              | nil =>
                have z0 : 0 = 2 + i := pn
                omega
              | cons z zs => exact ⟨z, zs, rfl⟩
            have el6 : H6 l = some (.lst (refs (z :: zs))) := b6 _ _ nla el5
            have Sz : Std tops.length H6 z.1 z.2 := (sp5 z List.mem_cons_self).but b6 q5
            have S6 : Std tops.length H6 p4 st4 := S5.but b6 q5
            have ez : z.2.length = tops.length := Sz.2.1
            have es : st4.length = tops.length := S6.2.1
            have ix : ∀ (m : Nat) d, HT.sIx tops.length d (some ((m : Nat) : Int)) = min m tops.length := fun m d => HT.sIx_nat _ _ _
            have n1 : ((n : Int) + 1) = ((n + 1 : Nat) : Int) := by omega
            refine ⟨.ref l, rfl, l, _, 0, .ref z.1, rfl, rfl, .inl (.inl el6), atI_nat (j := 0) rfl, .int n, rfl, n, rfl, z.1, _, rfl, .inl (.inl Sz.1), ?_, fun A nA => ?_⟩
            · rw [List.length_map, ez, ix]
              omega
            refine ⟨.ref p4, rfl, .int n, rfl, n, rfl, .int n, rfl, n, 1, rfl, rfl, _, rfl, p4, _, rfl, .inl (.inl (same_new nA _ _ S6.1)), ?_, fun B nB => ?_⟩
            · rw [List.length_map, es, ix, n1, ix]
              omega
            have eA : (upd (upd H6 A (.tup (cutV (z.2.map V.int) none (some (n : Int))))) B (.tup (cutV (st4.map V.int) (some (n : Int)) (some ((n : Int) + 1))))) A = some (.tup ((piece z.2 none (some (n : Int))).map V.int)) := by
              rw [upd_ne (ne_of_none upd_same nB), upd_same, cut_piece]
            have eB : (upd (upd H6 A (.tup (cutV (z.2.map V.int) none (some (n : Int))))) B (.tup (cutV (st4.map V.int) (some (n : Int)) (some ((n : Int) + 1))))) B = some (.tup ((piece st4 (some (n : Int)) (some ((n : Int) + 1))).map V.int)) := by
              rw [upd_same, cut_piece]
            have sAB : Same H6 (upd (upd H6 A (.tup (cutV (z.2.map V.int) none (some (n : Int))))) B (.tup (cutV (st4.map V.int) (some (n : Int)) (some ((n : Int) + 1))))) := (same_new nA).trans (same_new nB)
            have lA : (piece z.2 none (some (n : Int))).length = n := by
              rw [piece_len, ez, ix, HT.sIx_none]
              omega
            have lB : (piece st4 (some (n : Int)) (some ((n : Int) + 1))).length = 1 := by
              rw [piece_len, es, ix, n1, ix]
              omega
            have lC : (piece z.2 (some ((n : Int) + 1)) none).length = tops.length - (n + 1) := by
              rw [piece_len, ez, n1, ix, HT.sIx_none]
              omega
            refine cat_any eA eB (by omega) fun p5 H7 s7 e5 => ?_
            have S7 := Sz.same (sAB.trans s7)
            have el7 : H7 l = some (.lst (refs (z :: zs))) := (sAB.trans s7) _ _ el6
            refine ⟨.ref l, rfl, l, _, 0, .ref z.1, rfl, rfl, .inl (.inl el7), atI_nat (j := 0) rfl, .int n, rfl, n, 1, rfl, rfl, _, rfl, z.1, _, rfl, .inl (.inl S7.1), ?_, fun C nC => ?_⟩
            · rw [List.length_map, ez, n1, ix]
              omega
            refine cat_any (same_new nC _ _ e5) (by rw [upd_same, cut_piece]) (by rw [List.length_append]; omega) fun p6 H8 s8 e6 => ?_
            have s68 : Same H6 H8 := (sAB.trans s7).trans ((same_new nC).trans s8)
            refine ⟨_, _, _, _, p6, _, rfl, (b05.trans b6).trans (But.of s68), (q6.mono (by omega)).keep s68, s68 _ _ el6, fun y hy => ((sp5 y hy).but b6 q5).same s68, e6, ?_, ?_⟩
            · rw [List.length_append, List.length_append]
              omega
            · exact ((Sz.2.2.piece _ _).app (S6.2.2.piece _ _)).app (Sz.2.2.piece _ _)
          · exact ⟨_, _, _, _, p4, st4, rfl, b05, q5.mono (by omega), el5, sp5, S5⟩
      · obtain ⟨kd', u6', u7', u8', p, st, rfl, bm, qm, elm, spm, Sm⟩ := hm
        refine ⟨.ref l, rfl, .inl ⟨rfl, _, .inl (.inl elm)⟩, .ref p, rfl, l, _, _, rfl, rfl, elm, by rw [List.length_map]; exact small1000 (by omega), ⟨_, _, _, _, _, _, rfl⟩, but_new bm nlH, pot_upd qm nla, ps ++ [(p, st)], ?_, fun z hz => ?_, by rw [List.length_append, pn]; rfl⟩
        · rw [upd_same]
          simp only [refs, List.map_append]
          rfl
        · rcases List.mem_append.mp hz with h | h
          · exact (spm z h).upd elm
          · rw [List.mem_singleton.mp h]
            exact Sm.upd elm
    · obtain ⟨⟨u3, u4, u5, u6, u7, u8, rfl⟩, b3, q3, ps, el3, sp3, pn⟩ := p
      exact ⟨.ref l, rfl, q H3 l ps b3 (q3.mono (by show c + 24 + 26 * 3 ≤ c + 200; omega)) nlH el3 sp3 pn⟩
end
end K04

set_option Elab.async false
set_option linter.all false
set_option maxRecDepth 100000
namespace NB
open PySem PySem.Spec PyProof.Rows L2
/-- data that repr writes: at most w by weight, nested at most n deep -/
structure Small (d : PyData) (w n : Nat) : Prop where
  sh : d.showable = true
  nd : d.hasDict = false
  dp : d.depth ≤ n
  lv : d.leavesShort 100 = true
  wt : d.weight ≤ w
structure SmallAll (ds : List PyData) (w n : Nat) : Prop where
  sh : PyData.showableAll ds = true
  nd : PyData.hasDictAll ds = false
  dp : PyData.depthAll ds ≤ n
  lv : PyData.leavesShortAll 100 ds = true
  wt : PyData.weightAll ds ≤ w
theorem Small.int {i : Int} (h : i.natAbs < 10 ^ 90) : Small (.int i) 310 0 := by
  have lg : i.natAbs.log2 < 300 := by
    have h2 : i.natAbs < 2 ^ 300 := Nat.lt_of_lt_of_le h (by decide)
    by_cases e : i.natAbs = 0
    · rw [e]; decide
    · exact (Nat.log2_lt e).mpr h2
  refine ⟨?_, rfl, Nat.le_refl _, ?_, ?_⟩
  · simp only [PyData.showable, decide_eq_true_eq]
    omega
  · simp only [PyData.leavesShort, decide_eq_true_eq]
    have e := int_text_length_le10 (k := 90) (by decide) h
    show (Str.ofString (toString i)).length ≤ 100
    rw [PySem.ofString_length]
    omega
  · show (if i == 0 then 0 else i.natAbs.log2 + 1) ≤ 310
    split <;> omega
theorem Small.bool (b : Bool) : Small (.bool b) 0 0 := ⟨rfl, rfl, Nat.le_refl _, rfl, Nat.le_refl _⟩
theorem Small.none : Small .none 0 0 := ⟨rfl, rfl, Nat.le_refl _, rfl, Nat.le_refl _⟩
theorem SmallAll.nil : SmallAll [] 0 0 := ⟨rfl, rfl, Nat.le_refl _, rfl, Nat.le_refl _⟩
theorem SmallAll.cons {d : PyData} {ds : List PyData} {w v n m : Nat} (h : Small d w n) (h' : SmallAll ds v m) : SmallAll (d :: ds) (w + 1 + v) (max n m) := by
  obtain ⟨a1, a2, a3, a4, a5⟩ := h
  obtain ⟨b1, b2, b3, b4, b5⟩ := h'
  refine ⟨?_, ?_, ?_, ?_, ?_⟩
  · simp only [PyData.showableAll, a1, b1, Bool.and_self]
  · simp only [PyData.hasDictAll, a2, b2, Bool.or_self]
  · simp only [PyData.depthAll]
    omega
  · simp only [PyData.leavesShortAll, a4, b4, Bool.and_self]
  · simp only [PyData.weightAll]
    omega
theorem Small.list {ds : List PyData} {w n : Nat} (h : SmallAll ds w n) : Small (.list ds) w (n + 1) := by
  obtain ⟨a1, a2, a3, a4, a5⟩ := h
  refine ⟨?_, ?_, ?_, ?_, ?_⟩
  · simpa only [PyData.showable] using a1
  · simpa only [PyData.hasDict] using a2
  · simp only [PyData.depth]
    omega
  · simpa only [PyData.leavesShort] using a4
  · simpa only [PyData.weight] using a5
theorem Small.tuple {ds : List PyData} {w n : Nat} (h : SmallAll ds w n) : Small (.tuple ds) w (n + 1) := by
  obtain ⟨a1, a2, a3, a4, a5⟩ := h
  refine ⟨?_, ?_, ?_, ?_, ?_⟩
  · simpa only [PyData.showable] using a1
  · simpa only [PyData.hasDict] using a2
  · simp only [PyData.depth]
    omega
  · simpa only [PyData.leavesShort] using a4
  · simpa only [PyData.weight] using a5
theorem SmallAll.ints : ∀ {xs : List Int}, (∀ x ∈ xs, x.natAbs < 10 ^ 90) → SmallAll (xs.map PyData.int) (311 * xs.length) 0
  | [], _ => .nil
  | x :: xs, h => by
    have c := SmallAll.cons (Small.int (h x List.mem_cons_self)) (SmallAll.ints fun y hy => h y (List.mem_cons_of_mem _ hy))
    refine ⟨c.sh, c.nd, c.dp, c.lv, Nat.le_trans c.wt ?_⟩
    rw [List.length_cons]
    omega
theorem Small.ok {d : PyData} {w n : Nat} (h : Small d w n) (hw : w ≤ 150000) (hn : n ≤ 60) : Showable d := by
  refine ⟨h.sh, h.nd, Nat.le_trans h.dp hn, ?_⟩
  have e := PyData.shown_le 100 (by decide) d h.lv
  have := h.wt
  rw [sizeLine_eq]
  have : (100 + 2) * d.weight ≤ (100 + 2) * 150000 := Nat.mul_le_mul_left _ (Nat.le_trans h.wt hw)
  omega
/-- what Dp reads of a tuple of ints -/
theorem dp_ints {K : PySem.W.Frag} {H : Hp} : ∀ xs : List Int, DpAll K H (xs.map V.int) (xs.map PyData.int)
  | [] => .nil
  | x :: xs => .cons (.int x) (dp_ints xs)
theorem dp_tup {K : PySem.W.Frag} {H : Hp} {p : Addr} {xs : List Int} (h : SqT K H p (xs.map V.int)) : Dp K H (.ref p) (.tuple (xs.map PyData.int)) := .tup h (dp_ints xs)
end NB

set_option Elab.async false
set_option linter.all false
set_option maxRecDepth 100000
namespace K04
open PySem PySem.Spec PyProof.Rows L2 NB

abbrev sTwo : Stmt := topS 14
abbrev nTwo : List Str := ["_law_one", "_law_other", "_law_some_here", "_law_due", "_law_x", "_law_lies_here", "_law_told"]
theorem scTwo : FnScope nTwo ["_law_one", "_law_other", "_law_some_here"] (defScope sTwo) := ⟨rfl, rfl, rfl, by decide +kernel, rfl, by decide +kernel, by decide +kernel⟩

/-! ### mathematics -/
theorem dist_nonneg : ∀ xs ys, 0 ≤ dist xs ys
  | [], _ => Int.le_refl _
  | _ :: _, [] => Int.le_refl _
  | x :: xs, y :: ys => by
    have := dist_nonneg xs ys
    simp only [dist]
    split <;> omega
theorem dist_symm : ∀ xs ys, dist xs ys = dist ys xs
  | [], [] => rfl
  | [], _ :: _ => rfl
  | _ :: _, [] => rfl
  | x :: xs, y :: ys => by
    simp only [dist, dist_symm xs ys]
    split <;> split <;> omega
theorem dist_le : ∀ (xs ys : List Int), Pl xs → Pl ys → dist xs ys ≤ 10 ^ 30 * xs.length
  | [], _, _, _ => by simp [dist]
  | _ :: _, [], _, _ => by
    simp only [dist]
    exact Int.mul_nonneg (by decide) (Int.natCast_nonneg _)
  | x :: xs, y :: ys, h, h' => by
    have ih := dist_le xs ys (h.sub fun z hz => List.mem_cons_of_mem _ hz) (h'.sub fun z hz => List.mem_cons_of_mem _ hz)
    have hx := h x List.mem_cons_self
    have hy := h' y List.mem_cons_self
    simp only [dist, List.length_cons, Int.natCast_add, Int.mul_add]
    have e1 : (10 : Int) ^ 30 * ((1 : Nat) : Int) = 10 ^ 30 := by decide
    rw [e1]
    split <;> omega
theorem dist_small {xs ys : List Int} (h : Pl xs) (h' : Pl ys) (l : xs.length ≤ 12) : (dist xs ys).natAbs < 10 ^ 90 := by
  have h0 := dist_nonneg xs ys
  have h1 := dist_le xs ys h h'
  have h2 : (10 : Int) ^ 30 * xs.length ≤ 10 ^ 30 * 12 := Int.mul_le_mul_of_nonneg_left (by omega) (by decide)
  have h3 : (10 : Int) ^ 30 * 12 < 10 ^ 90 := by decide
  omega
theorem btw_symm (a x b : Int) : btw a x b = btw b x a := by
  unfold btw
  rw [Int.min_comm, Int.max_comm]
theorem z3_btw_symm : ∀ xs ys zs : List Int, ys.length = xs.length → zs.length = xs.length → z3 btw zs ys xs = z3 btw xs ys zs
  | [], [], [], _, _ => rfl
  | [], _ :: _, _, h, _ => by simp at h
  | [], [], _ :: _, _, h => by simp at h
  | _ :: _, [], _, h, _ => by simp at h
  | _ :: _, _ :: _, [], _, h => by simp at h
  | x :: xs, y :: ys, z :: zs, h, h' => by
    simp only [z3, btw_symm z y x, z3_btw_symm xs ys zs (by simpa using h) (by simpa using h')]
/-- who lies between, and only who does, is no round about -/
theorem no_round : ∀ xs ys zs : List Int, ys.length = xs.length → zs.length = xs.length → (dist xs zs ≤ dist xs ys + dist ys zs ∧ (dist xs ys + dist ys zs = dist xs zs ↔ (z3 btw xs ys zs).all id = true))
  | [], [], [], _, _ => ⟨by decide, by simp [dist, z3]⟩
  | [], _ :: _, _, h, _ => by simp at h
  | [], [], _ :: _, _, h => by simp at h
  | _ :: _, [], _, h, _ => by simp at h
  | _ :: _, _ :: _, [], _, h => by simp at h
  | x :: xs, y :: ys, z :: zs, h, h' => by
    obtain ⟨i1, i2⟩ := no_round xs ys zs (by simpa using h) (by simpa using h')
    have key : (if x - z < 0 then -(x - z) else x - z) ≤ (if x - y < 0 then -(x - y) else x - y) + (if y - z < 0 then -(y - z) else y - z) ∧
        ((if x - y < 0 then -(x - y) else x - y) + (if y - z < 0 then -(y - z) else y - z) = (if x - z < 0 then -(x - z) else x - z) ↔ btw x y z = true) := by
      unfold btw
      rw [Bool.and_eq_true, decide_eq_true_eq, decide_eq_true_eq]
      split <;> split <;> split <;> omega
    obtain ⟨k1, k2⟩ := key
    simp only [dist, z3, List.all_cons, id, Bool.and_eq_true]
    refine ⟨by omega, ?_⟩
    rw [← i2, ← k2]
    constructor
    · intro e
      omega
    · rintro ⟨e1, e2⟩
      omega
theorem no_round_dec {xs ys zs : List Int} (h : ys.length = xs.length) (h' : zs.length = xs.length) : decide (V.bl (decide (V.int (dist xs ys + dist ys zs) = V.int (dist xs zs))) = V.bl ((z3 btw xs ys zs).all id)) = true := by
  have k := (no_round xs ys zs h h').2
  refine decide_eq_true ?_
  congr 1
  by_cases c : dist xs ys + dist ys zs = dist xs zs
  · rw [k.mp c, c]
    exact decide_eq_true rfl
  · have n : (z3 btw xs ys zs).all id = false := by
      cases e : (z3 btw xs ys zs).all id with
      | false => rfl
      | true => exact absurd (k.mpr e) c
    rw [n]
    exact decide_eq_false fun q => c (V.int.inj q)

section
variable {P : Program} {w : World} {K : PySem.W.Frag} {mg : Str → Option Value} {base : Heap}

theorem Std.sq {n : Nat} {H : Hp} {p : Addr} {st : List Int} (h : Std n H p st) : SqT K H p (st.map V.int) := .inl (.inl h.1)
theorem Pl.bd {xs : List Int} (h : Pl xs) : Bd xs := fun x hx => by
  have q := h x hx
  have e : (10 : Int) ^ 30 < 2 ^ 110 := by decide
  omega

def spTwo (K : PySem.W.Frag) : Sp := fun vs H Q _ => ∃ (a b l : Addr) (xs ys : List Int) (n : Nat) (ps : List (Addr × List Int)), vs = [.ref a, .ref b, .ref l] ∧ Std n H a xs ∧ Std n H b ys ∧ n ≤ 12 ∧ SqL K H l (refs ps) ∧ ps.length ≤ 1000 ∧ (∀ q ∈ ps, Std n H q.1 q.2) ∧
  ∀ H', Same H H' → Q (.bl true) H'
theorem ok_two {f fA fF fL fB : Addr} {fd fdA fdF fdL fdB : FuncData} {k : Nat} (F : Fun K "_law_two_right" "_law_two_right" sTwo f fd) (A' : Kn P w K mg base 1 "_law_apart" ["_law_one", "_law_other"] (spApart K) fA fdA)
    (F' : Kn P w K mg base 1 "far" ["one", "other"] (spFar K) fF fdF) (L' : Kn P w K mg base 1 "_law_lies" ["_law_one", "_law_x", "_law_other"] (spLies K) fL fdL) (B' : Kn P w K mg base 1 "is_between" ["one", "x", "other"] (spBet K) fB fdB)
    (mp : mg "repr" = none) : FnG P w K mg base (k + 2) f fd ["_law_one", "_law_other", "_law_some_here"] (spTwo K) := by
  refine fnG F scTwo (fun vs H Q E h => ?_) (fun cdv A outer s H vs Q E hG hr h => ?_)
  · obtain ⟨a, b, l, xs, ys, n, ps, rfl, _⟩ := h
    rfl
  · obtain ⟨a, b, l, xs, ys, n, ps, rfl, Sa, Sb, n12, hl, pl, sp, q⟩ := h
    refine ⟨_, pss_cons (ps_set (i := 3) scTwo.nd rfl (.inl rfl) (pe_kn A' hr (by omega) (pa_cons (pv 0) (pa_cons (pv 1) pa_nil))))
      (pss_cons (ps_if (pt_cmpR op_ne (pe_callB (call_reprD hG hr.units) (by rfl) mp (by decide +kernel) (pa_cons (pe_lst (pa_cons (pe_kn F' hr (by omega) (pa_cons (pv 0) (pa_cons (pv 1) pa_nil))) (pa_cons (pe_kn F' hr (by omega) (pa_cons (pv 1) (pa_cons (pv 0) pa_nil))) pa_nil))) pa_nil))
          (pe_callB (call_reprD hG hr.units) (by rfl) mp (by decide +kernel) (pa_cons (pe_lst (pa_cons (pv 3) (pa_cons (pv 3) pa_nil))) pa_nil)) (nomark _)) (pss_one (ps_ret pe_bl)) pss_nil)
      (pss_cons (ps_for PassesOwn.never rfl (pi_list (pv 2)) (pg_name (i := 4) scTwo.nd rfl (.inl rfl))
        (pss_cons (ps_set (i := 5) scTwo.nd rfl (.inl rfl) (pe_kn L' hr (by omega) (pa_cons (pv 0) (pa_cons (pv 4) (pa_cons (pv 1) pa_nil)))))
        (pss_cons (ps_set (i := 6) scTwo.nd rfl (.inl rfl) (pe_lst (pa_cons (pe_kn B' hr (by omega) (pa_cons (pv 0) (pa_cons (pv 4) (pa_cons (pv 1) pa_nil)))) (pa_cons (pe_kn B' hr (by omega) (pa_cons (pv 1) (pa_cons (pv 4) (pa_cons (pv 0) pa_nil)))) pa_nil))))
        (pss_one (ps_if (PW.pt (pw_or (pt_cmpR op_ne (pe_callB (call_reprD hG hr.units) (by rfl) mp (by decide +kernel) (pa_cons (pv 6) pa_nil)) (pe_callB (call_reprD hG hr.units) (by rfl) mp (by decide +kernel) (pa_cons (pe_op op_rep (pe_lst (pa_cons (pv 5) pa_nil)) pe_int) pa_nil)) (nomark _))
            (pw_or1 (pt_cmpR op_ne (pe_cmpR op_eq (pe_op op_add (pe_kn F' hr (by omega) (pa_cons (pv 0) (pa_cons (pv 4) pa_nil))) (pe_kn F' hr (by omega) (pa_cons (pv 4) (pa_cons (pv 1) pa_nil)))) (pe_kn F' hr (by omega) (pa_cons (pv 0) (pa_cons (pv 1) pa_nil))) (nomark _)) (pv 5) (nomark _)))))
          (pss_one (ps_ret pe_bl)) pss_nil)))))
      (pss_one (ps_ret pe_bl)))), ?_⟩
    have lx : xs.length = n := Sa.2.1
    have ly : ys.length = n := Sb.2.1
    have xs12 : xs.length ≤ 12 := by omega
    have ys12 : ys.length ≤ 12 := by omega
    have dS : (dist xs ys).natAbs < 10 ^ 90 := dist_small Sa.2.2 Sb.2.2 xs12
    have twoInts : ∀ i j : Int, i.natAbs < 10 ^ 90 → j.natAbs < 10 ^ 90 → Showable (.list [.int i, .int j]) := fun i j hi hj =>
      (Small.list (.cons (.int hi) (.cons (.int hj) .nil))).ok (by decide) (by decide)
    have twoBools : ∀ i j : Bool, Showable (.list [.bool i, .bool j]) := fun i j => (Small.list (.cons (.bool i) (.cons (.bool j) .nil))).ok (by decide) (by decide)
    refine ⟨.ref a, rfl, .ref b, rfl, a, b, xs, ys, rfl, Sa.sq, Sb.sq, by omega, by omega, fun H1 s1 => ?_⟩
    refine ⟨.ref a, rfl, .ref b, rfl, a, b, xs, ys, rfl, (Sa.same s1).sq, (Sb.same s1).sq, by omega, by omega, fun H2 s2 => ?_⟩
    have s02 := s1.trans s2
    refine ⟨.ref b, rfl, .ref a, rfl, b, a, ys, xs, rfl, (Sb.same s02).sq, (Sa.same s02).sq, by omega, by omega, fun H3 s3 => ?_⟩
    rw [dist_symm ys xs]
    have s03 := s02.trans s3
    refine ⟨(show 2 ≤ sizeLine by decide), fun p np => ⟨p, _, rfl, .lst (.inl (.inl upd_same)) (.cons (.int _) (.cons (.int _) .nil)), twoInts _ _ dS dS, ?_⟩⟩
    have s04 := s03.trans (same_new (o := .lst [.int (dist xs ys), .int (dist xs ys)]) np)
    refine ⟨_, rfl, _, rfl, (show 2 ≤ sizeLine by decide), fun p2 np2 => ⟨p2, _, rfl, .lst (.inl (.inl upd_same)) (.cons (.int _) (.cons (.int _) .nil)), twoInts _ _ dS dS, rfl, _, rfl, iteNS rfl ?_⟩⟩
    have s05 := s04.trans (same_new (o := .lst [.int (dist xs ys), .int (dist xs ys)]) np2)
    refine ⟨.ref l, rfl, l, rfl, ⟨_, s05.seq hl⟩, for_it (walk_list (xs := refs ps)) (fun i σ H' => (∃ u4 u5 u6, σ = [some (.ref a), some (.ref b), some (.ref l), some (.int (dist xs ys)), u4, u5, u6]) ∧ Same H H')
      ⟨⟨none, none, none, rfl⟩, s05⟩ (fun i σ H' _ p => p.2.seq hl) (fun i v σ H6 H6' hi p y => ?_) (fun σ H6 p => ?_)⟩
    · obtain ⟨⟨u4, u5, u6, rfl⟩, s6⟩ := p
      obtain ⟨rfl, gv⟩ := y
      obtain ⟨z, ez, rfl⟩ := mapGet gv
      have Sz := sp z (List.mem_of_getElem? ez)
      have lz : z.2.length = n := Sz.2.1
      have zS : (dist xs z.2 + dist z.2 ys).natAbs < 10 ^ 90 := by
        have h1 := dist_le xs z.2 Sa.2.2 Sz.2.2
        have h2 := dist_le z.2 ys Sz.2.2 Sb.2.2
        have h3 := dist_nonneg xs z.2
        have h4 := dist_nonneg z.2 ys
        omega
      refine ⟨.ref a, rfl, .ref z.1, rfl, .ref b, rfl, a, z.1, b, xs, z.2, ys, rfl, (Sa.same s6).sq, (Sz.same s6).sq, (Sb.same s6).sq, by omega, by omega, by omega, Sa.2.2.bd, Sz.2.2.bd, Sb.2.2.bd, fun H7 t7 => ?_⟩
      have s7 := s6.trans t7
      refine ⟨.ref a, rfl, .ref z.1, rfl, .ref b, rfl, a, z.1, b, xs, z.2, ys, rfl, (Sa.same s7).sq, (Sz.same s7).sq, (Sb.same s7).sq, by omega, by omega, by omega, fun H8 t8 => ?_⟩
      have s8 := s7.trans t8
      refine ⟨.ref b, rfl, .ref z.1, rfl, .ref a, rfl, b, z.1, a, ys, z.2, xs, rfl, (Sb.same s8).sq, (Sz.same s8).sq, (Sa.same s8).sq, by omega, by omega, by omega, fun H9 t9 => ?_⟩
      have s9 := s8.trans t9
      rw [z3_btw_symm xs z.2 ys (by omega) (by omega)]
      refine ⟨(show 2 ≤ sizeLine by decide), fun t nt => ?_⟩
      refine ⟨.ref t, rfl, t, _, rfl, .lst (.inl (.inl upd_same)) (.cons (.bl _) (.cons (.bl _) .nil)), twoBools _ _, _, rfl, (show 1 ≤ sizeLine by decide), fun o no => ?_⟩
      refine ⟨o, 2, _, rfl, rfl, upd_same, by decide, by decide, (show 1 * 2 ≤ sizeLine by decide), fun r nr => ⟨r, _, rfl, .lst (.inl (.inl upd_same)) (.cons (.bl _) (.cons (.bl _) .nil)), twoBools _ _, rfl, _, rfl, iteNS rfl ?_⟩⟩
      have s12 := s9.trans ((same_new nt).trans ((same_new no).trans (same_new (o := .lst (List.replicate (2 : Int).toNat [V.bl ((z3 btw xs z.2 ys).all id)]).flatten) nr)))
      refine ⟨.ref a, rfl, .ref z.1, rfl, a, z.1, xs, z.2, rfl, (Sa.same s12).sq, (Sz.same s12).sq, by omega, by omega, fun H13 t13 => ?_⟩
      have s13 := s12.trans t13
      refine ⟨.ref z.1, rfl, .ref b, rfl, z.1, b, z.2, ys, rfl, (Sz.same s13).sq, (Sb.same s13).sq, by omega, by omega, fun H14 t14 => ?_⟩
      have s14 := s13.trans t14
      refine ⟨_, _, rfl, rfl, .ref a, rfl, .ref b, rfl, a, b, xs, ys, rfl, (Sa.same s14).sq, (Sb.same s14).sq, by omega, by omega, fun H15 t15 => ?_⟩
      have s15 := s14.trans t15
      refine ⟨rfl, _, rfl, rfl, _, rfl, iteNS (of_decide_eq_true (no_round_dec (by omega) (by omega))) ?_⟩
      exact ⟨⟨_, _, _, rfl⟩, s15⟩
    · obtain ⟨⟨u4, u5, u6, rfl⟩, s6⟩ := p
      exact q H6 s6
end
end K04

set_option Elab.async false
set_option linter.all false
set_option maxRecDepth 100000
namespace K04
open PySem PySem.Spec PyProof.Rows L2 NB

abbrev sThree : Stmt := topS 15
abbrev nThree : List Str := ["_law_one", "_law_two", "_law_three", "_law_some_here", "_law_due", "_law_told", "_law_x", "_law_lies_here", "_law_a", "_law_b", "_law_c"]
theorem scThree : FnScope nThree ["_law_one", "_law_two", "_law_three", "_law_some_here"] (defScope sThree) := ⟨rfl, rfl, rfl, by decide +kernel, rfl, by decide +kernel, by decide +kernel⟩

/-! ### mathematics -/
theorem mid_rot (a b c : Int) : mid3 c a b = mid3 a b c := by
  unfold mid3
  repeat' split
  all_goals omega
theorem mid_swap (a b c : Int) : mid3 b a c = mid3 a b c := by
  unfold mid3
  repeat' split
  all_goals omega
theorem mid_only (a b c x : Int) : (btw a x b && (btw b x c && btw a x c)) = decide (x = mid3 a b c) := by
  rw [Bool.eq_iff_iff]
  unfold btw mid3
  simp only [Bool.and_eq_true, decide_eq_true_eq]
  repeat' split
  all_goals omega
theorem z3_rot : ∀ xs ys zs : List Int, z3 mid3 zs xs ys = z3 mid3 xs ys zs
  | [], [], zs => by cases zs <;> rfl
  | [], _ :: _, zs => by cases zs <;> rfl
  | _ :: _, [], zs => by cases zs <;> rfl
  | _ :: _, _ :: _, [] => rfl
  | x :: xs, y :: ys, z :: zs => by simp only [z3, mid_rot x y z, z3_rot xs ys zs]
theorem z3_swap : ∀ xs ys zs : List Int, z3 mid3 ys xs zs = z3 mid3 xs ys zs
  | [], [], zs => by cases zs <;> rfl
  | [], _ :: _, zs => by cases zs <;> rfl
  | _ :: _, [], zs => by cases zs <;> rfl
  | _ :: _, _ :: _, [] => rfl
  | x :: xs, y :: ys, z :: zs => by simp only [z3, mid_swap x y z, z3_swap xs ys zs]
theorem all_mid : ∀ xs ys zs vs : List Int, ys.length = xs.length → zs.length = xs.length → vs.length = xs.length →
    ((z3 btw xs vs ys).all id && ((z3 btw ys vs zs).all id && (z3 btw xs vs zs).all id)) = decide (vs = z3 mid3 xs ys zs)
  | [], [], [], [], _, _, _ => rfl
  | [], _ :: _, _, _, h, _, _ => by simp at h
  | [], [], _ :: _, _, _, h, _ => by simp at h
  | [], [], [], _ :: _, _, _, h => by simp at h
  | _ :: _, [], _, _, h, _, _ => by simp at h
  | _ :: _, _ :: _, [], _, _, h, _ => by simp at h
  | _ :: _, _ :: _, _ :: _, [], _, _, h => by simp at h
  | x :: xs, y :: ys, z :: zs, v :: vs, h1, h2, h3 => by
    have ih := all_mid xs ys zs vs (by simpa using h1) (by simpa using h2) (by simpa using h3)
    have hd := mid_only x y z v
    simp only [z3, List.all_cons, id, List.cons.injEq]
    rw [Bool.decide_and, ← hd, ← ih]
    cases btw x v y <;> cases btw y v z <;> cases btw x v z <;> cases (z3 btw xs vs ys).all id <;> cases (z3 btw ys vs zs).all id <;> cases (z3 btw xs vs zs).all id <;> rfl
theorem mid_pl (a b c : Int) (h1 : 0 ≤ a ∧ a < 10 ^ 30) (h2 : 0 ≤ b ∧ b < 10 ^ 30) (h3 : 0 ≤ c ∧ c < 10 ^ 30) : 0 ≤ mid3 a b c ∧ mid3 a b c < 10 ^ 30 := by
  unfold mid3
  repeat' split
  all_goals omega
theorem z3_pl : ∀ xs ys zs : List Int, Pl xs → Pl ys → Pl zs → Pl (z3 mid3 xs ys zs)
  | [], _, _, _, _, _ => fun _ h => absurd h List.not_mem_nil
  | _ :: _, [], _, _, _, _ => fun _ h => absurd h List.not_mem_nil
  | _ :: _, _ :: _, [], _, _, _ => fun _ h => absurd h List.not_mem_nil
  | x :: xs, y :: ys, z :: zs, h1, h2, h3 => fun v hv => by
    rcases List.mem_cons.mp hv with e | e
    · rw [e]
      exact mid_pl x y z (h1 x List.mem_cons_self) (h2 y List.mem_cons_self) (h3 z List.mem_cons_self)
    · exact z3_pl xs ys zs (h1.sub fun _ h => List.mem_cons_of_mem _ h) (h2.sub fun _ h => List.mem_cons_of_mem _ h) (h3.sub fun _ h => List.mem_cons_of_mem _ h) v e
theorem eqv_ints : ∀ xs ys : List Int, PyData.eqvAll (xs.map PyData.int) (ys.map PyData.int) = decide (xs = ys)
  | [], [] => by simp [PyData.eqvAll]
  | [], _ :: _ => by simp [PyData.eqvAll]
  | _ :: _, [] => by simp [PyData.eqvAll]
  | x :: xs, y :: ys => by
    simp only [List.map_cons, PyData.eqvAll, PyData.eqv, eqv_ints xs ys, List.cons.injEq, Bool.decide_and]
    congr 1
theorem lay_ints : ∀ xs : List Int, PyData.canLayAll0 (xs.map PyData.int) = true
  | [] => rfl
  | x :: xs => by simp only [List.map_cons, PyData.canLayAll0, PyData.canLay0, lay_ints xs, Bool.and_self]
theorem depth_ints : ∀ xs : List Int, PyData.depthAll (xs.map PyData.int) = 0
  | [] => rfl
  | x :: xs => by simp only [List.map_cons, PyData.depthAll, PyData.depth, depth_ints xs, Nat.max_self]
theorem shaped_ints (xs : List Int) : SeqAt.shaped (.tuple (xs.map PyData.int)) = true := by
  unfold SeqAt.shaped
  simp only [PyData.canLay0, lay_ints, PyData.depth, depth_ints, Bool.true_and]
  decide
end K04

set_option Elab.async false
set_option linter.all false
set_option maxRecDepth 100000
namespace K04
open PySem PySem.Spec PyProof.Rows L2 NB
section
variable {P : Program} {w : World} {K : PySem.W.Frag} {mg : Str → Option Value} {base : Heap}

def spThree (K : PySem.W.Frag) : Sp := fun vs H Q _ => ∃ (a b c l : Addr) (xs ys zs : List Int) (n : Nat) (ps : List (Addr × List Int)), vs = [.ref a, .ref b, .ref c, .ref l] ∧ Std n H a xs ∧ Std n H b ys ∧ Std n H c zs ∧ n ≤ 12 ∧ SqL K H l (refs ps) ∧ ps.length ≤ 900 ∧ (∀ q ∈ ps, Std n H q.1 q.2) ∧
  ∀ H', Same H H' → Q (.bl true) H'
theorem ok_three {f fM fD fB : Addr} {fd fdM fdD fdB : FuncData} {k : Nat} (F : Fun K "_law_three_right" "_law_three_right" sThree f fd) (M : Kn P w K mg base 1 "_law_mid" ["_law_a", "_law_b", "_law_c"] spMid fM fdM)
    (D' : Kn P w K mg base 1 "middle" ["one", "two", "three"] (spMiddle K) fD fdD) (B' : Kn P w K mg base 1 "is_between" ["one", "x", "other"] (spBet K) fB fdB)
    (mp : mg "repr" = none) (mt : mg "tuple" = none) (mz : mg "zip" = none) (mL : mg "list" = none) : FnG P w K mg base (k + 2) f fd ["_law_one", "_law_two", "_law_three", "_law_some_here"] (spThree K) := by
  refine fnG F scThree (fun vs H Q E h => ?_) (fun cdv A outer s H vs Q E hG hr h => ?_)
  · obtain ⟨a, b, c, l, xs, ys, zs, n, ps, rfl, _⟩ := h
    rfl
  · obtain ⟨a, b, c, l, xs, ys, zs, n, ps, rfl, Sa, Sb, Sc, n12, hl, pl, sp, q⟩ := h
    refine ⟨_, pss_cons (ps_set (i := 4) scThree.nd rfl (.inl rfl) (pe_callTy call_tuple_of (by rfl) mt (by decide +kernel) (pa_cons
        (pe_lc (own := [("_law_a", 8), ("_law_b", 9), ("_law_c", 10)]) (g := gTup K 3 (gCons (gName 8) (gCons (gName 9) (gCons (gName 10) gNil)))) (tt := tYes) (te := tCall spMid [] E0 (tCons (tVar 8) (tCons (tVar 9) (tCons (tVar 10) tNil)))) rfl scThree.nd
          (pi_zip3 (by rfl) mz (pa_cons (pv 0) (pa_cons (pv 1) (pa_cons (pv 2) pa_nil)))) (blkOk_by (N := nThree) (sc := defScope sThree) (by decide +kernel))
          (fun _ _ _ _ _ => pg_tup rfl (pgs_cons (pg_name (i := 8) scThree.nd rfl (.inl rfl) (hf := .inr rfl)) (pgs_cons (pg_name (i := 9) scThree.nd rfl (.inl rfl) (hf := .inr rfl)) (pgs_cons (pg_name (i := 10) scThree.nd rfl (.inl rfl) (hf := .inr rfl)) pgs_nil)))) (fun _ _ _ _ _ => pts_nil)
          (fun _ _ _ _ _ => pe_kn M hr (by omega) (pa_cons (pv 8) (pa_cons (pv 9) (pa_cons (pv 10) pa_nil))))) pa_nil)))
      (pss_cons (ps_set (i := 5) scThree.nd rfl (.inl rfl) (pe_lst (pa_cons (pe_kn D' hr (by omega) (pa_cons (pv 0) (pa_cons (pv 1) (pa_cons (pv 2) pa_nil)))) (pa_cons (pe_kn D' hr (by omega) (pa_cons (pv 2) (pa_cons (pv 0) (pa_cons (pv 1) pa_nil)))) (pa_cons (pe_kn D' hr (by omega) (pa_cons (pv 1) (pa_cons (pv 0) (pa_cons (pv 2) pa_nil)))) pa_nil)))))
      (pss_cons (ps_if (pt_cmpR op_ne (pe_callB (call_reprD hG hr.units) (by rfl) mp (by decide +kernel) (pa_cons (pv 5) pa_nil)) (pe_callB (call_reprD hG hr.units) (by rfl) mp (by decide +kernel) (pa_cons (pe_op op_rep (pe_lst (pa_cons (pv 4) pa_nil)) pe_int) pa_nil)) (nomark _)) (pss_one (ps_ret pe_bl)) pss_nil)
      (pss_cons (ps_for PassesOwn.never rfl (pi_list (pe_op op_cat (pe_callTy call_list_of (by rfl) mL (by decide +kernel) (pa_cons (pv 3) pa_nil)) (pe_lst (pa_cons (pv 4) pa_nil)))) (pg_name (i := 6) scThree.nd rfl (.inl rfl))
        (C8.pss_cut (ps_set (i := 7) scThree.nd rfl (.inl rfl) (pe_and (pe_kn B' hr (by omega) (pa_cons (pv 0) (pa_cons (pv 6) (pa_cons (pv 1) pa_nil)))) (pe_and (pe_kn B' hr (by omega) (pa_cons (pv 1) (pa_cons (pv 6) (pa_cons (pv 2) pa_nil)))) (pe_one (pe_kn B' hr (by omega) (pa_cons (pv 0) (pa_cons (pv 6) (pa_cons (pv 2) pa_nil))))))))
        (pss_one (ps_if (pt_cmpR op_ne (pv 7) (pe_cmpR (op_eqD hr.units) (pv 6) (pv 4) (nomark _)) (nomark _)) (pss_one (ps_ret pe_bl)) pss_nil))))
      (pss_one (ps_ret pe_bl))))), ?_⟩
    have lx : xs.length = n := Sa.2.1
    have ly : ys.length = n := Sb.2.1
    have lz : zs.length = n := Sc.2.1
    have lm : (z3 mid3 xs ys zs).length = n := by rw [z3_len xs ys zs (by omega) (by omega)]; exact lx
    have pm : Pl (z3 mid3 xs ys zs) := z3_pl xs ys zs Sa.2.2 Sb.2.2 Sc.2.2
    have pS : ∀ x ∈ z3 mid3 xs ys zs, x.natAbs < 10 ^ 90 := fun x hx => by
      have h := pm x hx
      have e : (10 : Int) ^ 30 < 10 ^ 90 := by decide
      omega
    have tS : Small (.tuple ((z3 mid3 xs ys zs).map PyData.int)) (311 * 12) 1 := by
      have h := Small.tuple (SmallAll.ints pS)
      exact ⟨h.sh, h.nd, h.dp, h.lv, Nat.le_trans h.wt (by omega)⟩
    have three : Showable (.list [.tuple ((z3 mid3 xs ys zs).map PyData.int), .tuple ((z3 mid3 xs ys zs).map PyData.int), .tuple ((z3 mid3 xs ys zs).map PyData.int)]) :=
      (Small.list (.cons tS (.cons tS (.cons tS .nil)))).ok (by decide) (by decide)
    refine ⟨.ref a, rfl, .ref b, rfl, .ref c, rfl, a, b, c, _, _, _, rfl, Sa.sq, Sb.sq, Sc.sq, fun D nD => lc_it (walk_zip3 (xs := xs.map V.int) (ys := ys.map V.int) (zs := zs.map V.int) (by simp only [List.length_map]; omega) (by simp only [List.length_map]; omega)) (fun i H' => Same H H' ∧ H' D = some (.lst (((z3 mid3 xs ys zs).take i).map V.int))) ⟨same_new nD, upd_same⟩ (fun i H' _ p => ⟨(Sa.same p.1).sq, (Sb.same p.1).sq, (Sc.same p.1).sq⟩) (fun i v H1 H2 hi p y => ?_) (fun H1 p => ?_)⟩
    · obtain ⟨sm, eD⟩ := p
      obtain ⟨T, x, y, z, rfl, nT, rfl, gx, gy, gz⟩ := y
      obtain ⟨x, ex, rfl⟩ := mapGet gx
      obtain ⟨y, ey, rfl⟩ := mapGet gy
      obtain ⟨z, ez, rfl⟩ := mapGet gz
      have nTD : D ≠ T := ne_of_none eD nT
      refine ⟨T, _, rfl, .inl (.inl upd_same), rfl, _, _, rfl, _, _, rfl, _, _, rfl, rfl, rfl, .int x, rfl, .int y, rfl, .int z, rfl, x, y, z, rfl, _, (upd_ne nTD).trans eD, take_small (by omega) _, same_over (same_over sm (sm.free nT)) nD, ?_⟩
      rw [upd_same, take_map _ _ _ _ (z3_get xs ys zs i x y z ex ey ez)]
    · obtain ⟨s1, eD⟩ := p
      rw [List.length_map, List.take_of_length_le (by omega)] at eD
      refine ⟨D, _, rfl, .inl ⟨.inl (.inl eD), fun d nd => ?_⟩⟩
      have s2 : Same H (upd H1 d (.tup ((z3 mid3 xs ys zs).map V.int))) := s1.trans (same_new nd)
      have Sd2 : Std n (upd H1 d (.tup ((z3 mid3 xs ys zs).map V.int))) d (z3 mid3 xs ys zs) := ⟨upd_same, lm, pm⟩
      refine ⟨.ref a, rfl, .ref b, rfl, .ref c, rfl, a, b, c, xs, ys, zs, rfl, (Sa.same s2).sq, (Sb.same s2).sq, (Sc.same s2).sq, by omega, by omega, by omega, fun H3 m1 t3 n3 e3 => ?_⟩
      have s3 := s2.trans t3
      refine ⟨.ref c, rfl, .ref a, rfl, .ref b, rfl, c, a, b, zs, xs, ys, rfl, (Sc.same s3).sq, (Sa.same s3).sq, (Sb.same s3).sq, by omega, by omega, by omega, fun H4 m2 t4 n4 e4 => ?_⟩
      have s4 := s3.trans t4
      rw [z3_rot] at e4
      refine ⟨.ref b, rfl, .ref a, rfl, .ref c, rfl, b, a, c, ys, xs, zs, rfl, (Sb.same s4).sq, (Sa.same s4).sq, (Sc.same s4).sq, by omega, by omega, by omega, fun H5 m3 t5 n5 e5 => ?_⟩
      have s5 := s4.trans t5
      rw [z3_swap] at e5
      refine ⟨(show 3 ≤ sizeLine by decide), fun t nt => ?_⟩
      have t6 : Same H5 (upd H5 t (.lst [.ref m1, .ref m2, .ref m3])) := same_new nt
      have Sd6 := (((Sd2.same t3).same t4).same t5).same t6
      refine ⟨.ref t, rfl, t, _, rfl, .lst (.inl (.inl upd_same)) (.cons (dp_tup (.inl (.inl (t6 _ _ (t5 _ _ (t4 _ _ e3)))))) (.cons (dp_tup (.inl (.inl (t6 _ _ (t5 _ _ e4))))) (.cons (dp_tup (.inl (.inl (t6 _ _ e5)))) .nil))), three, .ref d, rfl, (show 1 ≤ sizeLine by decide), fun o no => ?_⟩
      have t7 : Same _ (upd (upd H5 t (.lst [.ref m1, .ref m2, .ref m3])) o (.lst [.ref d])) := same_new no
      refine ⟨o, 3, _, rfl, rfl, upd_same, by decide, by decide, (show 1 * 3 ≤ sizeLine by decide), fun r nr => ?_⟩
      have t8 : Same _ (upd (upd (upd H5 t (.lst [.ref m1, .ref m2, .ref m3])) o (.lst [.ref d])) r (.lst (List.replicate (3 : Int).toNat [V.ref d]).flatten)) := same_new nr
      have Sd8 := (Sd6.same t7).same t8
      refine ⟨r, _, rfl, .lst (.inl (.inl upd_same)) (.cons (dp_tup Sd8.sq) (.cons (dp_tup Sd8.sq) (.cons (dp_tup Sd8.sq) .nil))), three, rfl, _, rfl, iteNS rfl ?_⟩
      have s8 := s5.trans (t6.trans (t7.trans t8))
      refine ⟨.ref l, rfl, l, _, rfl, .inl (s8.seq hl), fun u nu => ?_⟩
      refine ⟨.ref d, rfl, (show 1 ≤ sizeLine by decide), fun v nv => ?_⟩
      have s9 := s8.trans ((same_new (o := .lst (refs ps)) nu).trans (same_new (o := .lst [.ref d]) nv))
      have Sd9 := (Sd8.same (same_new (o := .lst (refs ps)) nu)).same (same_new (o := .lst [.ref d]) nv)
      refine ⟨u, v, refs ps, [.ref d], rfl, rfl, (same_new nv) _ _ upd_same, upd_same, ?_, fun g ng => ?_⟩
      · rw [List.length_map]
        exact Nat.le_of_lt (small1000 (by show ps.length + 1 ≤ 1000; omega))
      have eg : refs ps ++ [V.ref d] = refs (ps ++ [(d, z3 mid3 xs ys zs)]) := by
        simp only [refs, List.map_append]
        rfl
      rw [eg]
      have t10 := same_new (o := .lst (refs (ps ++ [(d, z3 mid3 xs ys zs)]))) ng
      have s10 := s9.trans t10
      have Sd10 := Sd9.same t10
      have sp10 : ∀ z ∈ ps ++ [(d, z3 mid3 xs ys zs)], Std n (upd (upd (upd (upd (upd (upd H5 t (.lst [.ref m1, .ref m2, .ref m3])) o (.lst [.ref d])) r (.lst (List.replicate (3 : Int).toNat [V.ref d]).flatten)) u (.lst (refs ps))) v (.lst [.ref d])) g (.lst (refs (ps ++ [(d, z3 mid3 xs ys zs)])))) z.1 z.2 := fun z hz => by
        rcases List.mem_append.mp hz with h | h
        · exact (sp z h).same s10
        · rw [List.mem_singleton.mp h]
          exact Sd10
      generalize hE : (upd (upd (upd (upd (upd (upd H5 t (.lst [.ref m1, .ref m2, .ref m3])) o (.lst [.ref d])) r (.lst (List.replicate (3 : Int).toNat [V.ref d]).flatten)) u (.lst (refs ps))) v (.lst [.ref d])) g (.lst (refs (ps ++ [(d, z3 mid3 xs ys zs)])))) = HE at s10 Sd10 sp10 ⊢
      have hg : HE g = some (.lst (refs (ps ++ [(d, z3 mid3 xs ys zs)]))) := by
        rw [← hE]
        exact upd_same
      refine ⟨g, rfl, ⟨_, .inl (.inl hg)⟩, for_it (walk_list (xs := refs (ps ++ [(d, z3 mid3 xs ys zs)]))) (fun i σ H' => (∃ u6 u7, σ = [some (.ref a), some (.ref b), some (.ref c), some (.ref l), some (.ref d), some (.ref t), u6, u7, none, none, none]) ∧ Same HE H')
        ⟨⟨none, none, rfl⟩, Same.refl HE⟩ (fun i σ H' _ p => p.2.seq (.inl (.inl hg))) (fun i v σ H6 H6' hi p y => ?_) (fun σ H6 p => ?_)⟩
      · obtain ⟨⟨u6, u7, rfl⟩, s6⟩ := p
        obtain ⟨rfl, gv⟩ := y
        obtain ⟨z, ez, rfl⟩ := mapGet gv
        have Sz := sp10 z (List.mem_of_getElem? ez)
        have lv : z.2.length = n := Sz.2.1
        have s06 := s10.trans s6
        refine ⟨fun σ' H' => σ' = [some (.ref a), some (.ref b), some (.ref c), some (.ref l), some (.ref d), some (.ref t), some (.ref z.1), some (.bl (decide (z.2 = z3 mid3 xs ys zs))), none, none, none] ∧ Same HE H', ?_, fun σ' H' hm => ?_⟩
        · have am := all_mid xs ys zs z.2 (by omega) (by omega) (by omega)
          refine ⟨.ref a, rfl, .ref z.1, rfl, .ref b, rfl, a, z.1, b, xs, z.2, ys, rfl, (Sa.same s06).sq, (Sz.same s6).sq, (Sb.same s06).sq, by omega, by omega, by omega, fun H7 t7 => ?_⟩
          have s7 := s6.trans t7
          have s07 := s10.trans s7
          refine ⟨_, rfl, ite2 (fun c1 => ?_) (fun c1 => ?_)⟩
          · rw [c1, Bool.true_and] at am
            refine ⟨.ref b, rfl, .ref z.1, rfl, .ref c, rfl, b, z.1, c, ys, z.2, zs, rfl, (Sb.same s07).sq, (Sz.same s7).sq, (Sc.same s07).sq, by omega, by omega, by omega, fun H8 t8 => ?_⟩
            have s8 := s7.trans t8
            have s08 := s10.trans s8
            refine ⟨_, rfl, ite2 (fun c2 => ?_) (fun c2 => ?_)⟩
            · rw [c2, Bool.true_and] at am
              refine ⟨.ref a, rfl, .ref z.1, rfl, .ref c, rfl, a, z.1, c, xs, z.2, zs, rfl, (Sa.same s08).sq, (Sz.same s8).sq, (Sc.same s08).sq, by omega, by omega, by omega, fun H9 t9 => ?_⟩
              rw [am]
              exact ⟨rfl, s8.trans t9⟩
            · rw [Bool.eq_false_iff.mpr c2, Bool.false_and] at am
              rw [am]
              exact ⟨rfl, s8⟩
          · rw [Bool.eq_false_iff.mpr c1, Bool.false_and] at am
            rw [am]
            exact ⟨rfl, s7⟩
        · obtain ⟨rfl, s7⟩ := hm
          refine ⟨_, rfl, .ref z.1, rfl, .ref d, rfl, _, _, dp_tup (Sz.same s7).sq, dp_tup (Sd10.same s7).sq, shaped_ints _, shaped_ints _, rfl, _, rfl, iteNS ?_ ?_⟩
          · simp only [PyData.eqv, eqv_ints]
          · exact ⟨⟨_, _, rfl⟩, s7⟩
      · obtain ⟨⟨u6, u7, rfl⟩, s6⟩ := p
        exact q H6 (s10.trans s6)
end
end K04

set_option Elab.async false
set_option linter.all false
set_option maxRecDepth 100000
namespace K04
open PySem PySem.Spec PyProof.Rows L2 NB

abbrev sLaw : Stmt := topS 16
abbrev nLaw : List Str := ["_law_script", "_law_k", "_law_pot_here", "_law_tops", "_law_some_here", "_law_at", "_law_one", "_law_other"]
theorem scLaw : FnScope nLaw ["_law_script"] (defScope sLaw) := ⟨rfl, rfl, rfl, by decide +kernel, rfl, by decide +kernel, by decide +kernel⟩

/-- an item of a list of standings, its place counted from either end -/
theorem at_refs {ps : List (Addr × List Int)} {i : Int} (h0 : -(ps.length : Int) ≤ i) (h1 : i < ps.length) : ∃ z ∈ ps, atI (refs ps) i = some (.ref z.1) := by
  have hl : (refs ps).length = ps.length := by rw [refs, List.length_map]
  have main : ∀ j : Nat, j < ps.length → ixN ps.length i = some j → ∃ z ∈ ps, atI (refs ps) i = some (.ref z.1) := fun j hj e => by
    refine ⟨ps[j], List.getElem_mem hj, ?_⟩
    unfold atI
    rw [hl, e]
    show (refs ps)[j]? = _
    rw [refs, List.getElem?_map, List.getElem?_eq_getElem hj]
    rfl
  by_cases c : 0 ≤ i
  · exact main i.toNat (by omega) (by unfold ixN; rw [if_pos c, if_pos h1])
  · exact main (i + ps.length).toNat (by omega) (by unfold ixN; rw [if_neg c, if_pos h0])

section
variable {P : Program} {w : World} {K : PySem.W.Frag} {mg : Str → Option Value} {base : Heap}

theorem cut_refs (ps : List (Addr × List Int)) (lo hi : Option Int) : ∃ qs, cutV (refs ps) lo hi = refs qs ∧ qs.length ≤ ps.length ∧ ∀ q ∈ qs, q ∈ ps := by
  refine ⟨(ps.drop (HT.sIx ps.length 0 lo)).take (HT.sIx ps.length ps.length hi - HT.sIx ps.length 0 lo), ?_, ?_, fun q hq => List.mem_of_mem_drop (List.mem_of_mem_take hq)⟩
  · unfold cutV refs
    rw [List.length_map, List.map_take, List.map_drop]
  · rw [List.length_take, List.length_drop]
    omega

def spLaw (K : PySem.W.Frag) : Sp := fun vs H Q _ => ∃ (a : Addr) (ns : List Int), vs = [.ref a] ∧ SqL K H a (ns.map V.int) ∧ ns.length ≤ 63 ∧ ∀ H', Q (.bl true) H'
theorem ok_law {f fP fW fS f2 f3 : Addr} {fd fdP fdW fdS fd2 fd3 : FuncData} (F : Fun K "law" "law" sLaw f fd) (Po : Kn P w K mg base 1 "_law_pot" ["_law_script", "_law_k"] (spPot K) fP fdP) (W : Kn P w K mg base 3 "_law_wide_tops" ["_law_pot_here"] (spWide K) fW fdW)
    (So : Kn P w K mg base 3 "_law_some" ["_law_pot_here", "_law_tops"] (spSome K) fS fdS)
    (G2 : FnG P w K mg base 2 f2 fd2 ["_law_one", "_law_other", "_law_some_here"] (spTwo K)) (g2 : mg "_law_two_right" = some (.ref f2)) (k2 : PySem.W.keepIn K (.ref f2) = true) (b2 : Binds K fd2 ["_law_one", "_law_other", "_law_some_here"] [])
    (G3 : FnG P w K mg base 2 f3 fd3 ["_law_one", "_law_two", "_law_three", "_law_some_here"] (spThree K)) (g3 : mg "_law_three_right" = some (.ref f3)) (k3 : PySem.W.keepIn K (.ref f3) = true) (b3 : Binds K fd3 ["_law_one", "_law_two", "_law_three", "_law_some_here"] [])
    (mr : mg "range" = none) (mx : mg "max" = none) (mi : mg "min" = none) (ml : mg "len" = none) (me : mg "enumerate" = none) : FnG P w K mg base 4 f fd ["_law_script"] (spLaw K) := by
  refine fnG F scLaw (fun vs H Q E h => ?_) (fun cdv A outer s H vs Q E hG hr h => ?_)
  · obtain ⟨a, ns, rfl, _⟩ := h
    rfl
  · obtain ⟨a, ns, rfl, hS, hn, q⟩ := h
    refine ⟨_, pss_cons (ps_for PassesOwn.never rfl (pi_range1 (by rfl) mr (pa_cons (pe_callB (call_max2 rfl) (by rfl) mx (by decide +kernel) (pa_cons pe_int (pa_cons (pe_callB (call_min2 rfl) (by rfl) mi (by decide +kernel) (pa_cons pe_int (pa_cons (pe_callB call_len_seq (by rfl) ml PySem.boot_len (pa_cons (pv 0) pa_nil)) pa_nil))) pa_nil))) pa_nil)) (pg_name (i := 1) scLaw.nd rfl (.inl rfl))
        (pss_cons (ps_set (i := 2) scLaw.nd rfl (.inl rfl) (pe_kn Po hr (by decide) (pa_cons (pv 0) (pa_cons (pv 1) pa_nil))))
        (pss_cons (ps_set (i := 3) scLaw.nd rfl (.inl rfl) (pe_kn W hr (by decide) (pa_cons (pv 2) pa_nil)))
        (pss_cons (ps_set (i := 4) scLaw.nd rfl (.inl rfl) (pe_kn So hr (by decide) (pa_cons (pv 2) (pa_cons (pv 3) pa_nil))))
        (pss_one (ps_for PassesOwn.never rfl (pi_enum (by rfl) me (pa_cons (pv 4) pa_nil)) (pg_tup rfl (pgs_cons (pg_name (i := 5) scLaw.nd rfl (.inl rfl)) (pgs_cons (pg_name (i := 6) scLaw.nd rfl (.inl rfl)) pgs_nil)))
          (pss_cons (ps_for PassesOwn.never rfl (pi_list (pe_slice sl_list (pv 4) (po_some (pv 5)) po_none)) (pg_name (i := 7) scLaw.nd rfl (.inl rfl))
            (pss_one (ps_if (pt_not (pt_val (pe_callG hG G2 (hr.mono (by decide)) (by rfl) g2 k2 b2 (pa_cons (pv 6) (pa_cons (pv 7) (pa_cons (pv 4) pa_nil)))))) (pss_one (ps_ret pe_bl)) pss_nil)))
          (pss_one (ps_if (pt_not (pt_val (pe_callG hG G3 (hr.mono (by decide)) (by rfl) g3 k3 b3 (pa_cons (pv 6) (pa_cons (pe_ix ix_list (pv 4) (pe_op op_sub (pv 5) pe_int) (fun _ _ => rfl)) (pa_cons (pe_ix ix_list (pv 4) (pe_op op_sub (pv 5) pe_int) (fun _ _ => rfl)) (pa_cons (pv 4) pa_nil))))))) (pss_one (ps_ret pe_bl)) pss_nil)))))))))
      (pss_one (ps_ret pe_bl)), ?_⟩
    refine ⟨.ref a, rfl, a, _, rfl, .inl hS, 3, _, rfl, 1, _, rfl, _, rfl, ?_, ?_, for_it walk_range (fun i σ H' => (∃ u1 u2 u3 u4 u5 u6 u7, σ = [some (.ref a), u1, u2, u3, u4, u5, u6, u7]) ∧ Same H H') ⟨⟨none, none, none, none, none, none, none, rfl⟩, Same.refl H⟩ (fun _ _ _ _ _ => trivial) (fun i v σ H0 H0' hi p y => ?_) (fun σ H0 p => q H0)⟩
    · split <;> (try split) <;> omega
    · split <;> (try split) <;> omega
    obtain ⟨⟨u1, u2, u3, u4, u5, u6, u7, rfl⟩, s0⟩ := p
    obtain ⟨rfl, rfl⟩ := y
    have i3 : i < 3 := by
      revert hi
      split <;> (try split) <;> intro hi <;> omega
    refine ⟨.ref a, rfl, _, rfl, a, ns, i, by show [V.ref a, V.int (0 + (i : Int))] = _; rw [Int.zero_add], s0.seq hS, by omega, fun H1 p t1 n1 q1 => ?_⟩
    have s1 := s0.trans t1
    refine ⟨.ref p, rfl, p, 0, rfl, q1, by decide, fun H2 t tops c2 q2 n2 e2 l2 l12 pl2 => ?_⟩
    refine ⟨.ref p, rfl, .ref t, rfl, p, t, tops, 0 + 60, rfl, q2, .inl (.inl e2), pl2, l2, l12, by decide, fun H3 l ps c3 q3 n3 e3 sp3 pn => ?_⟩
    have c13 : But p H1 H3 := c2.trans c3
    have s3 : Same H H3 := fun b o e => c13 b o (fun z => by
      have h1 := s0 b o e
      rw [z, n1] at h1
      cases h1) (s1 b o e)
    have hl3 : SqL K H3 l (refs ps) := .inl (.inl e3)
    refine ⟨.ref l, rfl, l, _, rfl, hl3, for_it (walk_enum (xs := refs ps)) (fun i' σ H' => (∃ u5 u6 u7, σ = [some (.ref a), some (.int (0 + i)), some (.ref p), some (.ref t), some (.ref l), u5, u6, u7]) ∧ Same H3 H') ⟨⟨_, _, _, rfl⟩, Same.refl H3⟩ (fun i' σ H' _ z => z.2.seq hl3) (fun j v σ H4 H5 hj z y => ?_) (fun σ H4 z => ?_)⟩
    · obtain ⟨⟨u5, u6, u7, rfl⟩, s4⟩ := z
      obtain ⟨T, x, y, rfl, nT, rfl, gx, gy⟩ := y
      have ex : x = .int (j : Nat) := (Option.some.inj gx).symm
      subst ex
      obtain ⟨z, ez, rfl⟩ := mapGet gy
      have jl : j < ps.length := by simpa using hj
      have hz := List.mem_of_getElem? ez
      have s5 : Same H3 (upd H4 T (.tup [V.int (j : Nat), V.ref z.1])) := s4.trans (same_new nT)
      refine ⟨T, _, rfl, .inl (.inl upd_same), rfl, _, _, rfl, _, _, rfl, rfl, ?_⟩
      refine ⟨.ref l, rfl, _, rfl, j, rfl, l, _, rfl, s5.seq hl3, fun g ng => ?_⟩
      obtain ⟨qs, eq, ql, qm⟩ := cut_refs ps (some (j : Int)) none
      rw [eq]
      have s6 := s5.trans (same_new (o := .lst (refs qs)) ng)
      have hg : SqL K (upd (upd H4 T (.tup [V.int (j : Nat), V.ref z.1])) g (.lst (refs qs))) g (refs qs) := .inl (.inl upd_same)
      generalize (upd (upd H4 T (.tup [V.int (j : Nat), V.ref z.1])) g (.lst (refs qs))) = H6 at s6 hg ⊢
      refine ⟨g, rfl, ⟨_, hg⟩, for_it (walk_list (xs := refs qs)) (fun m σ H' => (∃ u7, σ = [some (.ref a), some (.int (0 + i)), some (.ref p), some (.ref t), some (.ref l), some (.int (j : Nat)), some (.ref z.1), u7]) ∧ Same H6 H') ⟨⟨_, rfl⟩, Same.refl H6⟩ (fun m σ H' _ y => y.2.seq hg) (fun m v σ H7 H7' hm y y' => ?_) (fun σ H7 y => ?_)⟩
      · obtain ⟨⟨u7, rfl⟩, s7⟩ := y
        obtain ⟨rfl, gv⟩ := y'
        obtain ⟨o, eo, rfl⟩ := mapGet gv
        have s07 := s6.trans s7
        refine ⟨.ref z.1, rfl, .ref o.1, rfl, .ref l, rfl, z.1, o.1, l, z.2, o.2, tops.length, ps, rfl, (sp3 z hz).same s07, (sp3 o (qm o (List.mem_of_getElem? eo))).same s07, l12, s07.seq hl3, by omega, fun b hb => (sp3 b hb).same s07, fun H8 s8 => ⟨true, rfl, iteF ?_⟩⟩
        exact ⟨⟨_, rfl⟩, s7.trans s8⟩
      · obtain ⟨⟨u7, rfl⟩, s7⟩ := y
        have s07 := s6.trans s7
        obtain ⟨y1, m1, a1⟩ := at_refs (ps := ps) (i := (j : Int) - 1) (by omega) (by omega)
        obtain ⟨y2, m2, a2⟩ := at_refs (ps := ps) (i := (j : Int) - 2) (by omega) (by omega)
        refine ⟨.ref z.1, rfl, .ref l, rfl, _, rfl, j, 1, rfl, rfl, l, _, _, _, rfl, rfl, s07.seq hl3, a1, .ref l, rfl, _, rfl, j, 2, rfl, rfl, l, _, _, _, rfl, rfl, s07.seq hl3, a2, .ref l, rfl, z.1, y1.1, y2.1, l, z.2, y1.2, y2.2, tops.length, ps, rfl, (sp3 z hz).same s07, (sp3 y1 m1).same s07, (sp3 y2 m2).same s07, l12, s07.seq hl3, by omega, fun b hb => (sp3 b hb).same s07, fun H8 s8 => ⟨true, rfl, iteF ?_⟩⟩
        exact ⟨⟨_, _, _, rfl⟩, s07.trans s8⟩
    · obtain ⟨⟨u5, u6, u7, rfl⟩, s4⟩ := z
      exact ⟨⟨_, _, _, _, _, _, _, rfl⟩, s3.trans s4⟩
end
end K04

set_option Elab.async false
set_option linter.all false
set_option maxRecDepth 100000
namespace K04
open PySem PySem.Spec PyProof.Rows L2 NB
/-- what the top leaves of a def -/
theorem all_mk {l : PySem.W.OpenLaw} {w : World} {K : PySem.W.Frag} {h : Heap} {mg : Str → Option Value} {fa : Addr} (X : K.In h) (G : h.Ns mainGlobals mg) (hfa : mg "law" = some (.ref fa))
    {f1 : Addr} {od1 an1 : Option Addr} {sl1 : Array (Option Value)} {oc1 kV1 dc1 pm1 cd1 ct1 : Value}
    {f2 : Addr} {od2 an2 : Option Addr} {sl2 : Array (Option Value)} {oc2 kV2 dc2 pm2 cd2 ct2 : Value}
    {f3 : Addr} {od3 an3 : Option Addr} {sl3 : Array (Option Value)} {oc3 kV3 dc3 pm3 cd3 ct3 : Value}
    {f4 : Addr} {od4 an4 : Option Addr} {sl4 : Array (Option Value)} {oc4 kV4 dc4 pm4 cd4 ct4 : Value}
    {f5 : Addr} {od5 an5 : Option Addr} {sl5 : Array (Option Value)} {oc5 kV5 dc5 pm5 cd5 ct5 : Value}
    {f6 : Addr} {od6 an6 : Option Addr} {sl6 : Array (Option Value)} {oc6 kV6 dc6 pm6 cd6 ct6 : Value}
    {f7 : Addr} {od7 an7 : Option Addr} {sl7 : Array (Option Value)} {oc7 kV7 dc7 pm7 cd7 ct7 : Value}
    {f8 : Addr} {od8 an8 : Option Addr} {sl8 : Array (Option Value)} {oc8 kV8 dc8 pm8 cd8 ct8 : Value}
    {f9 : Addr} {od9 an9 : Option Addr} {sl9 : Array (Option Value)} {oc9 kV9 dc9 pm9 cd9 ct9 : Value}
    {f10 : Addr} {od10 an10 : Option Addr} {sl10 : Array (Option Value)} {oc10 kV10 dc10 pm10 cd10 ct10 : Value}
    {f11 : Addr} {od11 an11 : Option Addr} {sl11 : Array (Option Value)} {oc11 kV11 dc11 pm11 cd11 ct11 : Value}
    {f12 : Addr} {od12 an12 : Option Addr} {sl12 : Array (Option Value)} {oc12 kV12 dc12 pm12 cd12 ct12 : Value}
    {f13 : Addr} {od13 an13 : Option Addr} {sl13 : Array (Option Value)} {oc13 kV13 dc13 pm13 cd13 ct13 : Value}
    {f14 : Addr} {od14 an14 : Option Addr} {sl14 : Array (Option Value)} {oc14 kV14 dc14 pm14 cd14 ct14 : Value}
    {f15 : Addr} {od15 an15 : Option Addr} {sl15 : Array (Option Value)} {oc15 kV15 dc15 pm15 cd15 ct15 : Value}
    (a1 : PySem.W.nsIn K mainGlobals "far" = some (some (.ref f1)))
    (l1 : K.lookup f1 = some ⟨oc1, od1, .func (PySem.W.fnOf "far" "far" (defArgs sFar) (defBody sFar) (defScope sFar) .none kV1 dc1 pm1 an1 cd1 ct1), sl1⟩)
    (c1 : PySem.W.codeIn K cd1 "far" = true) (k1 : PySem.W.keepIn K (.ref f1) = true)
    (a2 : PySem.W.nsIn K mainGlobals "middle" = some (some (.ref f2)))
    (l2 : K.lookup f2 = some ⟨oc2, od2, .func (PySem.W.fnOf "middle" "middle" (defArgs sMiddle) (defBody sMiddle) (defScope sMiddle) .none kV2 dc2 pm2 an2 cd2 ct2), sl2⟩)
    (c2 : PySem.W.codeIn K cd2 "middle" = true) (k2 : PySem.W.keepIn K (.ref f2) = true)
    (a3 : PySem.W.nsIn K mainGlobals "is_between" = some (some (.ref f3)))
    (l3 : K.lookup f3 = some ⟨oc3, od3, .func (PySem.W.fnOf "is_between" "is_between" (defArgs sBetween) (defBody sBetween) (defScope sBetween) .none kV3 dc3 pm3 an3 cd3 ct3), sl3⟩)
    (c3 : PySem.W.codeIn K cd3 "is_between" = true) (k3 : PySem.W.keepIn K (.ref f3) = true)
    (a4 : PySem.W.nsIn K mainGlobals "_law_pot" = some (some (.ref f4)))
    (l4 : K.lookup f4 = some ⟨oc4, od4, .func (PySem.W.fnOf "_law_pot" "_law_pot" (defArgs sPot) (defBody sPot) (defScope sPot) .none kV4 dc4 pm4 an4 cd4 ct4), sl4⟩)
    (c4 : PySem.W.codeIn K cd4 "_law_pot" = true) (k4 : PySem.W.keepIn K (.ref f4) = true)
    (a5 : PySem.W.nsIn K mainGlobals "_law_take" = some (some (.ref f5)))
    (l5 : K.lookup f5 = some ⟨oc5, od5, .func (PySem.W.fnOf "_law_take" "_law_take" (defArgs sTake) (defBody sTake) (defScope sTake) .none kV5 dc5 pm5 an5 cd5 ct5), sl5⟩)
    (c5 : PySem.W.codeIn K cd5 "_law_take" = true) (k5 : PySem.W.keepIn K (.ref f5) = true)
    (a6 : PySem.W.nsIn K mainGlobals "_law_of" = some (some (.ref f6)))
    (l6 : K.lookup f6 = some ⟨oc6, od6, .func (PySem.W.fnOf "_law_of" "_law_of" (defArgs sOf) (defBody sOf) (defScope sOf) .none kV6 dc6 pm6 an6 cd6 ct6), sl6⟩)
    (c6 : PySem.W.codeIn K cd6 "_law_of" = true) (k6 : PySem.W.keepIn K (.ref f6) = true)
    (a7 : PySem.W.nsIn K mainGlobals "_law_standing" = some (some (.ref f7)))
    (l7 : K.lookup f7 = some ⟨oc7, od7, .func (PySem.W.fnOf "_law_standing" "_law_standing" (defArgs sStand) (defBody sStand) (defScope sStand) .none kV7 dc7 pm7 an7 cd7 ct7), sl7⟩)
    (c7 : PySem.W.codeIn K cd7 "_law_standing" = true) (k7 : PySem.W.keepIn K (.ref f7) = true)
    (a8 : PySem.W.nsIn K mainGlobals "_law_wide_tops" = some (some (.ref f8)))
    (l8 : K.lookup f8 = some ⟨oc8, od8, .func (PySem.W.fnOf "_law_wide_tops" "_law_wide_tops" (defArgs sWide) (defBody sWide) (defScope sWide) .none kV8 dc8 pm8 an8 cd8 ct8), sl8⟩)
    (c8 : PySem.W.codeIn K cd8 "_law_wide_tops" = true) (k8 : PySem.W.keepIn K (.ref f8) = true)
    (a9 : PySem.W.nsIn K mainGlobals "_law_some" = some (some (.ref f9)))
    (l9 : K.lookup f9 = some ⟨oc9, od9, .func (PySem.W.fnOf "_law_some" "_law_some" (defArgs sSome) (defBody sSome) (defScope sSome) .none kV9 dc9 pm9 an9 cd9 ct9), sl9⟩)
    (c9 : PySem.W.codeIn K cd9 "_law_some" = true) (k9 : PySem.W.keepIn K (.ref f9) = true)
    (a10 : PySem.W.nsIn K mainGlobals "_law_mid" = some (some (.ref f10)))
    (l10 : K.lookup f10 = some ⟨oc10, od10, .func (PySem.W.fnOf "_law_mid" "_law_mid" (defArgs sMid) (defBody sMid) (defScope sMid) .none kV10 dc10 pm10 an10 cd10 ct10), sl10⟩)
    (c10 : PySem.W.codeIn K cd10 "_law_mid" = true) (k10 : PySem.W.keepIn K (.ref f10) = true)
    (a11 : PySem.W.nsIn K mainGlobals "_law_apart" = some (some (.ref f11)))
    (l11 : K.lookup f11 = some ⟨oc11, od11, .func (PySem.W.fnOf "_law_apart" "_law_apart" (defArgs sApart) (defBody sApart) (defScope sApart) .none kV11 dc11 pm11 an11 cd11 ct11), sl11⟩)
    (c11 : PySem.W.codeIn K cd11 "_law_apart" = true) (k11 : PySem.W.keepIn K (.ref f11) = true)
    (a12 : PySem.W.nsIn K mainGlobals "_law_lies" = some (some (.ref f12)))
    (l12 : K.lookup f12 = some ⟨oc12, od12, .func (PySem.W.fnOf "_law_lies" "_law_lies" (defArgs sLies) (defBody sLies) (defScope sLies) .none kV12 dc12 pm12 an12 cd12 ct12), sl12⟩)
    (c12 : PySem.W.codeIn K cd12 "_law_lies" = true) (k12 : PySem.W.keepIn K (.ref f12) = true)
    (a13 : PySem.W.nsIn K mainGlobals "_law_two_right" = some (some (.ref f13)))
    (l13 : K.lookup f13 = some ⟨oc13, od13, .func (PySem.W.fnOf "_law_two_right" "_law_two_right" (defArgs sTwo) (defBody sTwo) (defScope sTwo) .none kV13 dc13 pm13 an13 cd13 ct13), sl13⟩)
    (c13 : PySem.W.codeIn K cd13 "_law_two_right" = true) (k13 : PySem.W.keepIn K (.ref f13) = true)
    (a14 : PySem.W.nsIn K mainGlobals "_law_three_right" = some (some (.ref f14)))
    (l14 : K.lookup f14 = some ⟨oc14, od14, .func (PySem.W.fnOf "_law_three_right" "_law_three_right" (defArgs sThree) (defBody sThree) (defScope sThree) .none kV14 dc14 pm14 an14 cd14 ct14), sl14⟩)
    (c14 : PySem.W.codeIn K cd14 "_law_three_right" = true) (k14 : PySem.W.keepIn K (.ref f14) = true)
    (a15 : PySem.W.nsIn K mainGlobals "law" = some (some (.ref f15)))
    (l15 : K.lookup f15 = some ⟨oc15, od15, .func (PySem.W.fnOf "law" "law" (defArgs sLaw) (defBody sLaw) (defScope sLaw) .none kV15 dc15 pm15 an15 cd15 ct15), sl15⟩)
    (c15 : PySem.W.codeIn K cd15 "law" = true) (k15 : PySem.W.keepIn K (.ref f15) = true)
    (z1 : PySem.W.nsIn K mainGlobals "zip" = some none)
    (z2 : PySem.W.nsIn K mainGlobals "sum" = some none)
    (z3 : PySem.W.nsIn K mainGlobals "abs" = some none)
    (z4 : PySem.W.nsIn K mainGlobals "sorted" = some none)
    (z5 : PySem.W.nsIn K mainGlobals "tuple" = some none)
    (z6 : PySem.W.nsIn K mainGlobals "min" = some none)
    (z7 : PySem.W.nsIn K mainGlobals "max" = some none)
    (z8 : PySem.W.nsIn K mainGlobals "all" = some none)
    (z9 : PySem.W.nsIn K mainGlobals "len" = some none)
    (z10 : PySem.W.nsIn K mainGlobals "int" = some none)
    (z11 : PySem.W.nsIn K mainGlobals "range" = some none)
    (z12 : PySem.W.nsIn K mainGlobals "repr" = some none)
    (z13 : PySem.W.nsIn K mainGlobals "list" = some none)
    (z14 : PySem.W.nsIn K mainGlobals "enumerate" = some none)
    : ∃ fd : FuncData, (∀ (s : Shared) (v : Value), BindsTo s fd ⟨[v], []⟩ [("_law_script", v)]) ∧ ∀ base : Heap, K.In base → base.Ns mainGlobals mg → FnG l.prog w K mg base 4 fa fd ["_law_script"] (spLaw K) := by
  have e := hfa.symm.trans (PySem.W.mg_of X G a15)
  cases e
  have F1 := fun_mk (st := sFar) l1 c1 k1
  have b1 := F1.binds (ps := ["one", "other"]) fun _ _ _ _ _ _ us hl => match us, hl with | [_, _], _ => rfl
  have g1 := PySem.W.mg_of X G a1
  have F2 := fun_mk (st := sMiddle) l2 c2 k2
  have b2 := F2.binds (ps := ["one", "two", "three"]) fun _ _ _ _ _ _ us hl => match us, hl with | [_, _, _], _ => rfl
  have g2 := PySem.W.mg_of X G a2
  have F3 := fun_mk (st := sBetween) l3 c3 k3
  have b3 := F3.binds (ps := ["one", "x", "other"]) fun _ _ _ _ _ _ us hl => match us, hl with | [_, _, _], _ => rfl
  have g3 := PySem.W.mg_of X G a3
  have F4 := fun_mk (st := sPot) l4 c4 k4
  have b4 := F4.binds (ps := ["_law_script", "_law_k"]) fun _ _ _ _ _ _ us hl => match us, hl with | [_, _], _ => rfl
  have g4 := PySem.W.mg_of X G a4
  have F5 := fun_mk (st := sTake) l5 c5 k5
  have b5 := F5.binds (ps := ["_law_pot_here", "_law_many"]) fun _ _ _ _ _ _ us hl => match us, hl with | [_, _], _ => rfl
  have g5 := PySem.W.mg_of X G a5
  have F6 := fun_mk (st := sOf) l6 c6 k6
  have b6 := F6.binds (ps := ["_law_pot_here", "_law_some_here"]) fun _ _ _ _ _ _ us hl => match us, hl with | [_, _], _ => rfl
  have g6 := PySem.W.mg_of X G a6
  have F7 := fun_mk (st := sStand) l7 c7 k7
  have b7 := F7.binds (ps := ["_law_pot_here", "_law_tops"]) fun _ _ _ _ _ _ us hl => match us, hl with | [_, _], _ => rfl
  have g7 := PySem.W.mg_of X G a7
  have F8 := fun_mk (st := sWide) l8 c8 k8
  have b8 := F8.binds (ps := ["_law_pot_here"]) fun _ _ _ _ _ _ us hl => match us, hl with | [_], _ => rfl
  have g8 := PySem.W.mg_of X G a8
  have F9 := fun_mk (st := sSome) l9 c9 k9
  have b9 := F9.binds (ps := ["_law_pot_here", "_law_tops"]) fun _ _ _ _ _ _ us hl => match us, hl with | [_, _], _ => rfl
  have g9 := PySem.W.mg_of X G a9
  have F10 := fun_mk (st := sMid) l10 c10 k10
  have b10 := F10.binds (ps := ["_law_a", "_law_b", "_law_c"]) fun _ _ _ _ _ _ us hl => match us, hl with | [_, _, _], _ => rfl
  have g10 := PySem.W.mg_of X G a10
  have F11 := fun_mk (st := sApart) l11 c11 k11
  have b11 := F11.binds (ps := ["_law_one", "_law_other"]) fun _ _ _ _ _ _ us hl => match us, hl with | [_, _], _ => rfl
  have g11 := PySem.W.mg_of X G a11
  have F12 := fun_mk (st := sLies) l12 c12 k12
  have b12 := F12.binds (ps := ["_law_one", "_law_x", "_law_other"]) fun _ _ _ _ _ _ us hl => match us, hl with | [_, _, _], _ => rfl
  have g12 := PySem.W.mg_of X G a12
  have F13 := fun_mk (st := sTwo) l13 c13 k13
  have b13 := F13.binds (ps := ["_law_one", "_law_other", "_law_some_here"]) fun _ _ _ _ _ _ us hl => match us, hl with | [_, _, _], _ => rfl
  have g13 := PySem.W.mg_of X G a13
  have F14 := fun_mk (st := sThree) l14 c14 k14
  have b14 := F14.binds (ps := ["_law_one", "_law_two", "_law_three", "_law_some_here"]) fun _ _ _ _ _ _ us hl => match us, hl with | [_, _, _, _], _ => rfl
  have g14 := PySem.W.mg_of X G a14
  have F15 := fun_mk (st := sLaw) l15 c15 k15
  have m1 := PySem.W.mg_none_of X G z1
  have m2 := PySem.W.mg_none_of X G z2
  have m3 := PySem.W.mg_none_of X G z3
  have m4 := PySem.W.mg_none_of X G z4
  have m5 := PySem.W.mg_none_of X G z5
  have m6 := PySem.W.mg_none_of X G z6
  have m7 := PySem.W.mg_none_of X G z7
  have m8 := PySem.W.mg_none_of X G z8
  have m9 := PySem.W.mg_none_of X G z9
  have m10 := PySem.W.mg_none_of X G z10
  have m11 := PySem.W.mg_none_of X G z11
  have m12 := PySem.W.mg_none_of X G z12
  have m13 := PySem.W.mg_none_of X G z13
  have m14 := PySem.W.mg_none_of X G z14
  refine ⟨PySem.W.fnOf "law" "law" (defArgs sLaw) (defBody sLaw) (defScope sLaw) .none kV15 dc15 pm15 an15 cd15 ct15, fun s v => .of_eq rfl, fun base _ _ => ?_⟩
  have Kfar := Kn.mk (x := "far") (base := base) (w := w) (P := l.prog) (ok_far (k := 0) F1 m1 m2 m3) g1 F1.kp b1
  have Kmid := Kn.mk (x := "middle") (base := base) (w := w) (P := l.prog) (ok_middle (k := 0) F2 m1 m4 m5) g2 F2.kp b2
  have Kbet := Kn.mk (x := "is_between") (base := base) (w := w) (P := l.prog) (ok_bet (k := 0) F3 m1 m6 m7 m8) g3 F3.kp b3
  have Kpot := Kn.mk (x := "_law_pot") (base := base) (w := w) (P := l.prog) (ok_pot (k := 0) F4 m9 m3 m10) g4 F4.kp b4
  have Ktake := Kn.mk (x := "_law_take") (base := base) (w := w) (P := l.prog) (ok_take (k := 0) F5) g5 F5.kp b5
  have Kof := Kn.mk (x := "_law_of") (base := base) (w := w) (P := l.prog) (ok_of (k := 0) F6 Ktake m9) g6 F6.kp b6
  have Kst := Kn.mk (x := "_law_standing") (base := base) (w := w) (P := l.prog) (ok_stand (k := 0) F7 Ktake m5) g7 F7.kp b7
  have Kw := Kn.mk (x := "_law_wide_tops") (base := base) (w := w) (P := l.prog) (ok_wide (k := 0) F8 Ktake Kof m11 m5) g8 F8.kp b8
  have Ks := Kn.mk (x := "_law_some") (base := base) (w := w) (P := l.prog) (ok_some (k := 0) F9 Ktake Kof Kst m11 m5 m9) g9 F9.kp b9
  have Km := Kn.mk (x := "_law_mid") (base := base) (w := w) (P := l.prog) (ok_mid (k := 0) F10 m6 m7) g10 F10.kp b10
  have Ka := Kn.mk (x := "_law_apart") (base := base) (w := w) (P := l.prog) (ok_apart (k := 0) F11 m1 m6 m7) g11 F11.kp b11
  have Kl := Kn.mk (x := "_law_lies") (base := base) (w := w) (P := l.prog) (ok_lies (k := 0) F12 m1 m8) g12 F12.kp b12
  exact ok_law F15 Kpot Kw Ks (ok_two (k := 0) F13 Ka Kfar Kl Kbet m12) g13 F13.kp b13 (ok_three (k := 0) F14 Km Kmid Kbet m12 m5 m1 m13) g14 F14.kp b14 m11 m7 m6 m9 m14
end K04
open PySem PySem.W PyProof.Rows
set_option maxHeartbeats 0 in
theorem PySem.Challenge.cw_notbothout_k04_far_middle_between_holds : PySem.Challenge.rw_notbothout_k04_far_middle_between.Holds := by
  w_on; o_law; k_head; (case hw => w_witness2)
  k_fill
  refine NB.walkG (l := PySem.Challenge.rw_notbothout_k04_far_middle_between) (n := 63) (k := 4) (x := "_law_script") (sp := fun w => K04.spLaw _) rfl (by decide) rfl ⟨rfl, by decide, by decide⟩ (fun w h Y => PySem.W.kIn_of Y) ?F (fun _ _ a ns hl hS => ⟨a, ns, rfl, hS, hl, fun _ => rfl⟩)
  case F =>
    intro w mg fa h KX G hmg
    refine' K04.all_mk KX G hmg ?a1 ?l1 ?c1 ?k1 ?a2 ?l2 ?c2 ?k2 ?a3 ?l3 ?c3 ?k3 ?a4 ?l4 ?c4 ?k4 ?a5 ?l5 ?c5 ?k5 ?a6 ?l6 ?c6 ?k6 ?a7 ?l7 ?c7 ?k7 ?a8 ?l8 ?c8 ?k8 ?a9 ?l9 ?c9 ?k9 ?a10 ?l10 ?c10 ?k10 ?a11 ?l11 ?c11 ?k11 ?a12 ?l12 ?c12 ?k12 ?a13 ?l13 ?c13 ?k13 ?a14 ?l14 ?c14 ?k14 ?a15 ?l15 ?c15 ?k15 ?z1 ?z2 ?z3 ?z4 ?z5 ?z6 ?z7 ?z8 ?z9 ?z10 ?z11 ?z12 ?z13 ?z14
    (case a1 => k_is)
    (case l1 => k_is)
    (case c1 => k_is)
    (case k1 => k_is)
    (case a2 => k_is)
    (case l2 => k_is)
    (case c2 => k_is)
    (case k2 => k_is)
    (case a3 => k_is)
    (case l3 => k_is)
    (case c3 => k_is)
    (case k3 => k_is)
    (case a4 => k_is)
    (case l4 => k_is)
    (case c4 => k_is)
    (case k4 => k_is)
    (case a5 => k_is)
    (case l5 => k_is)
    (case c5 => k_is)
    (case k5 => k_is)
    (case a6 => k_is)
    (case l6 => k_is)
    (case c6 => k_is)
    (case k6 => k_is)
    (case a7 => k_is)
    (case l7 => k_is)
    (case c7 => k_is)
    (case k7 => k_is)
    (case a8 => k_is)
    (case l8 => k_is)
    (case c8 => k_is)
    (case k8 => k_is)
    (case a9 => k_is)
    (case l9 => k_is)
    (case c9 => k_is)
    (case k9 => k_is)
    (case a10 => k_is)
    (case l10 => k_is)
    (case c10 => k_is)
    (case k10 => k_is)
    (case a11 => k_is)
    (case l11 => k_is)
    (case c11 => k_is)
    (case k11 => k_is)
    (case a12 => k_is)
    (case l12 => k_is)
    (case c12 => k_is)
    (case k12 => k_is)
    (case a13 => k_is)
    (case l13 => k_is)
    (case c13 => k_is)
    (case k13 => k_is)
    (case a14 => k_is)
    (case l14 => k_is)
    (case c14 => k_is)
    (case k14 => k_is)
    (case a15 => k_is)
    (case l15 => k_is)
    (case c15 => k_is)
    (case k15 => k_is)
    (case z1 => k_is)
    (case z2 => k_is)
    (case z3 => k_is)
    (case z4 => k_is)
    (case z5 => k_is)
    (case z6 => k_is)
    (case z7 => k_is)
    (case z8 => k_is)
    (case z9 => k_is)
    (case z10 => k_is)
    (case z11 => k_is)
    (case z12 => k_is)
    (case z13 => k_is)
    (case z14 => k_is)
