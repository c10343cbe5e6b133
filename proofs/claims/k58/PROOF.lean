import PyProof.Rows.All
import Wide.All
import OpenK.AllK
import Wide.FinOn
import HandS.Base
import HandS.Call
import HandS.List
import HandS.Comp
import HandS.Ends
import HandS.Dict
import HandS.Iter
import HandS.Text
import HandS.Words
import HandS.WordsList
import HandS.WordsDict
import HandS.Wide
import HandS.Zip
import HandS.Flow
import HandS.Flt
import KE.GoesMore
import KE.KDictZip
import PyProof.ReprRoads
import HandS.Walk
import PyProof.TupleOfSeq
import PyProof.ReprLen
import HandS.IsInst
import HandS.TupAny
import PyProof.EqAt
import HandS.TupMul
import PySem.Challenge.RW_notbothout_k58_letters_of_anything
set_option Elab.async false
set_option linter.all false
set_option maxRecDepth 100000
/-! Defs whose callers are known to show nothing (guards empty): what repr wants. -/
namespace NB
open PySem PySem.Spec PyProof.Rows L2

/-- a def's promise, wherever nothing is being shown around it -/
structure FnG (P : Program) (w : World) (K : PySem.W.Frag) (mg : Str → Option Value) (base : Heap) (k : Nat) (f : Addr) (fd : FuncData) (ps : List Str) (sp : Sp) : Prop where
  len : ∀ vs H Q E, sp vs H Q E → vs.length = ps.length
  go : ∀ (A : Around) (out : List Env) (s : Shared) (H : Hp) (ar : Args) (us : List Value) (vs : List V) (Q : VK) (E : XK),
    A.guards = some [] → Room k A → Env0 P w K mg base A out s H → BindsTo s fd ar (ps.zip us) → Vals vs us → sp vs H Q E →
    codeAny (model P w) A (.call (.ref f) ar) (CR CX0 out P w H s Q E) s

section
variable {P : Program} {w : World} {K : PySem.W.Frag} {mg : Str → Option Value} {base : Heap}

theorem FnG.of {k : Nat} {f : Addr} {fd : FuncData} {ps : List Str} {sp : Sp} (F : FnOk P w K mg base CX0 k f fd ps sp) : FnG P w K mg base k f fd ps sp :=
  ⟨F.len, fun A out s H ar us vs Q E _ => F.run A out s H ar us vs Q E⟩

theorem fnG {x qual : Str} {st : Stmt} {f : Addr} {fd : FuncData} {N ps : List Str} {k : Nat} {sp : Sp} (F : Fun K x qual st f fd)
    (S : FnScope N ps (defScope st)) (len : ∀ vs H Q E, sp vs H Q E → vs.length = ps.length)
    (body : ∀ (c : Value) (A : Around) (out : List Env) (s : Shared) (H : Hp) (vs : List V) (Q : VK) (E : XK),
      A.guards = some [] → Room k (A.deeper (envOfC qual (defScope st) s.heap.objs.size f c)) → sp vs H Q E →
      ∃ t, PSs (cxOf CX0 P w K mg base N qual (defScope st) f c A out s H E).nox (defBody st) t ∧
        t { nx := fun _ H' => Q .non H', rt := Q } (start N vs) H) :
    FnG P w K mg base (k + 1) f fd ps sp := by
  obtain ⟨oc, od, kV, doc, pm, an, c, ct, osl, rfl, lk, hc⟩ := F.ex
  refine ⟨len, fun A out s H ar us vs Q E hg hr e hb r h => ?_⟩
  have stays : ∀ b o, base.get? b = some o → s.heap.get? b = some o := fun b o q => (e.bs b o q).1
  have inH : K.In s.heap := e.mod.kin.keeps stays
  have noLim : s.heap.NoLimit := e.mod.nolimit.keeps stays
  have kinds : ∀ y ∈ ps.zip us, (defScope st).names.lookup y.1 = some .local ∨
      ((defScope st).names.lookup y.1 = some .cell ∧ ((cellsFrom (s.heap.objs.size + 1) (defScope st).names []).lookup y.1).isSome = true) := by
    intro y hy
    obtain ⟨n, v⟩ := y
    cases S.par n (List.of_mem_zip hy).1 with
    | inl q => exact .inl q
    | inr q => exact .inr ⟨q, PySem.W.cellsFrom_some _ _ _ (.inl q)⟩
  refine codeAny_call_function hr.depth (inH _ _ lk) rfl S.co S.gen rfl (PySem.W.codeRec_of inH hc) (hb _ _ _ _ ?_)
  refine wpAny_newFunctionEnv_cells S.kind kinds ?_
  rintro env rfl s1 x
  refine ⟨noLim.keeps x.toInCall.keep, codeAny_func ?_⟩
  obtain ⟨t, ht, hq⟩ := body c A out s H vs Q E hg (hr.deeper _) h
  have I := inv_start (CX := CX0) (E := E) S hr.hd e (len _ _ _ _ h) r x
  refine wpAny_mono (ht.nox.run [] s1 (start N vs) H _ I hq) ?_ fun _ _ z => z
  intro fl s' z
  cases fl with
  | ret u =>
    obtain ⟨v, σ', H', J, rv, q⟩ := z
    exact ⟨v, H', J.os, J.bare, J.base, J.hok, rv, q⟩
  | next =>
    obtain ⟨σ', H', J, q⟩ := z
    exact ⟨V.non, H', J.os, J.bare, J.base, J.hok, rfl, q⟩
  | brk => exact False.elim z.choose_spec.choose_spec.2
  | cont => exact False.elim z.choose_spec.choose_spec.2
end

section
variable {X : Cx} {k : Nat} {f : Addr} {fd : FuncData} {ps : List Str} {sp : Sp} {x : Str} {p pos : Pos} {e : Expr} {es : List Expr} {t : TA}
/-- f(..) of such a def, all arguments written -/
theorem pe_callG (hG : X.A.guards = some []) (F : FnG X.prog X.w X.K X.mg X.base k f fd ps sp) (hr : Room k X.A) (hg : Gl X x) (hm : X.mg x = some (.ref f))
    (hk : PySem.W.keepIn X.K (.ref f) = true) (hb : Binds X.K fd ps []) (ha : PA X (e :: es) t) (hdb : (x == ("__debug__" : Str)) = false := by decide)
    (he : starEach (e :: es) X.env = (false, eval e X.env) :: starEach es X.env := by rfl) (hpl : (backTo pos (starEach es X.env)).any (·.1) = false := by rfl) :
    PE X (.Call (.Name x p) (e :: es) [] pos) (tCall sp [] E0 t) := by
  refine ⟨fun pins s σ H Q I h => wpAny_Call_Name_kw (ld_glob I hg hm ?_ hdb)⟩
  refine PySem.W.callWith_K (h₀ := X.base) I.ok.mod.kin hk (thn (ha.run pos pins s σ H _ I h) ?_) he hpl
  rintro us s1 ⟨vs, H1, I1, r, q⟩
  refine ⟨I1.kIn, wpAny_call ?_⟩
  have q2 : sp vs H1 Q E0 := by
    have q' : sp (vs ++ []) H1 Q E0 := q
    rwa [List.append_nil] at q'
  have ln : us.length = ps.length := r.length.symm.trans (F.len _ _ _ _ q2)
  have bnd : BindsTo s1 fd ⟨us, []⟩ (ps.zip us) := by
    have b := hb s1 us I1.kIn (by rw [List.append_nil]; exact ln)
    rwa [List.append_nil] at b
  refine codeAny_mono (F.go X.A X.stack s1 H1 ⟨us, []⟩ us vs Q E0 hG hr I1.env0 bnd r q2) ?_
  intro rs s' z
  cases rs with
  | error e => exact False.elim z
  | ok fl =>
    cases fl with
    | ret u => exact I1.after z
    | next => exact False.elim z
    | brk => exact False.elim z
    | cont => exact False.elim z
end

section
variable {X : Cx}
/-- what repr asks of data -/
structure Showable (d : PyData) : Prop where
  sh : d.showable = true
  nd : d.hasDict = false
  dp : d.depth ≤ 60
  sz : d.shown.length ≤ sizeLine
/-- repr(x), x a list or a tuple of data -/
theorem call_reprD (hG : X.A.guards = some []) (hu : X.A.units + 64 < cLine) : CallR X (.builtin "repr") (fun xs H Q => ∃ a d, xs = [.ref a] ∧ Dp X.K H (.ref a) d ∧ Showable d ∧ Q (.str d.shown) H) := by
  intro pins s σ H xs us Q I r h
  obtain ⟨a, d, rfl, hd, S, q⟩ := h
  obtain ⟨u, rfl, ru⟩ := vals1 r
  obtain ⟨as, rd⟩ := Dp.reads I d _ u hd ru
  cases ru
  have hn := S.dp
  exact repr_of_reads' rd S.sh (PyData.noDict_hsm S.nd) hG (by omega) (fun _ _ z => z) (fun h' u tk hk => ⟨.str _, H, I.kept hk, ⟨_, rfl⟩, q⟩) S.sz
end
end NB

set_option Elab.async false
set_option linter.all false
set_option maxRecDepth 100000
set_option maxHeartbeats 1000000
/-! zip of three tuples of one length, its turns given to one name or to three. -/
namespace NB
open PySem PySem.Spec PyProof.Rows L2
open PySem.Sem (wp)

/-- a zip as it stands between two turns: a is None or the tuple given out last -/
abbrev Zat (h : Heap) (z ti to : Addr) (a b : Value) : Prop :=
  h.get? z = some { cls := .type "zip", dict := none, data := .fields #[a, b, .bool false, .ref ti, .ref to], slots := #[] }
def Out (a : Value) : Prop := a = .none ∨ ∃ T : Addr, a = rawInt T

section
variable {prog : Program} {w : World} {A : Around} {E : Value → Shared → Prop} {s : Shared} {z ti to i1 i2 i3 l1 l2 l3 : Addr} {a a1 a2 a3 : Value} {f : Bool} {xs ys zs : Array Value} {i : Nat}

theorem freeOr {Q : Bool → Shared → Prop} (ho : Out a) (hz : Zat s.heap z ti to a (.bool f))
    (h : ∀ (b : Bool) (h' : Heap) (g : Bool), Zat h' z ti to a (.bool g) → Heap.SameBut z s.heap h' → Q b { s with heap := h' }) :
    wpAny (model prog w) A (Builtin.SmallTypes.ownedTupleIsFree (.ref z)) Q E s := by
  unfold Builtin.SmallTypes.ownedTupleIsFree
  refine wpAny_bind (wpAny_field hz rfl (x := a) rfl ?_)
  rcases ho with e | ⟨T, e⟩
  · subst e
    exact wpAny_pure (h true s.heap f hz (Heap.SameBut.refl _ _))
  · subst e
    show wpAny _ _ (loadIfAlive ((T : Int).toNat) >>= _) _ _ _
    rw [Int.toNat_natCast]
    refine wpAny_bind ?_
    cases e : s.heap.get? T with
    | none =>
      have key : wpAny (model prog w) A (loadIfAlive T) (fun r s' => r = none ∧ s' = s) E s := fun _ _ _ => ⟨e, rfl⟩
      refine thn key fun r s' q => ?_
      obtain ⟨rfl, rfl⟩ := q
      exact wpAny_pure (h true _ f hz (Heap.SameBut.refl _ _))
    | some o =>
      refine PySem.W.kdx_alive e ?_
      simp only [Option.isNone_some, Bool.false_eq_true, if_false]
      refine wpAny_bind (wpAny_field hz rfl (x := .bool f) rfl ?_)
      cases f with
      | true =>
        rw [if_neg (show ¬ ((Value.bool true != Value.bool true) = true) by decide)]
        exact wpAny_pure (h false s.heap true hz (Heap.SameBut.refl _ _))
      | false =>
        rw [if_pos (show (Value.bool false != Value.bool true) = true by decide)]
        exact wpAny_bind (wpAny_setField_rec hz (by simp) fun h1 z1 s1 => wpAny_pure (h false h1 true z1 s1))

/-- the three iterators over their tuples at turn i, apart from the zip's own cells -/
abbrev St3 (h : Heap) (i1 i2 i3 l1 l2 l3 : Addr) (xs ys zs : Array Value) (i : Nat) : Prop :=
  (h.IsTupleIter i1 l1 i ∧ h.IsTuple l1 xs) ∧ (h.IsTupleIter i2 l2 i ∧ h.IsTuple l2 ys) ∧ (h.IsTupleIter i3 l3 i ∧ h.IsTuple l3 zs)

theorem keepIt {h h' : Heap} {it l : Addr} {k : Nat} {vs : Array Value} (st : h.IsTupleIter it l k ∧ h.IsTuple l vs) {x : Addr} (hs : Heap.SameBut x h h') (n1 : it ≠ x) (n2 : l ≠ x) : h'.IsTupleIter it l k ∧ h'.IsTuple l vs :=
  ⟨st.1.extBut hs.extBut n1, st.2.extBut hs.extBut n2⟩

structure Far3 (z ti to i1 i2 i3 l1 l2 l3 : Addr) : Prop where
  tiz : ti ≠ z
  toz : to ≠ z
  tito : ti ≠ to
  ti1 : ti ≠ i1
  ti2 : ti ≠ i2
  ti3 : ti ≠ i3
  to1 : to ≠ i1
  to2 : to ≠ i2
  to3 : to ≠ i3
  z1 : i1 ≠ z
  z2 : i2 ≠ z
  z3 : i3 ≠ z
  n12 : i1 ≠ i2
  n13 : i1 ≠ i3
  n23 : i2 ≠ i3
  l1n : l1 ≠ z ∧ l1 ≠ to ∧ l1 ≠ i1 ∧ l1 ≠ i2 ∧ l1 ≠ i3
  l2n : l2 ≠ z ∧ l2 ≠ to ∧ l2 ≠ i1 ∧ l2 ≠ i2 ∧ l2 ≠ i3
  l3n : l3 ≠ z ∧ l3 ≠ to ∧ l3 ≠ i1 ∧ l3 ≠ i2 ∧ l3 ≠ i3

theorem drawT {it l : Addr} {k : Nat} {vs : Array Value} {x : Value} {Q : Value → Shared → Prop} (st : s.heap.IsTupleIter it l k ∧ s.heap.IsTuple l vs) (ne : l ≠ it) (hx : vs[k]? = some x)
    (h : ∀ h', (h'.IsTupleIter it l (k + 1) ∧ h'.IsTuple l vs) → Heap.SameBut it s.heap h' → Q x { s with heap := h' }) :
    wpAny (model prog w) A (Builtin.SmallTypes.nextOf (.ref it)) Q E s :=
  RZ.nextOf_tuple_item st.1 st.2 hx fun h' q1 q2 => h h' ⟨q1, st.2.extBut q2.extBut ne⟩ q2

theorem next3 {x1 x2 x3 : Value} {Q : Value → Shared → Prop} (D : Far3 z ti to i1 i2 i3 l1 l2 l3) (ho : Out a) (hz : Zat s.heap z ti to a (.bool f))
    (hI : IsTupOf3 s.heap ti (.ref i1) (.ref i2) (.ref i3)) (hO : IsTupOf3 s.heap to a1 a2 a3) (st : St3 s.heap i1 i2 i3 l1 l2 l3 xs ys zs i)
    (hx : xs[i]? = some x1) (hy : ys[i]? = some x2) (hw : zs[i]? = some x3)
    (hQ : ∀ (h' : Heap) (a' : Value) (g : Bool) (b1 b2 b3 : Value), Out a' → Zat h' z ti to a' (.bool g) → IsTupOf3 h' to b1 b2 b3 → St3 h' i1 i2 i3 l1 l2 l3 xs ys zs (i + 1) → IsTupOf3 h' s.heap.objs.size x1 x2 x3 → h'.objs.size = s.heap.objs.size + 1 →
      (∀ c o, c ≠ z → c ≠ to → c ≠ i1 → c ≠ i2 → c ≠ i3 → s.heap.get? c = some o → h'.get? c = some o) → Q (.ref s.heap.objs.size) { s with heap := h' }) :
    wpAny (model prog w) A (Builtin.«zip.__next__» ⟨[.ref z], []⟩) (fun fin s' => ∃ v, fin = .done (.ret v) ∧ Q v s') E s := by
  obtain ⟨hp, gg, dd, tk, os⟩ := s
  show wpAny _ _ (field (.ref z) 2 >>= _) _ _ _
  refine wpAny_bind (wpAny_field hz rfl (x := .bool false) rfl ?_)
  show wpAny _ _ (field (.ref z) 3 >>= _) _ _ _
  refine wpAny_bind (wpAny_field hz rfl (x := .ref ti) rfl ?_)
  refine wpAny_bind (wpAny_seqItems hI rfl ?_)
  show wpAny _ _ (Builtin.SmallTypes.ownedTupleIsFree (.ref z) >>= _) _ _ _
  refine wpAny_bind (freeOr ho hz fun b h1 f1 hz1 hs1 => ?_)
  replace hs1 : Heap.SameBut z hp h1 := hs1
  obtain ⟨sa, sb, sc⟩ := st
  have sa1 := keepIt sa hs1 D.z1 D.l1n.1
  have sb1 := keepIt sb hs1 D.z2 D.l2n.1
  have sc1 := keepIt sc hs1 D.z3 D.l3n.1
  have hO1 : IsTupOf3 h1 to a1 a2 a3 := hs1.extBut _ _ D.toz hO
  cases b with
  | false =>
    simp only [Bool.false_eq_true, if_false]
    refine wpAny_bind ?_
    rw [← Array.forIn_toList]
    simp only [List.forIn_cons, List.forIn_nil]
    refine wpAny_bind (wpAny_bind (wpAny_holding ?_))
    show wpAny _ _ (Builtin.SmallTypes.nextOf (.ref i1) >>= _) _ _ ⟨h1, gg, dd, tk, os⟩
    refine wpAny_bind (drawT (s := ⟨h1, gg, dd, tk, os⟩) sa1 D.l1n.2.2.1 hx fun h2 sa2 hs2 => wpAny_pure (wpAny_pure ?_))
    replace hs2 : Heap.SameBut i1 h1 h2 := hs2
    have sb2 := keepIt sb1 hs2 D.n12.symm D.l2n.2.2.1
    have sc2 := keepIt sc1 hs2 D.n13.symm D.l3n.2.2.1
    refine wpAny_bind (wpAny_bind (wpAny_holding ?_))
    show wpAny _ _ (Builtin.SmallTypes.nextOf (.ref i2) >>= _) _ _ ⟨h2, gg, dd, tk, os⟩
    refine wpAny_bind (drawT (s := ⟨h2, gg, dd, tk, os⟩) sb2 D.l2n.2.2.2.1 hy fun h3 sb3 hs3 => wpAny_pure (wpAny_pure ?_))
    replace hs3 : Heap.SameBut i2 h2 h3 := hs3
    have sa3 := keepIt sa2 hs3 D.n12 D.l1n.2.2.2.1
    have sc3 := keepIt sc2 hs3 D.n23.symm D.l3n.2.2.2.1
    refine wpAny_bind (wpAny_bind (wpAny_holding ?_))
    show wpAny _ _ (Builtin.SmallTypes.nextOf (.ref i3) >>= _) _ _ ⟨h3, gg, dd, tk, os⟩
    refine wpAny_bind (drawT (s := ⟨h3, gg, dd, tk, os⟩) sc3 D.l3n.2.2.2.2 hw fun h4 sc4 hs4 => wpAny_pure (wpAny_pure (wpAny_pure ?_)))
    replace hs4 : Heap.SameBut i3 h3 h4 := hs4
    have sa4 := keepIt sa3 hs4 D.n13 D.l1n.2.2.2.2
    have sb4 := keepIt sb3 hs4 D.n23 D.l2n.2.2.2.2
    show wpAny _ _ (newTuple [x1, x2, x3] >>= _) _ _ ⟨h4, gg, dd, tk, os⟩
    refine wpAny_bind (wpAny_newTuple (wpAny_pure ⟨_, rfl, ?_⟩))
    have sz : h4.objs.size = hp.objs.size := by rw [hs4.1, hs3.1, hs2.1, hs1.1]
    have kk : ∀ c o, c ≠ z → c ≠ i1 → c ≠ i2 → c ≠ i3 → hp.get? c = some o → h4.get? c = some o := fun c o c0 c1 c2 c3 e =>
      hs4.extBut _ _ c3 (hs3.extBut _ _ c2 (hs2.extBut _ _ c1 (hs1.extBut _ _ c0 e)))
    have hz4 : Zat h4 z ti to a (.bool f1) := hs4.extBut _ _ D.z3.symm (hs3.extBut _ _ D.z2.symm (hs2.extBut _ _ D.z1.symm hz1))
    have hO4 : IsTupOf3 h4 to a1 a2 a3 := kk _ _ D.toz D.to1 D.to2 D.to3 hO
    have up : ∀ c o, h4.get? c = some o → (h4.push { cls := .type "tuple", data := .seq #[x1, x2, x3] }).get? c = some o := fun c o e => Heap.get?_push_of_some _ e
    have nw : IsTupOf3 (h4.push { cls := .type "tuple", data := .seq #[x1, x2, x3] }) h4.objs.size x1 x2 x3 := Heap.get?_push_size _ rfl
    have zw : (h4.push { cls := .type "tuple", data := .seq #[x1, x2, x3] }).objs.size = h4.objs.size + 1 := Heap.size_push ..
    show Q (.ref h4.objs.size) _
    rw [sz] at nw zw ⊢
    exact hQ _ a f1 a1 a2 a3 ho (up _ _ hz4) (up _ _ hO4)
      ⟨⟨sa4.1.at fun o e => up _ o e, sa4.2.push _⟩, ⟨sb4.1.at fun o e => up _ o e, sb4.2.push _⟩, ⟨sc4.1.at fun o e => up _ o e, sc4.2.push _⟩⟩ nw zw
      fun c o c0 _ c1 c2 c3 e => up c o (kk c o c0 c1 c2 c3 e)
  | true =>
    simp only [if_true]
    refine wpAny_bind (wpAny_rule ?_)
    refine wpAny_bind (wpAny_field (s := ⟨h1, gg, dd, tk, os⟩) hz1 rfl (x := .ref to) rfl ?_)
    refine wpAny_bind (wpAny_setField_rec (s := ⟨h1, gg, dd, tk, os⟩) hz1 (by simp) fun g0 z0 s0 => ?_)
    replace z0 : Zat g0 z ti to .ellipsis (.bool f1) := z0
    replace s0 : Heap.SameBut z h1 g0 := s0
    have ta0 := keepIt sa1 s0 D.z1 D.l1n.1
    have tb0 := keepIt sb1 s0 D.z2 D.l2n.1
    have tc0 := keepIt sc1 s0 D.z3 D.l3n.1
    have o0 : IsTupOf3 g0 to a1 a2 a3 := s0.extBut _ _ D.toz hO1
    refine wpAny_bind ?_
    simp only [List.zipIdx_cons, List.zipIdx_nil, List.forIn_cons, List.forIn_nil]
    refine wpAny_bind (wpAny_bind (wpAny_onRaise ?_))
    show wpAny _ _ (Builtin.SmallTypes.nextOf (.ref i1) >>= _) _ _ ⟨g0, gg, dd, tk, os⟩
    refine wpAny_bind (drawT (s := ⟨g0, gg, dd, tk, os⟩) ta0 D.l1n.2.2.1 hx fun p1 ta1 s1 => wpAny_pure ?_)
    replace s1 : Heap.SameBut i1 g0 p1 := s1
    have o1 : IsTupOf3 p1 to a1 a2 a3 := s1.extBut _ _ D.to1 o0
    refine wpAny_bind (wpAny_seqItems (s := ⟨p1, gg, dd, tk, os⟩) o1 rfl ?_)
    refine wpAny_bind (updateSeq_IsTupOf3 (s := ⟨p1, gg, dd, tk, os⟩) o1 fun q1 u1 r1 => wpAny_bind (wpAny_letGo (wpAny_pure ?_)))
    replace u1 : IsTupOf3 q1 to x1 a2 a3 := u1
    replace r1 : Heap.SameBut to p1 q1 := r1
    have ta2 := keepIt ta1 r1 D.to1.symm D.l1n.2.1
    have tb2 := keepIt (keepIt tb0 s1 D.n12.symm D.l2n.2.2.1) r1 D.to2.symm D.l2n.2.1
    have tc2 := keepIt (keepIt tc0 s1 D.n13.symm D.l3n.2.2.1) r1 D.to3.symm D.l3n.2.1
    refine wpAny_bind (wpAny_bind (wpAny_onRaise ?_))
    show wpAny _ _ (Builtin.SmallTypes.nextOf (.ref i2) >>= _) _ _ ⟨q1, gg, dd, tk, os⟩
    refine wpAny_bind (drawT (s := ⟨q1, gg, dd, tk, os⟩) tb2 D.l2n.2.2.2.1 hy fun p2 tb3 s2 => wpAny_pure ?_)
    replace s2 : Heap.SameBut i2 q1 p2 := s2
    have o2 : IsTupOf3 p2 to x1 a2 a3 := s2.extBut _ _ D.to2 u1
    refine wpAny_bind (wpAny_seqItems (s := ⟨p2, gg, dd, tk, os⟩) o2 rfl ?_)
    refine wpAny_bind (updateSeq_IsTupOf3 (s := ⟨p2, gg, dd, tk, os⟩) o2 fun q2 u2 r2 => wpAny_bind (wpAny_letGo (wpAny_pure ?_)))
    replace u2 : IsTupOf3 q2 to x1 x2 a3 := u2
    replace r2 : Heap.SameBut to p2 q2 := r2
    have ta4 := keepIt (keepIt ta2 s2 D.n12 D.l1n.2.2.2.1) r2 D.to1.symm D.l1n.2.1
    have tb4 := keepIt tb3 r2 D.to2.symm D.l2n.2.1
    have tc4 := keepIt (keepIt tc2 s2 D.n23.symm D.l3n.2.2.2.1) r2 D.to3.symm D.l3n.2.1
    refine wpAny_bind (wpAny_bind (wpAny_onRaise ?_))
    show wpAny _ _ (Builtin.SmallTypes.nextOf (.ref i3) >>= _) _ _ ⟨q2, gg, dd, tk, os⟩
    refine wpAny_bind (drawT (s := ⟨q2, gg, dd, tk, os⟩) tc4 D.l3n.2.2.2.2 hw fun p3 tc5 s3 => wpAny_pure ?_)
    replace s3 : Heap.SameBut i3 q2 p3 := s3
    have o3 : IsTupOf3 p3 to x1 x2 a3 := s3.extBut _ _ D.to3 u2
    refine wpAny_bind (wpAny_seqItems (s := ⟨p3, gg, dd, tk, os⟩) o3 rfl ?_)
    refine wpAny_bind (updateSeq_IsTupOf3 (s := ⟨p3, gg, dd, tk, os⟩) o3 fun q3 u3 r3 => wpAny_bind (wpAny_letGo (wpAny_pure (wpAny_pure ?_))))
    replace u3 : IsTupOf3 q3 to x1 x2 x3 := u3
    replace r3 : Heap.SameBut to p3 q3 := r3
    have ta6 := keepIt (keepIt ta4 s3 D.n13 D.l1n.2.2.2.2) r3 D.to1.symm D.l1n.2.1
    have tb6 := keepIt (keepIt tb4 s3 D.n23 D.l2n.2.2.2.2) r3 D.to2.symm D.l2n.2.1
    have tc6 := keepIt tc5 r3 D.to3.symm D.l3n.2.1
    refine wpAny_bind (wpAny_seqItems (s := ⟨q3, gg, dd, tk, os⟩) u3 rfl (wpAny_bind (wpAny_newTuple ?_)))
    have sz : q3.objs.size = hp.objs.size := by rw [r3.1, s3.1, r2.1, s2.1, r1.1, s1.1, s0.1, hs1.1]
    have hz3 : Zat q3 z ti to .ellipsis (.bool f1) := r3.extBut _ _ D.toz.symm (s3.extBut _ _ D.z3.symm (r2.extBut _ _ D.toz.symm (s2.extBut _ _ D.z2.symm (r1.extBut _ _ D.toz.symm (s1.extBut _ _ D.z1.symm z0)))))
    have kk : ∀ c o, c ≠ z → c ≠ to → c ≠ i1 → c ≠ i2 → c ≠ i3 → hp.get? c = some o → q3.get? c = some o := fun c o c0 ct c1 c2 c3 e =>
      r3.extBut _ _ ct (s3.extBut _ _ c3 (r2.extBut _ _ ct (s2.extBut _ _ c2 (r1.extBut _ _ ct (s1.extBut _ _ c1 (s0.extBut _ _ c0 (hs1.extBut _ _ c0 e)))))))
    have zlt : z < q3.objs.size := Heap.lt_size hz3
    show wpAny _ _ (Builtin.SmallTypes.ownedTupleHandOut (.ref z) (.ref q3.objs.size) >>= _) _ _ ⟨q3.push { cls := .type "tuple", data := .seq #[x1, x2, x3] }, gg, dd, tk, os⟩
    refine wpAny_bind ?_
    unfold Builtin.SmallTypes.ownedTupleHandOut
    have z5 : Zat (q3.push { cls := .type "tuple", data := .seq #[x1, x2, x3] }) z ti to .ellipsis (.bool f1) := Heap.get?_push_of_some _ hz3
    refine wpAny_bind (wpAny_setField_rec z5 (by simp) fun h7 z7 s7 => ?_)
    replace z7 : Zat h7 z ti to (rawInt q3.objs.size) (.bool f1) := z7
    replace s7 : Heap.SameBut z (q3.push { cls := .type "tuple", data := .seq #[x1, x2, x3] }) h7 := s7
    refine wpAny_setField_rec z7 (by simp) fun h8 z8 s8 => ?_
    replace z8 : Zat h8 z ti to (rawInt q3.objs.size) (.bool false) := z8
    replace s8 : Heap.SameBut z h7 h8 := s8
    have up : ∀ c o, c ≠ z → q3.get? c = some o → h8.get? c = some o := fun c o c1 e => s8.extBut _ _ c1 (s7.extBut _ _ c1 (Heap.get?_push_of_some _ e))
    have nw : IsTupOf3 h8 q3.objs.size x1 x2 x3 := s8.extBut _ _ (Nat.ne_of_gt zlt) (s7.extBut _ _ (Nat.ne_of_gt zlt) (Heap.get?_push_size _ rfl))
    have zw : h8.objs.size = q3.objs.size + 1 := by rw [s8.1, s7.1, Heap.size_push]
    have fin : ∀ {it l : Addr} {k : Nat} {vs : Array Value}, (q3.IsTupleIter it l k ∧ q3.IsTuple l vs) → it ≠ z → l ≠ z → h8.IsTupleIter it l k ∧ h8.IsTuple l vs := fun {it l k vs} st n1 n2 =>
      keepIt (keepIt ⟨st.1.at fun o e => Heap.get?_push_of_some _ e, st.2.push _⟩ s7 n1 n2) s8 n1 n2
    refine wpAny_pure ⟨_, rfl, ?_⟩
    show Q (.ref q3.objs.size) _
    rw [sz] at nw zw z8 ⊢
    exact hQ h8 _ false x1 x2 x3 (.inr ⟨_, rfl⟩) z8 (up _ _ D.toz u3) ⟨fin ta6 D.z1 D.l1n.1, fin tb6 D.z2 D.l2n.1, fin tc6 D.z3 D.l3n.1⟩ nw zw
      fun c o c0 ct c1 c2 c3 e => up c o c0 (kk c o c0 ct c1 c2 c3 e)

theorem end3 {Q : Fin → Shared → Prop} (hh : A.handled = none) (D : Far3 z ti to i1 i2 i3 l1 l2 l3) (ho : Out a) (hz : Zat s.heap z ti to a (.bool f))
    (hI : IsTupOf3 s.heap ti (.ref i1) (.ref i2) (.ref i3)) (st : s.heap.IsTupleIter i1 l1 i ∧ s.heap.IsTuple l1 xs) (hx : xs[i]? = none)
    (hE : ∀ h' e, (∀ c o, c ≠ z → c ≠ to → c ≠ i1 → c ≠ i2 → c ≠ i3 → s.heap.get? c = some o → h'.get? c = some o) → (∃ o, h'.get? e = some o ∧ o.cls = .type "StopIteration") → E (.ref e) { s with heap := h' }) :
    wpAny (model prog w) A (Builtin.«zip.__next__» ⟨[.ref z], []⟩) Q E s := by
  obtain ⟨hp, gg, dd, tk, os⟩ := s
  show wpAny _ _ (field (.ref z) 2 >>= _) _ _ _
  refine wpAny_bind (wpAny_field hz rfl (x := .bool false) rfl ?_)
  show wpAny _ _ (field (.ref z) 3 >>= _) _ _ _
  refine wpAny_bind (wpAny_field hz rfl (x := .ref ti) rfl ?_)
  refine wpAny_bind (wpAny_seqItems hI rfl ?_)
  show wpAny _ _ (Builtin.SmallTypes.ownedTupleIsFree (.ref z) >>= _) _ _ _
  refine wpAny_bind (freeOr ho hz fun b h1 f1 hz1 hs1 => ?_)
  replace hs1 : Heap.SameBut z hp h1 := hs1
  have sa1 := keepIt st hs1 D.z1 D.l1n.1
  cases b with
  | false =>
    simp only [Bool.false_eq_true, if_false]
    refine wpAny_bind ?_
    rw [← Array.forIn_toList]
    simp only [List.forIn_cons, List.forIn_nil]
    refine wpAny_bind (wpAny_bind (wpAny_holding ?_))
    show wpAny _ _ (Builtin.SmallTypes.nextOf (.ref i1) >>= _) _ _ ⟨h1, gg, dd, tk, os⟩
    refine wpAny_bind (RZ.nextOf_tuple_end (s := ⟨h1, gg, dd, tk, os⟩) hh sa1.1 sa1.2 hx fun h2 e hs2 he => ?_)
    exact hE h2 e (fun c o c0 _ c1 _ _ q => hs2 _ _ c1 (hs1.extBut _ _ c0 q)) he
  | true =>
    simp only [if_true]
    refine wpAny_bind (wpAny_rule ?_)
    refine wpAny_bind (wpAny_field (s := ⟨h1, gg, dd, tk, os⟩) hz1 rfl (x := .ref to) rfl ?_)
    refine wpAny_bind (wpAny_setField_rec (s := ⟨h1, gg, dd, tk, os⟩) hz1 (by simp) fun g0 z0 s0 => ?_)
    replace z0 : Zat g0 z ti to .ellipsis (.bool f1) := z0
    replace s0 : Heap.SameBut z h1 g0 := s0
    have ta0 := keepIt sa1 s0 D.z1 D.l1n.1
    refine wpAny_bind ?_
    simp only [List.zipIdx_cons, List.zipIdx_nil, List.forIn_cons, List.forIn_nil]
    refine wpAny_bind (wpAny_bind (wpAny_onRaise ?_))
    show wpAny _ _ (Builtin.SmallTypes.nextOf (.ref i1) >>= _) _ _ ⟨g0, gg, dd, tk, os⟩
    refine wpAny_bind (RZ.nextOf_tuple_end (s := ⟨g0, gg, dd, tk, os⟩) hh ta0.1 ta0.2 hx fun h2 e hs2 he => ?_)
    obtain ⟨oe, hoe, hce⟩ := he
    replace hs2 : Heap.ExtBut i1 g0 h2 := hs2
    replace hoe : h2.get? e = some oe := hoe
    have z2 : Zat h2 z ti to .ellipsis (.bool f1) := hs2 _ _ D.z1.symm z0
    have ne : e ≠ z := fun q => by subst q; rw [z2] at hoe; cases hoe; simp at hce
    refine wpAny_setField_rec (s := ⟨h2, gg, dd, tk, os⟩) z2 (by simp) fun h3 _ s3 => ?_
    replace s3 : Heap.SameBut z h2 h3 := s3
    exact hE h3 e (fun c o c0 _ c1 _ _ q => s3.extBut _ _ c0 (hs2 _ _ c1 (s0.extBut _ _ c0 (hs1.extBut _ _ c0 q)))) ⟨oe, s3.extBut _ _ ne hoe, hce⟩
end
end NB

set_option Elab.async false
set_option linter.all false
set_option maxRecDepth 100000
set_option maxHeartbeats 1000000
namespace NB
open PySem PySem.Spec PyProof.Rows L2

section
variable {prog : Program} {w : World} {A : Around} {E : Value → Shared → Prop} {s : Shared} {z ti to i1 i2 i3 l1 l2 l3 : Addr} {a a1 a2 a3 : Value} {f : Bool} {xs ys zs : Array Value} {i : Nat}

theorem pyNext3 {x1 x2 x3 : Value} {Q : Option Value → Shared → Prop} (D : Far3 z ti to i1 i2 i3 l1 l2 l3) (ho : Out a) (hz : Zat s.heap z ti to a (.bool f))
    (hI : IsTupOf3 s.heap ti (.ref i1) (.ref i2) (.ref i3)) (hO : IsTupOf3 s.heap to a1 a2 a3) (st : St3 s.heap i1 i2 i3 l1 l2 l3 xs ys zs i)
    (hx : xs[i]? = some x1) (hy : ys[i]? = some x2) (hw : zs[i]? = some x3)
    (hQ : ∀ (h' : Heap) (a' : Value) (g : Bool) (b1 b2 b3 : Value), Out a' → Zat h' z ti to a' (.bool g) → IsTupOf3 h' to b1 b2 b3 → St3 h' i1 i2 i3 l1 l2 l3 xs ys zs (i + 1) → IsTupOf3 h' s.heap.objs.size x1 x2 x3 → h'.objs.size = s.heap.objs.size + 1 →
      (∀ c o, c ≠ z → c ≠ to → c ≠ i1 → c ≠ i2 → c ≠ i3 → s.heap.get? c = some o → h'.get? c = some o) → Q (some (.ref s.heap.objs.size)) { s with heap := h' }) :
    wpAny (model prog w) A (pyNext (.ref z)) Q E s := by
  have ty : s.TypeIs (.ref z) "zip" := ⟨_, hz, rfl⟩
  unfold pyNext
  refine wpAny_bind (wpAny_attempt (wpAny_callSpecial?_slot (name := Str.ofString "__next__") ty F.slot_zip_next ?_))
  refine wpAny_call_entry F.slot_zip_next ty F.entry_zip_next ?_ (F.args_zip_next_1 _)
  exact next3 D ho hz hI hO st hx hy hw fun h' a' g b1 b2 b3 c1 c2 c3 c4 c5 c6 c7 => wpAny_pure (hQ h' a' g b1 b2 b3 c1 c2 c3 c4 c5 c6 c7)

theorem pyEnd3 {Q : Option Value → Shared → Prop} (hh : A.handled = none) (D : Far3 z ti to i1 i2 i3 l1 l2 l3) (ho : Out a) (hz : Zat s.heap z ti to a (.bool f))
    (hI : IsTupOf3 s.heap ti (.ref i1) (.ref i2) (.ref i3)) (st : s.heap.IsTupleIter i1 l1 i ∧ s.heap.IsTuple l1 xs) (hx : xs[i]? = none)
    (hQ : ∀ h', (∀ c o, c ≠ z → c ≠ to → c ≠ i1 → c ≠ i2 → c ≠ i3 → s.heap.get? c = some o → h'.get? c = some o) → Q none { s with heap := h' }) :
    wpAny (model prog w) A (pyNext (.ref z)) Q E s := by
  have ty : s.TypeIs (.ref z) "zip" := ⟨_, hz, rfl⟩
  unfold pyNext
  refine wpAny_bind (wpAny_attempt (wpAny_callSpecial?_slot (name := Str.ofString "__next__") ty F.slot_zip_next ?_))
  refine wpAny_call_entry F.slot_zip_next ty F.entry_zip_next (end3 hh D ho hz hI st hx fun h' e hk he => ?_) (F.args_zip_next_1 _)
  obtain ⟨o, h1, h2⟩ := he
  exact wpAny_bind (wpAny_isInstance (T := "StopIteration") (b := true) ⟨o, h1, h2⟩ isSubtype_stop (wpAny_pure (hQ _ hk)))

/-- ahead of the target's store: a target of several names lets the tuple go -/
theorem letGo3 {tg : Expr} {T : Addr} {Q : Unit → Shared → Prop} (ho : Out a) (hz : Zat s.heap z ti to a (.bool f))
    (h : ∀ (h' : Heap) (a' : Value), Out a' → Zat h' z ti to a' (.bool f) → Heap.SameBut z s.heap h' → Q () { s with heap := h' }) :
    wpAny (model prog w) A (letOwnedTupleGo tg (.ref z) (.ref T)) Q E s := by
  have same : Q () s := h s.heap a ho hz (Heap.SameBut.refl _ _)
  have main : wpAny (model prog w) A (do
      let o ← load z
      match o.cls, o.data with
      | .type n, .fields vs =>
        if ["enumerate", "zip", "dict_itemiterator", "dict_reverseitemiterator", "odict_iterator", "itertools.zip_longest", "itertools.pairwise"].contains n && vs[0]? == some (rawInt T) then
          rule "for.unpacks-the-owned-tuple"
          updateField z 0 .none
      | _, _ => pure ()) Q E s := by
    refine wpAny_bind (wpAny_load hz ?_)
    dsimp only
    split
    · refine wpAny_bind (wpAny_rule ?_)
      show wpAny _ _ (setField (.ref z) 0 .none) Q E s
      exact wpAny_setField_rec hz (by simp) fun h' z' s' => h h' .none (.inl rfl) z' s'
    · exact wpAny_pure same
  unfold letOwnedTupleGo
  cases tg <;> first
    | exact wpAny_pure same
    | exact main

theorem iter3 {Q : Value → Shared → Prop} (hz : Zat s.heap z ti to a (.bool f)) (h : Q (.ref z) s) : wpAny (model prog w) A (pyIter (.ref z)) Q E s := by
  have ty : s.TypeIs (.ref z) "zip" := ⟨_, hz, rfl⟩
  refine wpAny_pyIter_slot ty F.slot_zip_iter (wpAny_call_entry F.slot_zip_iter ty F.entry_zip_iter ?_ (F.args_zip_iter_1 _))
  show wpAny _ _ (ret (.ref z)) _ _ s
  exact wpAny_pure ⟨_, rfl, "zip", _, ty, F.slot_zip_next.lookup, h⟩
end

/-- three tuples of one length, turn by turn: a new tuple of the three items -/
def It3 (K : PySem.W.Frag) (a b c : Addr) : It :=
  ⟨fun i H => ∃ (xs ys zs : List V) (x y z : V), SqT K H a xs ∧ SqT K H b ys ∧ SqT K H c zs ∧ xs[i]? = some x ∧ ys[i]? = some y ∧ zs[i]? = some z,
    fun i H v H' => ∃ T x y z, v = .ref T ∧ H T = none ∧ H' = upd H T (.tup [x, y, z]) ∧ (∀ xs, SqT K H a xs → xs[i]? = some x) ∧ (∀ ys, SqT K H b ys → ys[i]? = some y) ∧ ∀ zs, SqT K H c zs → zs[i]? = some z,
    fun i H => ∃ xs : List V, SqT K H a xs ∧ xs.length ≤ i⟩

theorem turn3 {P : Program} {w : World} {K : PySem.W.Frag} {tg : Expr} {a b c z ti to i1 i2 i3 : Addr} (D : Far3 z ti to i1 i2 i3 a b c) :
    Turn P w K tg (It3 K a b c) [z, ti, to, i1, i2, i3] z (fun i h => (∃ v f, Out v ∧ Zat h z ti to v (.bool f)) ∧ IsTupOf3 h ti (.ref i1) (.ref i2) (.ref i3) ∧ (∃ b1 b2 b3, IsTupOf3 h to b1 b2 b3) ∧
      h.IsTupleIter i1 a i ∧ h.IsTupleIter i2 b i ∧ h.IsTupleIter i3 c i) where
  mem := by simp
  obj := fun i h st q hq => by
    obtain ⟨⟨v, f, _, hz⟩, hI, ⟨b1, b2, b3, hO⟩, ⟨o1, e1, _, d1⟩, ⟨o2, e2, _, d2⟩, ⟨o3, e3, _, d3⟩⟩ := st
    have e' : q = z ∨ q = ti ∨ q = to ∨ q = i1 ∨ q = i2 ∨ q = i3 := by simpa using hq
    rcases e' with r | r | r | r | r | r
    · rw [r]; exact ⟨_, hz, fun v q => nomatch q⟩
    · rw [r]; exact ⟨_, hI, fun v q => nomatch q⟩
    · rw [r]; exact ⟨_, hO, fun v q => nomatch q⟩
    · rw [r]; exact ⟨o1, e1, fun v q => by rw [d1] at q; cases q⟩
    · rw [r]; exact ⟨o2, e2, fun v q => by rw [d2] at q; cases q⟩
    · rw [r]; exact ⟨o3, e3, fun v q => by rw [d3] at q; cases q⟩
  keep := fun i h h' st k => by
    obtain ⟨⟨v, f, ho, hz⟩, hI, ⟨b1, b2, b3, hO⟩, h1, h2, h3⟩ := st
    exact ⟨⟨v, f, ho, k z (by simp) _ hz⟩, k ti (by simp) _ hI, ⟨b1, b2, b3, k to (by simp) _ hO⟩, h1.at fun o q => k i1 (by simp) o q, h2.at fun o q => k i2 (by simp) o q, h3.at fun o q => k i3 (by simp) o q⟩
  item := by
    intro X hP hw hK hc i pins s σ H E I hf st hg
    subst hP hw hK
    obtain ⟨⟨v, f, ho, hz⟩, hI, ⟨b1, b2, b3, hO⟩, h1, h2, h3⟩ := st
    obtain ⟨xs, ys, zs, x, y, u, qx, qy, qu, hx, hy, hu⟩ := hg
    obtain ⟨t1, r1, p1, _⟩ := I.tuple qx
    obtain ⟨t2, r2, p2, _⟩ := I.tuple qy
    obtain ⟨t3, r3, p3, _⟩ := I.tuple qu
    obtain ⟨v1, g1, rv1⟩ := r1.get hx
    obtain ⟨v2, g2, rv2⟩ := r2.get hy
    obtain ⟨v3, g3, rv3⟩ := r3.get hu
    have zl : z < s.heap.objs.size := Heap.lt_size hz
    refine pyNext3 D ho hz hI hO ⟨⟨h1, p1⟩, ⟨h2, p2⟩, ⟨h3, p3⟩⟩ (x1 := v1) (x2 := v2) (x3 := v3) (by simpa using g1) (by simpa using g2) (by simpa using g3) fun h' v' f' c1 c2 c3 ho' hz' hO' st' hT hsz hk => ?_
    refine ⟨_, rfl, letGo3 (s := { s with heap := h' }) ho' hz' fun h'' v'' ho'' hz'' sb => ?_⟩
    have hT2 : h''.get? s.heap.objs.size = some { cls := .type "tuple", data := .seq #[v1, v2, v3] } := (sb.2 _ (Nat.ne_of_gt zl)).trans hT
    have new : ObjOk X.prog X.w (upd H s.heap.objs.size (.tup [x, y, u])) h'' s.heap.objs.size (.tup [x, y, u]) :=
      ⟨by show 3 ≤ sizeLine; decide, [v1, v2, v3], .cons rv1 (.cons rv2 (.cons rv3 .nil)), ⟨_, hT2, rfl, _, rfl⟩⟩
    have I1 : Inv X pins σ (upd H s.heap.objs.size (.tup [x, y, u])) { s with heap := h'' } :=
      I.turnedNew (t' := s.toks) (ch := [z, ti, to, i1, i2, i3]) (fun q o hb e => (sb.2 q (fun q' => hb (by simp [q']))).trans
        (hk q o (fun q' => hb (by simp [q'])) (fun q' => hb (by simp [q'])) (fun q' => hb (by simp [q'])) (fun q' => hb (by simp [q'])) (fun q' => hb (by simp [q'])) e)) hf (Nat.le_refl _) new
    refine ⟨.ref s.heap.objs.size, _, I1, rfl, ⟨_, x, y, u, rfl, I.hok.fresh (Nat.le_refl _), rfl, fun l hl => by rw [I.tuple_inj hl qx]; exact hx, fun l hl => by rw [I.tuple_inj hl qy]; exact hy, fun l hl => by rw [I.tuple_inj hl qu]; exact hu⟩,
      ⟨⟨v'', f', ho'', hz''⟩, ?_, ⟨c1, c2, c3, (sb.2 _ D.toz).trans hO'⟩, st'.1.1.at fun o q => (sb.2 _ D.z1).trans q, st'.2.1.1.at fun o q => (sb.2 _ D.z2).trans q, st'.2.2.1.at fun o q => (sb.2 _ D.z3).trans q⟩, fun q hq => ?_⟩
    · exact (sb.2 _ D.tiz).trans (hk _ _ D.tiz D.tito D.ti1 D.ti2 D.ti3 hI)
    · have lt : q < s.heap.objs.size := by
        have e' : q = z ∨ q = ti ∨ q = to ∨ q = i1 ∨ q = i2 ∨ q = i3 := by simpa using hq
        rcases e' with r | r | r | r | r | r
        · rw [r]; exact zl
        · rw [r]; exact Heap.lt_size hI
        · rw [r]; exact Heap.lt_size hO
        · rw [r]; obtain ⟨_, e1, _⟩ := h1; exact Heap.lt_size e1
        · rw [r]; obtain ⟨_, e1, _⟩ := h2; exact Heap.lt_size e1
        · rw [r]; obtain ⟨_, e1, _⟩ := h3; exact Heap.lt_size e1
      rw [upd_ne (Nat.ne_of_lt lt)]
      exact (hf q hq).1
  done := by
    intro X hP hw hK hc i pins s σ H E I hf st hg
    subst hP hw hK
    obtain ⟨⟨v, f, ho, hz⟩, hI, ⟨b1, b2, b3, hO⟩, h1, h2, h3⟩ := st
    obtain ⟨xs, qx, hlen⟩ := hg
    obtain ⟨t1, r1, p1, _⟩ := I.tuple qx
    have le := r1.length
    refine pyEnd3 (I.ok.hd hc) D ho hz hI ⟨h1, p1⟩ (by simp; omega) fun h' hk => ⟨rfl, I.turnedL (t' := s.toks) (ch := [z, ti, to, i1, i2, i3]) (fun q o hb e => ?_) hf⟩
    exact hk q o (fun q' => hb (by simp [q'])) (fun q' => hb (by simp [q'])) (fun q' => hb (by simp [q'])) (fun q' => hb (by simp [q'])) (fun q' => hb (by simp [q'])) e
  self := fun A i s Q E st h => by
    obtain ⟨⟨v, f, _, hz⟩, _⟩ := st
    exact iter3 hz h

theorem far_at (n a b c : Nat) (ha : a < n) (hb : b < n) (hc : c < n) : Far3 (n + 5) (n + 3) (n + 4) n (n + 1) (n + 2) a b c := by
  constructor <;> first | (show (_ : Nat) ≠ _; omega) | (refine ⟨?_, ?_, ?_, ?_, ?_⟩ <;> (show (_ : Nat) ≠ _; omega))

def iZip3 (K : PySem.W.Frag) (ta : TA) : TI := fun σ H R => ta σ H fun vs H1 => ∃ a b c xs ys zs, vs = [.ref a, .ref b, .ref c] ∧ SqT K H1 a xs ∧ SqT K H1 b ys ∧ SqT K H1 c zs ∧ R (It3 K a b c) H1
/-- zip(e, e2, e3), tuples of one length; any target -/
theorem pi_zip3 {X : Cx} {tg e e2 e3 : Expr} {ta : TA} {p pos : Pos} (hg : Gl X "zip") (hm : X.mg "zip" = none) (ha : PA X [e, e2, e3] ta)
    (hs : starEach [e, e2, e3] X.env = (false, eval e X.env) :: starEach [e2, e3] X.env := by rfl) (hpl : (backTo pos (starEach [e2, e3] X.env)).any (·.1) = false := by rfl) :
    PI X tg (.Call (.Name "zip" p) [e, e2, e3] [] pos) (iZip3 X.K ta) := by
  refine ⟨fun pins s σ H R I h => ?_⟩
  refine Call_ (ld_blt I hg hm PyProof.Rows.boot_zip (PyProof.Rows.callWith_type1 (thn (ha.run pos pins s σ H _ I h) fun us s1 q => ?_) hs hpl))
  obtain ⟨vs, H1, I1, r1, a, b, c, xs, ys, zs, ex, q1, q2, q3, q⟩ := q
  subst ex
  cases r1 with
  | cons ra rr =>
    cases rr with
    | cons rb rr =>
      cases rr with
      | cons rc rr =>
        cases rr
        cases ra
        cases rb
        cases rc
        obtain ⟨t1, r1, p1, _⟩ := I1.tuple q1
        obtain ⟨t2, r2, p2, _⟩ := I1.tuple q2
        obtain ⟨t3, r3, p3, _⟩ := I1.tuple q3
        obtain ⟨o1, g1, _⟩ := id p1
        obtain ⟨o2, g2, _⟩ := id p2
        obtain ⟨o3, g3, _⟩ := id p3
        refine zip_begins3 (begins_tuple a t1.toArray) (begins_tuple b t2.toArray) (begins_tuple c t3.toArray) p1 p2 p3 fun h' hz hI hO e1 e2 e3 hsz hk => iter3 hz ?_
        have I2 : Inv X pins σ H1 { s1 with heap := h' } := I1.kept (t' := s1.toks) hk
        refine ⟨s1.heap.objs.size + 5, [s1.heap.objs.size + 5, s1.heap.objs.size + 3, s1.heap.objs.size + 4, s1.heap.objs.size, s1.heap.objs.size + 1, s1.heap.objs.size + 2], _, _, H1, rfl, I2, turn3 (far_at s1.heap.objs.size a b c (Heap.lt_size g1) (Heap.lt_size g2) (Heap.lt_size g3)),
          ⟨⟨.none, false, .inl rfl, hz⟩, hI, ⟨_, _, _, hO⟩, ⟨_, e1, rfl, rfl⟩, ⟨_, e2, rfl, rfl⟩, ⟨_, e3, rfl, rfl⟩⟩, fun q hq => ?_, q⟩
        have le : s1.heap.objs.size ≤ q := by
          have e' : q = s1.heap.objs.size + 5 ∨ q = s1.heap.objs.size + 3 ∨ q = s1.heap.objs.size + 4 ∨ q = s1.heap.objs.size ∨ q = s1.heap.objs.size + 1 ∨ q = s1.heap.objs.size + 2 := by simpa using hq
          rcases e' with r | r | r | r | r | r <;> rw [r] <;> first | exact Nat.le_add_right _ _ | exact Nat.le_refl _
        exact I1.fpOk le (I1.hok.fresh le)

/-- a new triple of the i-th ones -/
def Y3 (xs ys zs : List V) : Nat → Hp → V → Hp → Prop := fun i H v H' => ∃ T x y z, v = .ref T ∧ H T = none ∧ H' = upd H T (.tup [x, y, z]) ∧ xs[i]? = some x ∧ ys[i]? = some y ∧ zs[i]? = some z
theorem walk_zip3 {K : PySem.W.Frag} {a b c : Addr} {xs ys zs : List V} (h2 : ys.length = xs.length) (h3 : zs.length = xs.length) :
    Walk (It3 K a b c) xs.length (fun H => SqT K H a xs ∧ SqT K H b ys ∧ SqT K H c zs) (Y3 xs ys zs) := by
  refine ⟨fun i _ hi q => ?_, fun _ q => ⟨xs, q.1, Nat.le_refl _⟩, fun i H v H' _ q y => ?_⟩
  · exact ⟨xs, ys, zs, xs[i], ys[i]'(by omega), zs[i]'(by omega), q.1, q.2.1, q.2.2, by simp [hi], by simp [show i < ys.length by omega], by simp [show i < zs.length by omega]⟩
  · obtain ⟨T, x, y, z, e1, e2, e3, f1, f2, f3⟩ := y
    exact ⟨T, x, y, z, e1, e2, e3, f1 xs q.1, f2 ys q.2.1, f3 zs q.2.2⟩
theorem walk_zipT {K : PySem.W.Frag} {a b : Addr} {xs ys : List V} (h2 : ys.length = xs.length) :
    Walk (RZ.ItzT K a b) xs.length (fun H => SqT K H a xs ∧ SqT K H b ys) (YPair (fun i => xs[i]?) (fun i => ys[i]?)) := by
  refine ⟨fun i _ hi q => ?_, fun _ q => ⟨xs, ys, q.1, q.2, by omega⟩, fun i H v H' _ q y => ?_⟩
  · exact ⟨xs, ys, xs[i], ys[i]'(by omega), q.1, q.2, by simp [hi], by simp [show i < ys.length by omega]⟩
  · obtain ⟨T, x, u, e1, e2, e3, f1, f2⟩ := y
    exact ⟨T, x, u, e1, e2, e3, f1 xs q.1, f2 ys q.2⟩
end NB

set_option Elab.async false
set_option linter.all false
set_option maxRecDepth 100000
set_option maxHeartbeats 1000000
namespace NB
open PySem PySem.Spec PyProof.Rows L2

/-- the law's own call, its def kept to its promise where nothing is being shown -/
theorem law_end {P : Program} {w : World} {K : PySem.W.Frag} {mg mb : Str → Option Value} {k : Nat} {fa a : Addr} {fd : FuncData} {x : Str} {sp : Sp} {s : Shared} {vs : List Value} {ns : List Int}
    (hK : K.In s.heap) (hN : s.heap.Ns mainGlobals mg) (hB : s.heap.Ns builtinsNs mb) (hbb : ∀ x : Str, x ≠ "__name__" → mb x = bootBuiltins x) (lim : s.heap.NoLimit) (hg : s.gens = #[])
    (ha : s.heap.get? a = some { cls := .type "list", data := .seq vs.toArray }) (hi : IntsAre vs ns) (hl : ns.length ≤ sizeLine) (hr : Room k callerA)
    (F : ∀ base : Heap, K.In base → base.Ns mainGlobals mg → FnG P w K mg base k fa fd [x] sp) (hb : ∀ (s : Shared) (u : Value), BindsTo s fd ⟨[u], []⟩ [(x, u)])
    (hsp : ∀ H : Hp, SqL K H a (ns.map V.int) → sp [.ref a] H (fun v _ => v = .bl true) E0) :
    codeAny (model P w) callerA (.call (.ref fa) ⟨[.ref a], []⟩) (fun r s' => r = .ok (.ret (.bool true)) ∧ OldK s.heap s'.heap ∧ s'.os = s.os ∧ AllBare s'.gens) s := by
  have rv := vals_ints hi
  have lv := hi.length
  -- H: the script alone is tracked, or nothing
  suffices go : ∀ H : Hp, (∀ b, H b ≠ none → b = a ∧ K.lookup a = none ∧ ∃ o xs, H b = some (.frz o (.lst xs))) → SqL K H a (ns.map V.int) → HOk P w H s.heap →
      codeAny (model P w) callerA (.call (.ref fa) ⟨[.ref a], []⟩) (fun r s' => r = .ok (.ret (.bool true)) ∧ OldK s.heap s'.heap ∧ s'.os = s.os ∧ AllBare s'.gens) s by
    cases hk : K.lookup a with
    | some o =>
      have e := hK a o hk
      rw [ha] at e
      cases e
      refine go (fun _ => none) (fun b q => absurd rfl q) (.inr ⟨_, vs.toArray, _, hk, rfl, rfl, rfl, ?_, by simpa using rv⟩) (fun b u q => by cases (show (none : Option HO) = some u from q))
      rw [List.size_toArray, lv]
      exact hl
    | none =>
      refine go (fun b => if b = a then some (.frz { cls := .type "list", data := .seq vs.toArray } (.lst (ns.map V.int))) else none) (fun b q => ?_) (.inl (.inr ⟨_, if_pos rfl⟩)) (fun b u q => ?_)
      · by_cases h : b = a
        · exact ⟨h, hk, _, _, if_pos h⟩
        · exact absurd (if_neg h) q
      · by_cases h : b = a
        · have q' := (if_pos h).symm.trans q
          cases q'
          subst h
          exact ⟨ha, by rw [List.length_map]; exact hl, vs, _, rv, ha⟩
        · have q' := (if_neg h).symm.trans q
          cases q'
  intro H hO hS ok
  have dictFree : ∀ {b : Addr} {o : Obj} {es : Array DictEntry} {ep : Nat}, s.heap.get? b = some o → o.data = .dict es ep → H b = none := by
    intro b o es ep e d
    cases q : H b with
    | none => rfl
    | some u =>
      obtain ⟨e', _⟩ := hO b (by rw [q]; simp)
      subst e'
      rw [ha] at e
      cases e
      cases (show Data.seq vs.toArray _ = Data.dict es ep from d)
  have ns' : ∀ {b : Addr} {m : Str → Option Value}, s.heap.Ns b m → (hidT s.heap H).Ns b m := by
    rintro b m ⟨o, es, ep, e, d, r⟩
    exact ⟨o, es, ep, hidT_get e (dictFree e d), d, r⟩
  have kB : K.In (hidT s.heap H) := by
    intro b o e
    refine hidT_get (hK b o e) ?_
    cases q : H b with
    | none => rfl
    | some u =>
      obtain ⟨e', n, _⟩ := hO b (by rw [q]; simp)
      subst e'
      rw [n] at e
      cases e
  have md : Mod K mg (hidT s.heap H) := by
    obtain ⟨mc, h1, h2⟩ := lim
    exact ⟨kB, ns' hN, ⟨mb, ns' hB, hbb⟩, ⟨mc, ns' h1, h2⟩⟩
  have e0 : Env0 P w K mg (hidT s.heap H) callerA [] s H :=
    ⟨rfl, md, fun b o e => of_hidT e, Nat.le_of_eq (hidT_size _ _), trivial, fun b q => absurd (show b ∈ ([] : List Addr) from q) (by simp), ok, .of_eq hg⟩
  refine codeAny_mono ((F _ kB (ns' hN)).go callerA [] s H ⟨[.ref a], []⟩ [.ref a] [.ref a] _ _ rfl hr e0 (hb s (.ref a)) (.cons rfl .nil) (hsp H hS)) ?_
  intro r s' q
  cases r with
  | error e => exact False.elim q
  | ok fl =>
    cases fl with
    | next => exact False.elim q
    | brk => exact False.elim q
    | cont => exact False.elim q
    | ret u =>
      obtain ⟨v, H', os, bare, un, ok', r', q'⟩ := q
      have q2 : v = .bl true := q'
      subst q2
      obtain rfl : u = Value.bool true := r'
      refine ⟨rfl, OldK.of_keep fun b o e => ?_, os, bare⟩
      cases q : H b with
      | none => exact un.keep b o e q (fun z => absurd (show b ∈ ([] : List Addr) from z) (by simp)) (by simp)
      | some u =>
        obtain ⟨_, _, ob, xs, z⟩ := hO b (by rw [q]; simp)
        obtain ⟨e1, _⟩ := ok b _ z
        obtain ⟨e2, _⟩ := ok' b _ (un.frzs b ob _ z)
        rw [e] at e1
        cases e1
        exact e2

/-- what k_head leaves, from the promise of the law's def -/
theorem walkG {l : PySem.W.OpenLaw} {n k : Nat} {q : Program} {loose : List Str} {XP : (Str → Option Value) → Heap → Prop} {YP : World → Heap → Prop} {d : DefRec} {K : Params → PySem.W.Frag} {sp : World → Sp} {x : Str}
    (hn : l.most = some n) (hn2 : n ≤ sizeLine) (hdf : d.params.defaults = []) (hr : Room k callerA) (hY : ∀ (w : World) (h : Heap), YP w h → (K w.params).In h)
    (F : ∀ (w : World) (mg : Str → Option Value) (fa : Addr) (h : Heap), (K w.params).In h → h.Ns mainGlobals mg → mg d.name = some (.ref fa) →
      ∃ fd : FuncData, (∀ (s : Shared) (u : Value), BindsTo s fd ⟨[u], []⟩ [(x, u)]) ∧
        ∀ base : Heap, (K w.params).In base → base.Ns mainGlobals mg → FnG l.prog w (K w.params) mg base k fa fd [x] (sp w))
    (hsp : ∀ (w : World) (H : Hp) (a : Addr) (ns : List Int), ns.length ≤ n → SqL (K w.params) H a (ns.map V.int) → sp w [.ref a] H (fun v _ => v = .bl true) E0) :
    PySem.W.WalkO q loose XP YP l.row.toRowW d [] (fun f vs => PySem.call f vs) := by
  refine Att.attach_call hn hdf ?_
  intro w s₀ s₁ mg mb fa o pm cd doc a vs ns G Y ho hd hcd hmg hobj hints hlen hg
  have kX := hY w _ Y
  obtain ⟨fd, hb, hF⟩ := F w mg fa _ kX G.T.g hmg
  exact law_end kX G.T.g G.T.b G.T.builtins G.T.nolimit hg hobj hints (Nat.le_trans hlen hn2) hr hF hb fun H hS => hsp w H a ns hlen hS
end NB

set_option Elab.async false
set_option linter.all false
set_option maxRecDepth 100000
set_option maxHeartbeats 1000000
namespace NB
open PySem PySem.Spec PyProof.Rows L2
section
variable {prog : Program} {w : World} {A : Around} {E : Value → Shared → Prop} {s : Shared}
theorem sortedTuple {t : Addr} {vs : List Value} {ns : List Int} {Q : Value → Shared → Prop} (hl : s.heap.IsTuple t vs.toArray) (hI : IntsAre vs ns) (h64 : vs.length < 64)
    (h : ∀ (h1 h' : Heap) (p : Addr) (out : Array Value) (ep : Nat) (ns' : List Int), IntsAre out.toList ns' → ns'.Perm ns → ns'.Pairwise (· ≤ ·) → (∀ b o, s.heap.get? b = some o → h1.get? b = some o) → (∀ b o, h1.get? b = some o → h'.get? b = some o) → h1.objs.size ≤ p →
      h'.get? p = some (seqObj "list" out ep) → Q (.ref p) { s with heap := h' }) :
    wpAny (model prog w) A (call (.builtin "sorted") [.ref t]) Q E s := by
  obtain ⟨o, ho, hc, n, hd⟩ := hl
  refine Calls.call_function_entry kind_sorted plain_sorted entry_sorted (args_sorted1 _) ?_
  unfold Builtin.«sorted»
  refine wpAny_bind (m := checkCount "sorted" 1 1 _) (wpAny_pure ?_)
  refine wpAny_bind (wpAny_collect_seq t (.inr rfl) ho hc hd (fun h1 hk => ?_) (by rw [List.size_toArray, sizeLine_eq]; omega))
  refine wpAny_bind (wpAny_newList ?_)
  have e0 : (vs.toArray.toList) = vs := rfl
  have hoL : (h1.push (seqObj "list" vs.toArray 0)).get? h1.objs.size = some (seqObj "list" vs.toArray 0) := Heap.get?_push_size _ rfl
  show wpAny _ _ _ _ _ { s with heap := h1.push (seqObj "list" vs.toArray 0) }
  refine wpAny_bind (wpAny_holding (wpAny_call_entry slot_list_sort ⟨_, hoL, rfl⟩ entry_list_sort (list_sort_tree hoL hI h64 fun out ns' q1 q2 q3 => ⟨_, rfl, ?_⟩) (args_list_sort _)))
  refine wpAny_pure ⟨_, rfl, ?_⟩
  obtain ⟨ep, hat⟩ := sortedHeap_at (vs := vs) (out := out) hoL
  refine h h1 _ h1.objs.size out ep ns' q1 q2 q3 hk (fun b o q => ?_) (Nat.le_refl _) hat
  have lt := Heap.lt_size q
  rw [sortedHeap_old (Nat.ne_of_lt lt) (by rw [size_push']; exact Nat.lt_succ_of_lt lt)]
  exact Heap.get?_push_of_some _ q
end
section
variable {X : Cx}
/-- sorted(t), t a tuple of few ints -/
def rSortT (K : PySem.W.Frag) : List V → Hp → VK → Prop := fun vs H Q => ∃ (a : Addr) (ns : List Int), vs = [V.ref a] ∧ SqT K H a (ns.map V.int) ∧ ns.length < 64 ∧
  ∀ (ns' : List Int) (p : Addr), ns'.Perm ns → ns'.Pairwise (· ≤ ·) → H p = none → Q (.ref p) (upd H p (.lst (ns'.map V.int)))
theorem cr_sortT : CallR X (.builtin "sorted") (rSortT X.K) := by
  intro pins s σ H vs us Q I r h
  obtain ⟨a, ns, rfl, hs, h64, q⟩ := h
  obtain ⟨its, rv, hl, _⟩ := I.tuple hs
  rw [Vals.ref1 r]
  have hi := rv.ints
  refine sortedTuple hl hi (by rw [hi.length]; exact h64) fun h1 h' p out ep ns' q1 q2 q3 k1 k2 hp hat => ?_
  have I1 : Inv X pins σ H { s with heap := h1 } := I.kept (t' := s.toks) k1
  have hlen : (ns'.map V.int).length ≤ sizeLine := by rw [List.length_map, q2.length_eq]; exact small64 h64
  exact ⟨.ref p, upd H p (.lst (ns'.map V.int)), I1.laid (t' := s.toks) k2 hp ⟨hlen, out.toList, ep, vals_of_ints q1, hat⟩, rfl, q ns' p q2 q3 (I1.hok.fresh hp)⟩

theorem perm_sum {l l' : List Int} (h : l.Perm l') : l.sum = l'.sum := by
  induction h with
  | nil => rfl
  | cons x _ ih => simp only [List.sum_cons, ih]
  | swap x y l => simp only [List.sum_cons]; omega
  | trans _ _ i1 i2 => exact i1.trans i2
/-- the middle one of three -/
def mid3 (a b c : Int) : Int := if a ≤ b then (if b ≤ c then b else if a ≤ c then c else a) else (if a ≤ c then a else if b ≤ c then c else b)
theorem mid_of_sorted {a b c x y z : Int} (p : [x, y, z].Perm [a, b, c]) (s : [x, y, z].Pairwise (· ≤ ·)) : y = mid3 a b c := by
  have h1 : x ≤ y ∧ y ≤ z := by
    rw [List.pairwise_cons, List.pairwise_cons] at s
    exact ⟨s.1 y (by simp), s.2.1 z (by simp)⟩
  have ha : a ∈ [x, y, z] := p.symm.subset (by simp)
  have hb : b ∈ [x, y, z] := p.symm.subset (by simp)
  have hc : c ∈ [x, y, z] := p.symm.subset (by simp)
  have hs : x + y + z = a + b + c := by
    have e := perm_sum p
    simp only [List.sum_cons, List.sum_nil] at e
    omega
  simp only [List.mem_cons, List.not_mem_nil, or_false] at ha hb hc
  unfold mid3
  rcases ha with e | e | e <;> rcases hb with f | f | f <;> rcases hc with g | g | g <;> split <;> split <;> (try split) <;> omega
theorem max3 (hc : X.calm = true) : CallR X (.builtin "max") (fun xs H Q => ∃ i j k : Int, xs = [.int i, .int j, .int k] ∧ Q (.int (max (max i j) k)) H) := by
  intro pins s σ H xs us Q I r h
  obtain ⟨i, j, k, rfl, q⟩ := h
  refine call_max3Nu hc pins s σ H _ us Q I r ⟨_, _, _, _, rfl, ?_, q⟩
  have two : ∀ a b : Int, nuMax2 (.int a) (.int b) = some (.int (max a b)) := fun a b => by
    show some (if decide (a < b) = true then V.int b else V.int a) = _
    by_cases h : a < b
    · rw [if_pos (decide_eq_true h), Int.max_eq_right (Int.le_of_lt h)]
    · rw [if_neg (by simpa using h), Int.max_eq_left (by omega)]
  show (nuMax2 (.int i) (.int j)).bind (fun m => nuMax2 m (.int k)) = _
  rw [two]
  exact two _ _
theorem min3 (hc : X.calm = true) : CallR X (.builtin "min") (fun xs H Q => ∃ i j k : Int, xs = [.int i, .int j, .int k] ∧ Q (.int (min (min i j) k)) H) := by
  intro pins s σ H xs us Q I r h
  obtain ⟨i, j, k, rfl, q⟩ := h
  refine call_min3Nu hc pins s σ H _ us Q I r ⟨_, _, _, _, rfl, ?_, q⟩
  have two : ∀ a b : Int, nuMin2 (.int a) (.int b) = some (.int (min a b)) := fun a b => by
    show some (if decide (b < a) = true then V.int b else V.int a) = _
    by_cases h : b < a
    · rw [if_pos (decide_eq_true h), Int.min_eq_right (Int.le_of_lt h)]
    · rw [if_neg (by simpa using h), Int.min_eq_left (by omega)]
  show (nuMin2 (.int i) (.int j)).bind (fun m => nuMin2 m (.int k)) = _
  rw [two]
  exact two _ _
/-- a ** b: the result within 2 ^ 27 bits -/
def CPowW (i j : Int) : Prop := 0 ≤ j ∧ (Builtin.Int.intBits i : Int) * j ≤ 2 ^ 27
theorem op_powW : OpR X (binaryOp .Pow) (rI CPowW fun i j => .int (i ^ j.toNat)) := opI fun _ _ _ _ _ _ _ hc q => pow_int hc.1 hc.2 q
end
end NB

set_option Elab.async false
set_option linter.all false
set_option maxRecDepth 100000
namespace NB
open PySem PySem.Spec PyProof.Rows L2
/-- data that repr writes: at most w by weight, nested at most n deep -/
structure Small (d : PyData) (w n : Nat) : Prop where
  sh : d.showable = true
  nd : d.hasDict = false
  dp : d.depth ≤ n
  lv : d.leavesShort 100 = true
  wt : d.weight ≤ w
structure SmallAll (ds : List PyData) (w n : Nat) : Prop where
  sh : PyData.showableAll ds = true
  nd : PyData.hasDictAll ds = false
  dp : PyData.depthAll ds ≤ n
  lv : PyData.leavesShortAll 100 ds = true
  wt : PyData.weightAll ds ≤ w
theorem Small.int {i : Int} (h : i.natAbs < 10 ^ 90) : Small (.int i) 310 0 := by
  have lg : i.natAbs.log2 < 300 := by
    have h2 : i.natAbs < 2 ^ 300 := Nat.lt_of_lt_of_le h (by decide)
    by_cases e : i.natAbs = 0
    · rw [e]; decide
    · exact (Nat.log2_lt e).mpr h2
  refine ⟨?_, rfl, Nat.le_refl _, ?_, ?_⟩
  · simp only [PyData.showable, decide_eq_true_eq]
    omega
  · simp only [PyData.leavesShort, decide_eq_true_eq]
    have e := int_text_length_le10 (k := 90) (by decide) h
    show (Str.ofString (toString i)).length ≤ 100
    rw [PySem.ofString_length]
    omega
  · show (if i == 0 then 0 else i.natAbs.log2 + 1) ≤ 310
    split <;> omega
theorem Small.bool (b : Bool) : Small (.bool b) 0 0 := ⟨rfl, rfl, Nat.le_refl _, rfl, Nat.le_refl _⟩
theorem Small.none : Small .none 0 0 := ⟨rfl, rfl, Nat.le_refl _, rfl, Nat.le_refl _⟩
theorem SmallAll.nil : SmallAll [] 0 0 := ⟨rfl, rfl, Nat.le_refl _, rfl, Nat.le_refl _⟩
theorem SmallAll.cons {d : PyData} {ds : List PyData} {w v n m : Nat} (h : Small d w n) (h' : SmallAll ds v m) : SmallAll (d :: ds) (w + 1 + v) (max n m) := by
  obtain ⟨a1, a2, a3, a4, a5⟩ := h
  obtain ⟨b1, b2, b3, b4, b5⟩ := h'
  refine ⟨?_, ?_, ?_, ?_, ?_⟩
  · simp only [PyData.showableAll, a1, b1, Bool.and_self]
  · simp only [PyData.hasDictAll, a2, b2, Bool.or_self]
  · simp only [PyData.depthAll]
    omega
  · simp only [PyData.leavesShortAll, a4, b4, Bool.and_self]
  · simp only [PyData.weightAll]
    omega
theorem Small.list {ds : List PyData} {w n : Nat} (h : SmallAll ds w n) : Small (.list ds) w (n + 1) := by
  obtain ⟨a1, a2, a3, a4, a5⟩ := h
  refine ⟨?_, ?_, ?_, ?_, ?_⟩
  · simpa only [PyData.showable] using a1
  · simpa only [PyData.hasDict] using a2
  · simp only [PyData.depth]
    omega
  · simpa only [PyData.leavesShort] using a4
  · simpa only [PyData.weight] using a5
theorem Small.tuple {ds : List PyData} {w n : Nat} (h : SmallAll ds w n) : Small (.tuple ds) w (n + 1) := by
  obtain ⟨a1, a2, a3, a4, a5⟩ := h
  refine ⟨?_, ?_, ?_, ?_, ?_⟩
  · simpa only [PyData.showable] using a1
  · simpa only [PyData.hasDict] using a2
  · simp only [PyData.depth]
    omega
  · simpa only [PyData.leavesShort] using a4
  · simpa only [PyData.weight] using a5
theorem SmallAll.ints : ∀ {xs : List Int}, (∀ x ∈ xs, x.natAbs < 10 ^ 90) → SmallAll (xs.map PyData.int) (311 * xs.length) 0
  | [], _ => .nil
  | x :: xs, h => by
    have c := SmallAll.cons (Small.int (h x List.mem_cons_self)) (SmallAll.ints fun y hy => h y (List.mem_cons_of_mem _ hy))
    refine ⟨c.sh, c.nd, c.dp, c.lv, Nat.le_trans c.wt ?_⟩
    rw [List.length_cons]
    omega
theorem Small.ok {d : PyData} {w n : Nat} (h : Small d w n) (hw : w ≤ 150000) (hn : n ≤ 60) : Showable d := by
  refine ⟨h.sh, h.nd, Nat.le_trans h.dp hn, ?_⟩
  have e := PyData.shown_le 100 (by decide) d h.lv
  have := h.wt
  rw [sizeLine_eq]
  have : (100 + 2) * d.weight ≤ (100 + 2) * 150000 := Nat.mul_le_mul_left _ (Nat.le_trans h.wt hw)
  omega
/-- what Dp reads of a tuple of ints -/
theorem dp_ints {K : PySem.W.Frag} {H : Hp} : ∀ xs : List Int, DpAll K H (xs.map V.int) (xs.map PyData.int)
  | [] => .nil
  | x :: xs => .cons (.int x) (dp_ints xs)
theorem dp_tup {K : PySem.W.Frag} {H : Hp} {p : Addr} {xs : List Int} (h : SqT K H p (xs.map V.int)) : Dp K H (.ref p) (.tuple (xs.map PyData.int)) := .tup h (dp_ints xs)
end NB

set_option Elab.async false
set_option linter.all false
set_option maxRecDepth 100000
set_option maxHeartbeats 1000000
/-! Data of any kind: None, truths, whole numbers, texts, lists, tuples, dicts. -/
namespace NB
open PySem PySem.Spec PyProof.Rows L2

def kD : Key → PyData
  | .inl i => .int i
  | .inr x => .str x
mutual
/-- the value v is the data d; its lists stand apart from n -/
inductive Da (n : Addr) (H : Hp) : V → PyData → Prop
  | non : Da n H .non .none
  | bl (b : Bool) : Da n H (.bl b) (.bool b)
  | int (i : Int) : Da n H (.int i) (.int i)
  | str (x : Str) : Da n H (.str x) (.str x)
  | lst {a : Addr} {xs : List V} {ds : List PyData} : H a = some (.lst xs) → a ≠ sysModules → a ≠ n → DaAll n H xs ds → Da n H (.ref a) (.list ds)
  | tup {a : Addr} {xs : List V} {ds : List PyData} : H a = some (.tup xs) → DaAll n H xs ds → Da n H (.ref a) (.tuple ds)
  | dct {a : Addr} {kvs : List (Key × V)} {ds : List (PyData × PyData)} : H a = some (.dK kvs) → DaKv n H kvs ds → Da n H (.ref a) (.dict ds)
inductive DaAll (n : Addr) (H : Hp) : List V → List PyData → Prop
  | nil : DaAll n H [] []
  | cons {v : V} {vs : List V} {d : PyData} {ds : List PyData} : Da n H v d → DaAll n H vs ds → DaAll n H (v :: vs) (d :: ds)
inductive DaKv (n : Addr) (H : Hp) : List (Key × V) → List (PyData × PyData) → Prop
  | nil : DaKv n H [] []
  | cons {k : Key} {v : V} {kvs : List (Key × V)} {d : PyData} {ds : List (PyData × PyData)} : Da n H v d → DaKv n H kvs ds → DaKv n H ((k, v) :: kvs) ((kD k, d) :: ds)
end
mutual
theorem Da.keep {n : Addr} {H H' : Hp} (hn : ∃ zs, H n = some (.lst zs)) (k : ∀ b o, b ≠ n → H b = some o → H' b = some o) : ∀ (d : PyData) (v : V), Da n H v d → Da n H' v d
  | .none, _, h => by cases h; exact .non
  | .bool b, _, h => by cases h; exact .bl b
  | .int i, _, h => by cases h; exact .int i
  | .str x, _, h => by cases h; exact .str x
  | .list ds, _, h => by
    cases h with
    | lst e n1 n2 ha => exact .lst (k _ _ n2 e) n1 n2 (DaAll.keep hn k ds _ ha)
  | .tuple ds, _, h => by
    cases h with
    | tup e ha =>
      refine .tup (k _ _ (fun z => ?_) e) (DaAll.keep hn k ds _ ha)
      obtain ⟨zs, q⟩ := hn
      rw [z, q] at e
      cases e
  | .dict ds, _, h => by
    cases h with
    | dct e ha =>
      refine .dct (k _ _ (fun z => ?_) e) (DaKv.keep hn k ds _ ha)
      obtain ⟨zs, q⟩ := hn
      rw [z, q] at e
      cases e
theorem DaAll.keep {n : Addr} {H H' : Hp} (hn : ∃ zs, H n = some (.lst zs)) (k : ∀ b o, b ≠ n → H b = some o → H' b = some o) : ∀ (ds : List PyData) (vs : List V), DaAll n H vs ds → DaAll n H' vs ds
  | [], _, h => by cases h; exact .nil
  | d :: ds, _, h => by
    cases h with
    | cons h1 h2 => exact .cons (Da.keep hn k d _ h1) (DaAll.keep hn k ds _ h2)
theorem DaKv.keep {n : Addr} {H H' : Hp} (hn : ∃ zs, H n = some (.lst zs)) (k : ∀ b o, b ≠ n → H b = some o → H' b = some o) : ∀ (ds : List (PyData × PyData)) (kvs : List (Key × V)), DaKv n H kvs ds → DaKv n H' kvs ds
  | [], _, h => by cases h; exact .nil
  | (_, d) :: ds, _, h => by
    cases h with
    | cons h1 h2 => exact .cons (Da.keep hn k d _ h1) (DaKv.keep hn k ds _ h2)
end
mutual
theorem Da.sameD {n : Addr} {H H' : Hp} (k : Same H H') : ∀ (d : PyData) (v : V), Da n H v d → Da n H' v d
  | .none, _, h => by cases h; exact .non
  | .bool b, _, h => by cases h; exact .bl b
  | .int i, _, h => by cases h; exact .int i
  | .str x, _, h => by cases h; exact .str x
  | .list ds, _, h => by
    cases h with
    | lst e n1 n2 ha => exact .lst (k _ _ e) n1 n2 (DaAll.sameD k ds _ ha)
  | .tuple ds, _, h => by
    cases h with
    | tup e ha => exact .tup (k _ _ e) (DaAll.sameD k ds _ ha)
  | .dict ds, _, h => by
    cases h with
    | dct e ha => exact .dct (k _ _ e) (DaKv.sameD k ds _ ha)
theorem DaAll.sameD {n : Addr} {H H' : Hp} (k : Same H H') : ∀ (ds : List PyData) (vs : List V), DaAll n H vs ds → DaAll n H' vs ds
  | [], _, h => by cases h; exact .nil
  | d :: ds, _, h => by
    cases h with
    | cons h1 h2 => exact .cons (Da.sameD k d _ h1) (DaAll.sameD k ds _ h2)
theorem DaKv.sameD {n : Addr} {H H' : Hp} (k : Same H H') : ∀ (ds : List (PyData × PyData)) (kvs : List (Key × V)), DaKv n H kvs ds → DaKv n H' kvs ds
  | [], _, h => by cases h; exact .nil
  | (_, d) :: ds, _, h => by
    cases h with
    | cons h1 h2 => exact .cons (Da.sameD k d _ h1) (DaKv.sameD k ds _ h2)
end
theorem Da.same {n : Addr} {H H' : Hp} {v : V} {d : PyData} (h : Da n H v d) (k : Same H H') : Da n H' v d := Da.sameD k d v h
theorem DaAll.same {n : Addr} {H H' : Hp} {vs : List V} {ds : List PyData} (h : DaAll n H vs ds) (k : Same H H') : DaAll n H' vs ds := DaAll.sameD k ds vs h
theorem DaAll.len {n : Addr} {H : Hp} {vs : List V} {ds : List PyData} (h : DaAll n H vs ds) : vs.length = ds.length := by
  induction ds generalizing vs with
  | nil => cases h; rfl
  | cons d ds ih =>
    cases h with
    | cons h1 h2 => rw [List.length_cons, List.length_cons, ih h2]
theorem DaAll.get {n : Addr} {H : Hp} {vs : List V} {ds : List PyData} (h : DaAll n H vs ds) (i : Nat) (v : V) (e : vs[i]? = some v) : ∃ d, ds[i]? = some d ∧ Da n H v d := by
  induction ds generalizing vs i with
  | nil => cases h; simp at e
  | cons d ds ih =>
    cases h with
    | cons h1 h2 =>
      cases i with
      | zero => exact ⟨d, rfl, by cases e; exact h1⟩
      | succ i => exact ih h2 i e
theorem DaAll.mem {n : Addr} {H : Hp} {vs : List V} {ds : List PyData} (h : DaAll n H vs ds) {v : V} (hv : v ∈ vs) : ∃ d ∈ ds, Da n H v d := by
  obtain ⟨i, hi, e⟩ := List.getElem_of_mem hv
  obtain ⟨d, e1, e2⟩ := h.get i v (by rw [List.getElem?_eq_getElem hi, e])
  exact ⟨d, List.mem_of_getElem? e1, e2⟩
theorem DaAll.app {n : Addr} {H : Hp} {vs us : List V} {ds es : List PyData} (h : DaAll n H vs ds) (h' : DaAll n H us es) : DaAll n H (vs ++ us) (ds ++ es) := by
  induction ds generalizing vs with
  | nil => cases h; exact h'
  | cons d ds ih =>
    cases h with
    | cons h1 h2 => exact .cons h1 (ih h2)
theorem DaAll.take {n : Addr} {H : Hp} {vs : List V} {ds : List PyData} (h : DaAll n H vs ds) (i : Nat) : DaAll n H (vs.take i) (ds.take i) := by
  induction ds generalizing vs i with
  | nil => cases h; simp only [List.take_nil]; exact .nil
  | cons d ds ih =>
    cases h with
    | cons h1 h2 =>
      cases i with
      | zero => simp only [List.take_zero]; exact .nil
      | succ i => simp only [List.take_succ_cons]; exact .cons h1 (ih h2 i)
theorem DaAll.drop {n : Addr} {H : Hp} {vs : List V} {ds : List PyData} (h : DaAll n H vs ds) (i : Nat) : DaAll n H (vs.drop i) (ds.drop i) := by
  induction ds generalizing vs i with
  | nil => cases h; simp only [List.drop_nil]; exact .nil
  | cons d ds ih =>
    cases h with
    | cons h1 h2 =>
      cases i with
      | zero => simp only [List.drop_zero]; exact .cons h1 h2
      | succ i => simp only [List.drop_succ_cons]; exact ih h2 i
theorem DaAll.ints {n : Addr} {H : Hp} : ∀ xs : List Int, DaAll n H (xs.map V.int) (xs.map PyData.int)
  | [] => .nil
  | x :: xs => .cons (.int x) (DaAll.ints xs)
/-- of which kind it is -/
def tyD : PyData → String
  | .none => "NoneType"
  | .bool _ => "bool"
  | .int _ => "int"
  | .str _ => "str"
  | .list _ => "list"
  | .tuple _ => "tuple"
  | .dict _ => "dict"
theorem Da.ty {K : PySem.W.Frag} {n : Addr} {H : Hp} {v : V} {d : PyData} (h : Da n H v d) : TyX K H v (.type (tyD d)) := by
  cases h with
  | non => exact .base .non
  | bl b => exact .base (.bl b)
  | int i => exact .base (.int i)
  | str x => exact .base (.str x)
  | lst e _ _ _ => exact .base (.lst e)
  | tup e _ => exact .base (.tup e)
  | dct e _ => exact .base (.dK e)
def isTupD : PyData → Bool
  | .tuple _ => true
  | _ => false
def isIntD : PyData → Bool
  | .int _ => true
  | .bool _ => true
  | _ => false
def isBoolD : PyData → Bool
  | .bool _ => true
  | _ => false
def isStrD : PyData → Bool
  | .str _ => true
  | _ => false
theorem kit_tup (d : PyData) : kitB (tyD d) "tuple" = some (isTupD d) := by cases d <;> (simp only [tyD, isTupD, isIntD, isBoolD, isStrD]; decide +kernel)
theorem kit_int (d : PyData) : kitB (tyD d) "int" = some (isIntD d) := by cases d <;> (simp only [tyD, isTupD, isIntD, isBoolD, isStrD]; decide +kernel)
theorem kit_bool (d : PyData) : kitB (tyD d) "bool" = some (isBoolD d) := by cases d <;> (simp only [tyD, isTupD, isIntD, isBoolD, isStrD]; decide +kernel)
theorem kit_str (d : PyData) : kitB (tyD d) "str" = some (isStrD d) := by cases d <;> (simp only [tyD, isTupD, isIntD, isBoolD, isStrD]; decide +kernel)
section
variable {X : Cx} {pins : List (Addr × Obj)} {σ : L2.St} {H : Hp} {s : Shared}
theorem key_reads {h : Heap} {k : Key} {u : Value} (e : keyIs k u = true) : Reads h u (kD k) [] := by
  rcases keyIs_shape e with ⟨i, t, rfl, rfl⟩ | ⟨x, t, rfl, rfl⟩
  · exact .int i t
  · exact .str x t
mutual
theorem Da.reads {n : Addr} (I : Inv X pins σ H s) : ∀ (d : PyData) (v : V) (u : Value), Da n H v d → RelV v u → ∃ as, Reads s.heap u d as ∧ sysModules ∉ as
  | .none, _, _, h, r => by
    cases h
    cases r
    exact ⟨_, Reads.none, List.not_mem_nil⟩
  | .bool b, _, _, h, r => by
    cases h
    cases r
    exact ⟨_, Reads.bool b, List.not_mem_nil⟩
  | .int i, _, _, h, r => by
    cases h
    obtain ⟨t, rfl⟩ := r
    exact ⟨_, Reads.int i t, List.not_mem_nil⟩
  | .str x, _, _, h, r => by
    cases h
    obtain ⟨t, rfl⟩ := r
    exact ⟨_, Reads.str x t, List.not_mem_nil⟩
  | .list ds, _, _, h, r => by
    cases h with
    | lst e n1 n2 ha =>
      cases r
      obtain ⟨its, rv, ⟨o, m, ho, hc, _, hd⟩, _⟩ := I.list (.inl (.inl e))
      obtain ⟨as, hr, hm⟩ := Da.readsAll I ds _ its ha rv
      refine ⟨_, Reads.list ho hc hd hr, fun z => ?_⟩
      rcases List.mem_cons.mp z with q | q
      · exact n1 q.symm
      · exact hm q
  | .tuple ds, _, _, h, r => by
    cases h with
    | tup e ha =>
      cases r
      obtain ⟨its, rv, ⟨o, ho, hc, m, hd⟩, _⟩ := I.tuple (.inl (.inl e))
      obtain ⟨as, hr, hm⟩ := Da.readsAll I ds _ its ha rv
      exact ⟨_, Reads.tuple ho hc hd hr, hm⟩
  | .dict ds, _, _, h, r => by
    cases h with
    | dct e ha =>
      rename_i a kvs
      cases r
      obtain ⟨_, hsys, vs, rel, o, es, ep, h1, h2, h3, _, pr, _⟩ := (show ObjOk X.prog X.w H s.heap a (.dK kvs) from I.hok a _ e)
      obtain ⟨as, bs, q1, m1, q2, m2⟩ := Da.readsKv I ds kvs vs es.toList ha rel pr
      refine ⟨_, Reads.dict h1 h2.1 h3 q1 q2, fun z => ?_⟩
      rw [List.cons_append] at z
      rcases List.mem_cons.mp z with q | q
      · exact beq_eq_false_iff_ne.mp hsys q.symm
      · rcases List.mem_append.mp q with q | q
        · exact m1 q
        · exact m2 q
theorem Da.readsAll {n : Addr} (I : Inv X pins σ H s) : ∀ (ds : List PyData) (vs : List V) (us : List Value), DaAll n H vs ds → Vals vs us → ∃ as, ReadsAll s.heap us ds as ∧ sysModules ∉ as
  | [], _, _, h, r => by
    cases h
    cases r
    exact ⟨_, ReadsAll.nil, List.not_mem_nil⟩
  | d :: ds, _, _, h, r => by
    cases h with
    | cons h1 h2 =>
      cases r with
      | cons r1 r2 =>
        obtain ⟨as, q1, m1⟩ := Da.reads I d _ _ h1 r1
        obtain ⟨bs, q2, m2⟩ := Da.readsAll I ds _ _ h2 r2
        refine ⟨_, ReadsAll.cons q1 q2, fun z => ?_⟩
        rcases List.mem_append.mp z with q | q
        · exact m1 q
        · exact m2 q
theorem Da.readsKv {n : Addr} (I : Inv X pins σ H s) : ∀ (ds : List (PyData × PyData)) (kvs : List (Key × V)) (vs : List (Key × Value)) (es : List DictEntry), DaKv n H kvs ds → KV kvs vs → Pairs (mixKind X.prog X.w) es vs →
    ∃ as bs, ReadsAll s.heap (es.map (·.key)) (ds.map (·.1)) as ∧ sysModules ∉ as ∧ ReadsAll s.heap (es.map (·.val)) (ds.map (·.2)) bs ∧ sysModules ∉ bs
  | [], _, _, _, h, r, p => by
    cases h
    cases r
    cases p
    exact ⟨_, _, ReadsAll.nil, List.not_mem_nil, ReadsAll.nil, List.not_mem_nil⟩
  | (_, d) :: ds, _, _, _, h, r, p => by
    cases h with
    | cons h1 h2 =>
      cases r with
      | cons r1 r2 =>
        cases p with
        | cons p1 p2 p3 =>
          obtain ⟨as, bs, q1, m1, q2, m2⟩ := Da.readsKv I ds _ _ _ h2 r2 p3
          obtain ⟨cs, q3, m3⟩ := Da.reads I d _ _ h1 r1.2
          refine ⟨_, _, ReadsAll.cons (key_reads (by have e := r1.1; simp only at e; show keyIs _ _ = true; rw [e]; exact p1)) q1, ?_, ReadsAll.cons (by show Reads s.heap (DictEntry.val _) d _; rw [p2]; exact q3) q2, fun z => ?_⟩
          · rw [List.nil_append]
            exact m1
          · rcases List.mem_append.mp z with q | q
            · exact m3 q
            · exact m2 q
end
end
/-- data that repr writes: at most w by weight, nested at most k deep -/
structure Sm (d : PyData) (w k : Nat) : Prop where
  sh : d.showable = true
  dp : d.depth ≤ k
  lv : d.leavesShort 100 = true
  wt : d.weight ≤ w
theorem Sm.mono {d : PyData} {w v k m : Nat} (h : Sm d w k) (hw : w ≤ v) (hk : k ≤ m) : Sm d v m := ⟨h.sh, Nat.le_trans h.dp hk, h.lv, Nat.le_trans h.wt hw⟩
/-- each of them -/
def SmE (ds : List PyData) (k : Nat) : Prop := ∀ d ∈ ds, d.showable = true ∧ d.depth ≤ k ∧ d.leavesShort 100 = true
theorem smE_iff : ∀ (ds : List PyData) (k : Nat), SmE ds k ↔ PyData.showableAll ds = true ∧ PyData.depthAll ds ≤ k ∧ PyData.leavesShortAll 100 ds = true
  | [], k => by
    refine ⟨fun _ => ⟨rfl, Nat.zero_le _, rfl⟩, fun _ d h => absurd h List.not_mem_nil⟩
  | d :: ds, k => by
    have ih := smE_iff ds k
    constructor
    · intro h
      have h1 := h d List.mem_cons_self
      have h2 := ih.mp fun e he => h e (List.mem_cons_of_mem _ he)
      refine ⟨?_, ?_, ?_⟩
      · simp only [PyData.showableAll, h1.1, h2.1, Bool.and_self]
      · simp only [PyData.depthAll]
        omega
      · simp only [PyData.leavesShortAll, h1.2.2, h2.2.2, Bool.and_self]
    · rintro ⟨h1, h2, h3⟩ e he
      simp only [PyData.showableAll, Bool.and_eq_true] at h1
      simp only [PyData.depthAll] at h2
      simp only [PyData.leavesShortAll, Bool.and_eq_true] at h3
      rcases List.mem_cons.mp he with rfl | he
      · exact ⟨h1.1, by omega, h3.1⟩
      · exact ih.mpr ⟨h1.2, by omega, h3.2⟩ e he
theorem smE_iff_depth : ∀ (ds : List PyData) (k : Nat), PyData.depthAll ds ≤ k ↔ ∀ d ∈ ds, d.depth ≤ k
  | [], k => ⟨fun _ d h => absurd h List.not_mem_nil, fun _ => Nat.zero_le _⟩
  | d :: ds, k => by
    have ih := smE_iff_depth ds k
    simp only [PyData.depthAll]
    constructor
    · intro h e he
      rcases List.mem_cons.mp he with rfl | he
      · omega
      · exact ih.mp (by omega) e he
    · intro h
      have h1 := h d List.mem_cons_self
      have h2 := ih.mpr fun e he => h e (List.mem_cons_of_mem _ he)
      omega
theorem wt_app : ∀ xs ys : List PyData, PyData.weightAll (xs ++ ys) = PyData.weightAll xs + PyData.weightAll ys
  | [], ys => by simp [PyData.weightAll]
  | x :: xs, ys => by
    rw [List.cons_append]
    simp only [PyData.weightAll, wt_app xs ys]
    omega
theorem wt_len : ∀ xs : List PyData, xs.length ≤ PyData.weightAll xs
  | [] => by simp [PyData.weightAll]
  | x :: xs => by
    have := wt_len xs
    simp only [PyData.weightAll, List.length_cons]
    omega
theorem wt_mem : ∀ {xs : List PyData} {d : PyData}, d ∈ xs → d.weight + 1 ≤ PyData.weightAll xs
  | [], d, h => absurd h List.not_mem_nil
  | x :: xs, d, h => by
    simp only [PyData.weightAll]
    rcases List.mem_cons.mp h with rfl | h
    · omega
    · have := wt_mem h
      omega
theorem Sm.tup {ds : List PyData} {w k : Nat} (h : SmE ds k) (hw : PyData.weightAll ds ≤ w) : Sm (.tuple ds) w (k + 1) := by
  obtain ⟨a, b, c⟩ := (smE_iff ds k).mp h
  refine ⟨?_, ?_, ?_, ?_⟩
  · simpa only [PyData.showable] using a
  · simp only [PyData.depth]
    omega
  · simpa only [PyData.leavesShort] using c
  · simpa only [PyData.weight] using hw
theorem Sm.lst {ds : List PyData} {w k : Nat} (h : SmE ds k) (hw : PyData.weightAll ds ≤ w) : Sm (.list ds) w (k + 1) := by
  obtain ⟨a, b, c⟩ := (smE_iff ds k).mp h
  refine ⟨?_, ?_, ?_, ?_⟩
  · simpa only [PyData.showable] using a
  · simp only [PyData.depth]
    omega
  · simpa only [PyData.leavesShort] using c
  · simpa only [PyData.weight] using hw
theorem Sm.of_tup {ds : List PyData} {w k : Nat} (h : Sm (.tuple ds) w k) : ∃ j, k = j + 1 ∧ SmE ds j ∧ PyData.weightAll ds ≤ w := by
  obtain ⟨a, b, c, e⟩ := h
  simp only [PyData.showable] at a
  simp only [PyData.depth] at b
  simp only [PyData.leavesShort] at c
  simp only [PyData.weight] at e
  refine ⟨k - 1, by omega, (smE_iff ds _).mpr ⟨a, by omega, c⟩, e⟩
theorem Sm.int {i : Int} (h : i.natAbs < 10 ^ 90) : Sm (.int i) 310 0 := by
  have s := Small.int h
  exact ⟨s.sh, s.dp, s.lv, s.wt⟩
theorem Sm.bool (b : Bool) : Sm (.bool b) 0 0 := ⟨rfl, Nat.le_refl _, rfl, Nat.le_refl _⟩
theorem Sm.none : Sm .none 0 0 := ⟨rfl, Nat.le_refl _, rfl, Nat.le_refl _⟩
theorem Sm.e {d : PyData} {w k : Nat} (h : Sm d w k) : d.showable = true ∧ d.depth ≤ k ∧ d.leavesShort 100 = true := ⟨h.sh, h.dp, h.lv⟩
theorem Sm.dict0 : Sm (.dict []) 0 1 := ⟨rfl, by decide, rfl, Nat.le_refl _⟩
theorem Sm.long {d : PyData} {w k : Nat} (h : Sm d w k) (hw : w ≤ 150000) : d.shown.length ≤ sizeLine := by
  have e := PyData.shown_le 100 (by decide) d h.lv
  have := h.wt
  rw [sizeLine_eq]
  have : (100 + 2) * d.weight ≤ (100 + 2) * 150000 := Nat.mul_le_mul_left _ (Nat.le_trans h.wt hw)
  omega
section
variable {X : Cx}
/-- isinstance(x, T), x data -/
theorem call_isiD : CallR X (.builtin "isinstance") (fun xs H Q => ∃ n v d T b, xs = [v, .ty T] ∧ Da n H v d ∧ kitB (tyD d) T = some b ∧ Q (.bl b) H) := by
  intro pins s σ H xs us Q I r h
  obtain ⟨n, v, d, T, b, rfl, hd, hk, q⟩ := h
  exact call_isi pins s σ H _ us Q I r ⟨v, .ty T, _, _, b, rfl, .ty T, hd.ty, kit_ty hk, q⟩
/-- repr(x), x data -/
theorem call_reprA (hG : X.A.guards = some []) (hu : X.A.units + 64 < cLine) : CallR X (.builtin "repr") (fun xs H Q => ∃ n v d w k, xs = [v] ∧ Da n H v d ∧ Sm d w k ∧ w ≤ 150000 ∧ k ≤ 60 ∧ Q (.str d.shown) H) := by
  intro pins s σ H xs us Q I r h
  obtain ⟨n, v, d, w, k, rfl, hd, S, hw, hk, q⟩ := h
  obtain ⟨u, rfl, ru⟩ := vals1 r
  have hz := S.long hw
  have hsh := S.sh
  cases v with
  | ref a =>
    obtain ⟨as, rd, nm⟩ := Da.reads I d _ u hd ru
    cases ru
    have hn := S.dp
    exact repr_of_reads' rd S.sh (fun _ => nm) hG (by omega) (fun _ _ z => z) (fun h' u tk hk => ⟨.str _, H, I.kept hk, ⟨_, rfl⟩, q⟩) hz
  | non =>
    cases hd
    cases ru
    exact P.repr_of_none ⟨.str "None", H, I.tok _, ⟨_, rfl⟩, q⟩
  | bl b =>
    cases hd
    cases ru
    exact P.repr_of_bool ⟨.str (if b then "True" else "False"), H, I.tok _, ⟨_, rfl⟩, q⟩
  | int i =>
    cases hd
    obtain ⟨t, rfl⟩ := ru
    simp only [PyData.showable, decide_eq_true_eq] at hsh
    exact P.repr_of_int hsh ⟨.str (toString i), H, I.tok _, ⟨_, rfl⟩, q⟩
  | str x =>
    cases hd
    obtain ⟨t, rfl⟩ := ru
    exact P.repr_of_str ⟨.str (reprText x), H, I.tok _, ⟨_, rfl⟩, q⟩ hz
  | _ => cases hd
/-- t == (), t any tuple -/
theorem op_eq0 (hu : X.A.units < cLine) : OpR X (compareOp .Eq) (fun x y H Q => ∃ a b xs, x = .ref a ∧ y = .ref b ∧ SqT X.K H a xs ∧ SqT X.K H b [] ∧ Q (.bl xs.isEmpty) H) := by
  intro pins s σ H x y v u Q I rx ry h
  obtain ⟨a, b, xs, rfl, rfl, ha, hb, q⟩ := h
  cases rx
  cases ry
  obtain ⟨i1, r1, p1, _⟩ := I.tuple ha
  obtain ⟨i2, r2, p2, _⟩ := I.tuple hb
  cases r2
  refine SeqAt.eq_tupleAt (e := fun _ => true) p1 p2 hu (fun j h1 h2 => absurd h2 (by simp)) ?_
  refine ⟨.bl xs.isEmpty, H, I, ?_, q⟩
  have e := r1.length
  cases xs with
  | nil =>
    cases r1
    rfl
  | cons z zs =>
    cases r1
    simp [L2.RelV]
/-- a written list stands apart from what the machine keeps by itself -/
def tLstN (t : TA) : TE := fun σ H Q => t σ H fun xs H1 => xs.length ≤ sizeLine ∧ ∀ p, H1 p = none → p ≠ sysModules → Q (.ref p) (upd H1 p (.lst xs))
theorem pe_lstN {es : List Expr} {pos : Pos} {t : TA} (h : PA X es t) : PE X (.List es pos) (tLstN t) := by
  refine ⟨fun pins s σ H Q I hq => ?_⟩
  refine wpAny_List_spliced (thn (h.run pos pins s σ H _ I hq) fun us s1 ⟨xs, H1, I1, r, z, q⟩ => ⟨by rw [← r.length]; exact z, ?_⟩)
  have hf : H1 s1.heap.objs.size = none := I1.hok.fresh (Nat.le_refl _)
  refine ⟨.ref s1.heap.objs.size, upd H1 s1.heap.objs.size (.lst xs), I1.laid (t' := s1.toks) (fun b u e => Heap.get?_push_of_some _ e) (Nat.le_refl _) ?_, rfl, q _ hf (Nat.ne_of_gt I1.big)⟩
  exact ⟨z, us, 0, r, Heap.get?_push_size _ rfl⟩
/-- list(t), t a tuple -/
theorem call_list_ofN : CallR X (.type "list") (fun xs H Q => ∃ p ys, xs = [.ref p] ∧ SqT X.K H p ys ∧ ∀ l, H l = none → l ≠ sysModules → Q (.ref l) (upd H l (.lst ys))) := by
  intro pins s σ H xs us Q I r h
  obtain ⟨p, ys, rfl, hq, q⟩ := h
  obtain ⟨u, rfl, rx⟩ := vals1 r
  cases rx
  have fin : ∀ (its : List Value), Vals ys its → ys.length ≤ sizeLine → ∀ (h' : Heap) (c' : Nat), (∀ b o', s.heap.get? b = some o' → h'.get? b = some o') →
      h'.get? s.heap.objs.size = some { cls := .type "list", dict := none, data := .seq its.toArray c', slots := #[] } → EP X pins σ Q (.ref s.heap.objs.size) { s with heap := h' } := fun its r' hz h' c' kp e =>
    ⟨.ref s.heap.objs.size, _, I.laid (t' := s.toks) kp (Nat.le_refl _) (show ObjOk X.prog X.w _ h' _ (.lst ys) from ⟨hz, its, c', r', e⟩), rfl, q _ (I.hok.fresh (Nat.le_refl _)) (Nat.ne_of_gt I.big)⟩
  obtain ⟨its, r', pl, hz⟩ := I.tuple hq
  have hlen := r'.length
  obtain ⟨o, ho, hc, n, hd⟩ := pl
  exact call_list_seq p (.inr rfl) ho hc hd (fun h' c' kp e => fin its r' hz h' c' kp e) (by simp only [List.size_toArray] <;> omega)
end
theorem inV_int2 (i j k : Int) : inV (V.int i) [V.int j, V.int k] = (decide (i = j) || decide (i = k)) := by
  rw [Bool.eq_iff_iff]
  simp only [inV, eqV, List.any_cons, List.any_nil, Bool.or_false, Bool.or_eq_true, beq_iff_eq, decide_eq_true_eq]
  constructor
  · rintro (h | h)
    · exact .inl h.symm
    · exact .inr h.symm
  · rintro (h | h)
    · exact .inl h.symm
    · exact .inr h.symm
theorem inV_str2 (z x y : Str) : inV (V.str z) [V.str x, V.str y] = (decide (z = x) || decide (z = y)) := by
  rw [Bool.eq_iff_iff]
  simp only [inV, eqV, List.any_cons, List.any_nil, Bool.or_false, Bool.or_eq_true, beq_iff_eq, decide_eq_true_eq]
  constructor
  · rintro (h | h)
    · exact .inl h.symm
    · exact .inr h.symm
  · rintro (h | h)
    · exact .inl h.symm
    · exact .inr h.symm
theorem wipe1 {σ : L2.St} {k : Nat} {v : Option V} {n : Str} : wipe ((wipe σ ([(n, k)].map (·.2))).set k v) ([(n, k)].map (·.2)) = wipe σ ([(n, k)].map (·.2)) := by
  show ((σ.set k none).set k v).set k none = σ.set k none
  rw [List.set_set, List.set_set]
end NB

set_option Elab.async false
set_option linter.all false
set_option maxRecDepth 100000
namespace K58
open PySem PySem.Spec PyProof.Rows L2 NB
def topS (i : Nat) : Stmt := PySem.Challenge.pw_notbothout_k58_letters_of_anything.main.body.getD i (.Pass ⟨0, 0, 0, 0⟩)

/-- all that was tracked stands, but for what is at a -/
def But (a : Addr) (H H' : Hp) : Prop := ∀ b o, b ≠ a → H b = some o → H' b = some o
theorem But.of {a : Addr} {H H' : Hp} (h : Same H H') : But a H H' := fun b o _ e => h b o e
theorem But.trans {a : Addr} {H H1 H2 : Hp} (h : But a H H1) (h' : But a H1 H2) : But a H H2 := fun b o n e => h' b o n (h b o n e)
theorem But.seq {K : PySem.W.Frag} {a l : Addr} {H H' : Hp} {xs : List V} (h : But a H H') (n : l ≠ a) (q : SqL K H l xs) : SqL K H' l xs := by
  rcases q with (q | ⟨o, q⟩) | q
  · exact .inl (.inl (h _ _ n q))
  · exact .inl (.inr ⟨o, h _ _ n q⟩)
  · exact .inr q
theorem But.tup {K : PySem.W.Frag} {a l : Addr} {H H' : Hp} {xs : List V} (h : But a H H') (n : l ≠ a) (q : SqT K H l xs) : SqT K H' l xs := by
  rcases q with (q | ⟨o, q⟩) | q
  · exact .inl (.inl (h _ _ n q))
  · exact .inl (.inr ⟨o, h _ _ n q⟩)
  · exact .inr q
theorem sameT {K : PySem.W.Frag} {l : Addr} {H H' : Hp} {xs : List V} (h : Same H H') (q : SqT K H l xs) : SqT K H' l xs := by
  rcases q with (q | ⟨o, q⟩) | q
  · exact .inl (.inl (h _ _ q))
  · exact .inl (.inr ⟨o, h _ _ q⟩)
  · exact .inr q
theorem same_new {H : Hp} {p : Addr} {o : HO} (h : H p = none) : Same H (upd H p o) := fun b x e => by
  rw [upd_ne (ne_of_none e h)]
  exact e
/-- a cell that was free and is written stands apart from what was -/
theorem same_over {H H' : Hp} {p : Addr} {o : HO} (h : Same H H') (n : H p = none) : Same H (upd H' p o) := fun b x e => by
  rw [upd_ne (ne_of_none e n)]
  exact h b x e

theorem mapGet {α β : Type} {f : α → β} {xs : List α} {i : Nat} {y : β} (h : (xs.map f)[i]? = some y) : ∃ x, xs[i]? = some x ∧ y = f x := by
  rw [List.getElem?_map] at h
  cases e : xs[i]? with
  | none => rw [e] at h; cases h
  | some x => rw [e] at h; exact ⟨x, rfl, (Option.some.inj h).symm⟩

theorem take_map {α β : Type} (f : α → β) (xs : List α) (i : Nat) (y : α) (h : xs[i]? = some y) : (xs.take (i + 1)).map f = (xs.take i).map f ++ [f y] := by
  rw [List.take_add_one, h, List.map_append]
  rfl
theorem take_small {α : Type} {xs : List α} {i : Nat} (h : xs.length ≤ 1000) {β : Type} (f : α → β) : ((xs.take i).map f).length < sizeLine := by
  rw [List.length_map, List.length_take]
  exact Nat.lt_of_le_of_lt (Nat.min_le_right _ _) (small1000 h)

abbrev sPot : Stmt := topS 8
abbrev sTake : Stmt := topS 9
abbrev sOf : Stmt := topS 10
theorem scPot : FnScope ["_law_script", "_law_k", "_law_cell", "_law_great"] ["_law_script", "_law_k"] (defScope sPot) := ⟨rfl, rfl, rfl, by decide +kernel, rfl, by decide +kernel, by decide +kernel⟩
theorem scTake : FnScope ["_law_pot_here", "_law_many", "_law_digit", "_law_prime", "_law_mixed"] ["_law_pot_here", "_law_many"] (defScope sTake) := ⟨rfl, rfl, rfl, by decide +kernel, rfl, by decide +kernel, by decide +kernel⟩
theorem scOf : FnScope ["_law_pot_here", "_law_some"] ["_law_pot_here", "_law_some"] (defScope sOf) := ⟨rfl, rfl, rfl, by decide +kernel, rfl, by decide +kernel, by decide +kernel⟩

/-- a pot out of which at most c numbers were taken by reckoning -/
def PotAt (H : Hp) (a : Addr) (c : Nat) : Prop := ∃ p q r : Int, H a = some (.lst [.int p, .int q, .int r]) ∧ 0 ≤ p ∧ 0 ≤ r ∧ r ≤ c
theorem PotAt.mono {H : Hp} {a : Addr} {c d : Nat} (h : PotAt H a c) (le : c ≤ d) : PotAt H a d := by
  obtain ⟨p, q, r, e, h1, h2, h3⟩ := h
  exact ⟨p, q, r, e, h1, h2, by omega⟩
theorem PotAt.keep {H H' : Hp} {a : Addr} {c : Nat} (h : PotAt H a c) (s : Same H H') : PotAt H' a c := by
  obtain ⟨p, q, r, e, h1, h2, h3⟩ := h
  exact ⟨p, q, r, s _ _ e, h1, h2, h3⟩
theorem PotAt.ne {H : Hp} {a b : Addr} {c : Nat} (h : PotAt H a c) (n : H b = none) : b ≠ a := by
  obtain ⟨p, q, r, e, _⟩ := h
  exact (ne_of_none e n).symm
theorem But.free {a b : Addr} {H H' : Hp} (h : But a H H') (ne : b ≠ a) (n : H' b = none) : H b = none := by
  cases e : H b with
  | none => rfl
  | some o =>
    rw [h b o ne e] at n
    cases n
theorem but_new {a p : Addr} {H H' : Hp} {o : HO} (h : But a H H') (n : H p = none) : But a H (upd H' p o) := fun b x ne e => by
  rw [upd_ne (ne_of_none e n)]
  exact h b x ne e
theorem but_at {a : Addr} {H H' : Hp} {o : HO} (h : But a H H') : But a H (upd H' a o) := fun b x ne e => by
  rw [upd_ne ne]
  exact h b x ne e

theorem prime_at (j : Int) (h0 : 0 ≤ j) (h4 : j < 4) : ∃ pr : Int, atI [V.int 2305843009213693951, V.int 999999999989, V.int 1000000000039, V.int 67280421310721] j = some (.int pr) ∧ 0 < pr ∧ pr < 2 ^ 62 := by
  have : j = 0 ∨ j = 1 ∨ j = 2 ∨ j = 3 := by omega
  rcases this with rfl | rfl | rfl | rfl
  · exact ⟨_, atI_nat (j := 0) rfl, by decide, by decide⟩
  · exact ⟨_, atI_nat (j := 1) rfl, by decide, by decide⟩
  · exact ⟨_, atI_nat (j := 2) rfl, by decide, by decide⟩
  · exact ⟨_, atI_nat (j := 3) rfl, by decide, by decide⟩

section
variable {P : Program} {w : World} {K : PySem.W.Frag} {mg : Str → Option Value} {base : Heap}

def spPot (K : PySem.W.Frag) : Sp := fun vs H Q _ => ∃ (a : Addr) (ns : List Int) (k : Nat), vs = [.ref a, .int k] ∧ SqL K H a (ns.map V.int) ∧ k ≤ 1000 ∧
  ∀ H' p, Same H H' → H p = none → PotAt H' p 0 → Q (.ref p) H'
theorem ok_pot {f : Addr} {fd : FuncData} {k : Nat} (F : Fun K "_law_pot" "_law_pot" sPot f fd) (ml : mg "len" = none) (ma : mg "abs" = none) (mi : mg "int" = none) : FnOk P w K mg base CX0 (k + 1) f fd ["_law_script", "_law_k"] (spPot K) := by
  refine F.ok scPot (fun vs H Q E h => ?_) (fun cdv A outer s H vs Q E hr h => ?_)
  · obtain ⟨a, ns, k, rfl, _⟩ := h
    rfl
  · obtain ⟨a, ns, k, rfl, hS, hk, q⟩ := h
    refine ⟨_, pss_cons (ps_set (i := 2) scPot.nd rfl (.inl rfl) (pe_ifExp (pt_cmpR op_lt (pv 1) (pe_callB call_len_seq (by rfl) ml PySem.boot_len (pa_cons (pv 0) pa_nil)) (nomark _)) (pe_ix ix_list (pv 0) (pv 1) (fun _ _ => rfl)) (pe_op op_add (pe_op op_mul pe_int (pv 1)) pe_int)))
      (pss_cons (ps_set (i := 3) scPot.nd rfl (.inl rfl) (pe_op op_mul (pe_op op_mod (pe_callB call_abs (by rfl) ma (by decide +kernel) (pa_cons (pv 2) pa_nil)) (pe_op op_powW (pe_op op_pow pe_int pe_int) pe_int))
          (pe_callTy call_int1 (by rfl) mi (by decide +kernel) (pa_cons (pe_cmpR op_ge (pe_callB call_abs (by rfl) ma (by decide +kernel) (pa_cons (pv 2) pa_nil)) (pe_op op_pow pe_int pe_int) (nomark _)) pa_nil))))
      (pss_one (ps_ret (pe_lst (pa_cons (pv 3) (pa_cons (pe_op op_mod (pe_op op_mul (pe_op op_add (pe_op op_add (pe_op op_mod (pv 2) pe_int) (pe_op op_mul (pe_op op_mul pe_int (pv 1)) (pv 1))) pe_int) pe_int) pe_int) (pa_cons pe_int pa_nil))))))), ?_⟩
    have k1 : -(2 ^ 64) < (k : Int) ∧ (k : Int) < 2 ^ 64 := by omega
    have big : (0 : Int) < (10 ^ (60 : Int).toNat) ^ (5 : Int).toNat := by decide +kernel
    have one : ∀ b : Bool, -(2 ^ 64) < (if b = true then (1 : Int) else 0) ∧ (if b = true then (1 : Int) else 0) < 2 ^ 64 := fun b => by cases b <;> decide
    have nn : ∀ (x : Int) (b : Bool), 0 ≤ x % (10 ^ (60 : Int).toNat) ^ (5 : Int).toNat * (if b = true then (1 : Int) else 0) := fun x b => Int.mul_nonneg (Int.emod_nonneg _ (Int.ne_of_gt big)) (by cases b <;> decide)
    refine ⟨.int k, rfl, .ref a, rfl, a, _, rfl, .inl hS, _, _, rfl, rfl, _, rfl, ite2 (fun c => ?_) (fun c => ?_)⟩
    · have c' := of_decide_eq_true c
      rw [List.length_map] at c'
      have lt : k < ns.length := by omega
      refine ⟨.ref a, rfl, .int k, rfl, a, _, k, .int ns[k], rfl, rfl, hS, atI_nat (by rw [List.getElem?_map, List.getElem?_eq_getElem lt]; rfl), ?_⟩
      refine ⟨.int ns[k], rfl, _, rfl, 10, 60, rfl, rfl, ⟨by decide, by decide, by decide⟩, _, 5, rfl, rfl, ⟨by decide, by decide +kernel⟩, _, _, rfl, rfl, big, .int ns[k], rfl, _, rfl, 10, 18, rfl, rfl, ⟨by decide, by decide, by decide⟩, _, _, rfl, rfl, .inr ⟨_, rfl, _, _, rfl, rfl, .inr (one _), ?_⟩⟩
      refine ⟨_, rfl, .int ns[k], rfl, _, 2305843009213693951, rfl, rfl, (show (0 : Int) < 2305843009213693951 by decide), .int k, rfl, 7919, k, rfl, rfl, .inl ⟨by decide, by decide⟩, .int k, rfl, _, k, rfl, rfl, .inr k1, _, _, rfl, rfl, _, 17, rfl, rfl, _, 48271, rfl, rfl, .inr ⟨by decide, by decide⟩, _, 2305843009213693921, rfl, rfl, (show (0 : Int) < 2305843009213693921 by decide), (show 3 ≤ sizeLine by decide), fun p np => ?_⟩
      exact q _ p (same_new np) np ⟨_, _, 0, upd_same, nn _ _, Int.le_refl _, Int.le_refl _⟩
    · refine ⟨.int k, rfl, 7, _, rfl, rfl, .inl ⟨by decide, by decide⟩, _, 3, rfl, rfl, ?_⟩
      refine ⟨_, rfl, _, rfl, 10, 60, rfl, rfl, ⟨by decide, by decide, by decide⟩, _, 5, rfl, rfl, ⟨by decide, by decide +kernel⟩, _, _, rfl, rfl, big, _, rfl, _, rfl, 10, 18, rfl, rfl, ⟨by decide, by decide, by decide⟩, _, _, rfl, rfl, .inr ⟨_, rfl, _, _, rfl, rfl, .inr (one _), ?_⟩⟩
      refine ⟨_, rfl, _, rfl, _, 2305843009213693951, rfl, rfl, (show (0 : Int) < 2305843009213693951 by decide), .int k, rfl, 7919, k, rfl, rfl, .inl ⟨by decide, by decide⟩, .int k, rfl, _, k, rfl, rfl, .inr k1, _, _, rfl, rfl, _, 17, rfl, rfl, _, 48271, rfl, rfl, .inr ⟨by decide, by decide⟩, _, 2305843009213693921, rfl, rfl, (show (0 : Int) < 2305843009213693921 by decide), (show 3 ≤ sizeLine by decide), fun p np => ?_⟩
      exact q _ p (same_new np) np ⟨_, _, 0, upd_same, nn _ _, Int.le_refl _, Int.le_refl _⟩

/-- a drawn number -/
def spTake : Sp := fun vs H Q _ => ∃ (a : Addr) (m : Int) (c : Nat), vs = [.ref a, .int m] ∧ PotAt H a c ∧ 1 ≤ m ∧ m < 2 ^ 200 ∧ c < 1000000 ∧
  ∀ (d : Int) H', But a H H' → PotAt H' a (c + 1) → 0 ≤ d → d < m → Q (.int d) H'
theorem ok_take {f : Addr} {fd : FuncData} {k : Nat} (F : Fun K "_law_take" "_law_take" sTake f fd) : FnOk P w K mg base CX0 (k + 1) f fd ["_law_pot_here", "_law_many"] spTake := by
  refine F.ok scTake (fun vs H Q E h => ?_) (fun cdv A outer s H vs Q E hr h => ?_)
  · obtain ⟨a, m, c, rfl, _⟩ := h
    rfl
  · obtain ⟨a, m, c, rfl, ⟨p0, p1, p2, ea, n0, n2, l2⟩, m1, m2, hc, q⟩ := h
    refine ⟨_, pss_cons (ps_if (pt_cmpR op_gt (pe_ix ix_list (pv 0) pe_int (fun _ _ => rfl)) pe_int (nomark _))
        (pss_cons (ps_set (i := 2) scTake.nd rfl (.inl rfl) (pe_op op_mod (pe_ix ix_list (pv 0) pe_int (fun _ _ => rfl)) (pv 1)))
        (pss_cons (ps_asg (pe_op op_fdivW (pe_ix ix_list (pv 0) pe_int (fun _ _ => rfl)) (pv 1)) (pg_sub (pv 0) pe_int set_list))
        (pss_one (ps_ret (pv 2))))) pss_nil)
      (pss_cons (ps_asg (pe_op op_add (pe_ix ix_list (pv 0) pe_int (fun _ _ => rfl)) pe_int) (pg_sub (pv 0) pe_int set_list))
      (pss_cons (ps_set (i := 3) scTake.nd rfl (.inl rfl) (pe_ix ix_list (pe_lst (pa_cons pe_int (pa_cons pe_int (pa_cons pe_int (pa_cons pe_int pa_nil))))) (pe_op op_mod (pe_ix ix_list (pv 0) pe_int (fun _ _ => rfl)) pe_int) (fun _ _ => rfl)))
      (pss_cons (ps_set (i := 4) scTake.nd rfl (.inl rfl) (pe_op op_mod (pe_op op_add (pe_op op_add (pe_ix ix_list (pv 0) pe_int (fun _ _ => rfl)) (pe_op op_mul (pe_op op_mul pe_int (pe_ix ix_list (pv 0) pe_int (fun _ _ => rfl))) (pe_ix ix_list (pv 0) pe_int (fun _ _ => rfl)))) (pe_op op_mul pe_int (pe_ix ix_list (pv 0) pe_int (fun _ _ => rfl)))) (pv 3)))
      (pss_cons (ps_set (i := 4) scTake.nd rfl (.inl rfl) (pe_op op_mod (pe_op op_pow (pv 4) pe_int) (pv 3)))
      (pss_one (ps_ret (pe_op op_mod (pe_op op_add (pe_op op_fdiv (pv 4) pe_int) (pe_op op_mul (pe_op op_fdiv (pv 4) pe_int) pe_int)) (pv 1)))))))), ?_⟩
    have mpos : (0 : Int) < m := by omega
    refine ⟨.ref a, rfl, a, _, 0, .int p0, rfl, rfl, .inl (.inl ea), atI_nat (j := 0) rfl, _, 0, rfl, rfl, _, rfl, ite2 (fun _ => ?_) (fun _ => ?_)⟩
    · refine ⟨.ref a, rfl, a, _, 0, .int p0, rfl, rfl, .inl (.inl ea), atI_nat (j := 0) rfl, .int m, rfl, p0, m, rfl, rfl, mpos, ?_⟩
      refine ⟨.ref a, rfl, a, _, 0, .int p0, rfl, rfl, .inl (.inl ea), atI_nat (j := 0) rfl, .int m, rfl, p0, m, rfl, rfl, wide_div (b := 200) mpos (by omega) (by decide) (by decide), ?_⟩
      refine ⟨.ref a, rfl, a, _, 0, 0, rfl, rfl, ea, rfl, ?_⟩
      refine ⟨.int (p0 % m), rfl, ?_⟩
      refine q _ _ (but_at (fun _ _ _ e => e)) ⟨p0 / m, p1, p2, upd_same, Int.ediv_nonneg n0 (by omega), n2, by omega⟩ (Int.emod_nonneg _ (by omega)) (Int.emod_lt_of_pos _ mpos)
    · refine ⟨.ref a, rfl, a, _, 2, .int p2, rfl, rfl, .inl (.inl ea), atI_nat (j := 2) rfl, p2, 1, rfl, rfl, ?_⟩
      refine ⟨.ref a, rfl, a, _, 2, 2, rfl, rfl, ea, rfl, ?_⟩
      obtain ⟨pr, epr, pp, pl⟩ := prime_at ((p2 + 1) % 4) (Int.emod_nonneg _ (by decide)) (Int.emod_lt_of_pos _ (by decide))
      have ea2 : (upd H a (.lst [.int p0, .int p1, .int (p2 + 1)])) a = some (.lst [.int p0, .int p1, .int (p2 + 1)]) := upd_same
      refine ⟨(show 4 ≤ sizeLine by decide), fun l nl => ?_⟩
      have nla : a ≠ l := ne_of_none ea2 nl
      have ea3 : (upd (upd H a (.lst [.int p0, .int p1, .int (p2 + 1)])) l (.lst [V.int 2305843009213693951, V.int 999999999989, V.int 1000000000039, V.int 67280421310721])) a = some (.lst [.int p0, .int p1, .int (p2 + 1)]) := (upd_ne nla).trans ea2
      refine ⟨.ref a, rfl, a, _, 2, .int (p2 + 1), rfl, rfl, .inl (.inl ea3), atI_nat (j := 2) rfl, p2 + 1, 4, rfl, rfl, (show (0 : Int) < 4 by decide), l, _, (p2 + 1) % 4, .int pr, rfl, rfl, .inl (.inl upd_same), epr, ?_⟩
      have b2 : -(2 ^ 64) < p2 + 1 ∧ p2 + 1 < 2 ^ 64 := by omega
      refine ⟨.ref a, rfl, a, _, 1, .int p1, rfl, rfl, .inl (.inl ea3), atI_nat (j := 1) rfl, .ref a, rfl, a, _, 2, .int (p2 + 1), rfl, rfl, .inl (.inl ea3), atI_nat (j := 2) rfl, 7919, p2 + 1, rfl, rfl, .inl ⟨by decide, by decide⟩, .ref a, rfl, a, _, 2, .int (p2 + 1), rfl, rfl, .inl (.inl ea3), atI_nat (j := 2) rfl, _, p2 + 1, rfl, rfl, .inr b2, _, _, rfl, rfl,
        .ref a, rfl, a, _, 2, .int (p2 + 1), rfl, rfl, .inl (.inl ea3), atI_nat (j := 2) rfl, 65537, p2 + 1, rfl, rfl, .inl ⟨by decide, by decide⟩, _, _, rfl, rfl, .int pr, rfl, _, pr, rfl, rfl, pp, ?_⟩
      have mx : ∀ e : Int, (e % pr).natAbs < 2 ^ 64 := fun e => by
        have h1 := Int.emod_nonneg e (Int.ne_of_gt pp)
        have h2 := Int.emod_lt_of_pos e pp
        omega
      refine ⟨_, rfl, _, 5, rfl, rfl, ⟨by decide, by decide, mx _⟩, .int pr, rfl, _, pr, rfl, rfl, pp, ?_⟩
      refine ⟨_, rfl, _, 4099, rfl, rfl, ⟨by decide, by decide⟩, _, rfl, _, 1000003, rfl, rfl, ⟨by decide, by decide⟩, _, 7, rfl, rfl, .inr ⟨by decide, by decide⟩, _, _, rfl, rfl, .int m, rfl, _, m, rfl, rfl, mpos, ?_⟩
      refine q _ _ ?_ ⟨p0, p1, p2 + 1, ea3, n0, by omega, by omega⟩ (Int.emod_nonneg _ (by omega)) (Int.emod_lt_of_pos _ mpos)
      exact but_new (but_at (fun _ _ _ e => e)) (by rw [upd_ne nla.symm] at nl; exact nl)
end

/-- a def that is known by its promise -/
structure Kn (P : Program) (w : World) (K : PySem.W.Frag) (mg : Str → Option Value) (base : Heap) (k : Nat) (x : Str) (ps : List Str) (sp : Sp) (f : Addr) (fd : FuncData) : Prop where
  ok : FnOk P w K mg base CX0 k f fd ps sp
  gl : mg x = some (.ref f)
  kp : PySem.W.keepIn K (.ref f) = true
  bi : Binds K fd ps []
theorem pe_kn {X : Cx} {k j : Nat} {x : Str} {ps : List Str} {sp : Sp} {f : Addr} {fd : FuncData} {p pos : Pos} {e : Expr} {es : List Expr} {t : TA} (C : Kn X.prog X.w X.K X.mg X.base k x ps sp f fd) (hr : Room j X.A) (hj : k ≤ j) (ha : PA X (e :: es) t) (hg : Gl X x := by rfl) (hdb : (x == ("__debug__" : Str)) = false := by decide)
    (he : starEach (e :: es) X.env = (false, eval e X.env) :: starEach es X.env := by rfl) (hpl : (backTo pos (starEach es X.env)).any (·.1) = false := by rfl) :
    PE X (.Call (.Name x p) (e :: es) [] pos) (tCall sp [] E0 t) := pe_call C.ok (hr.mono hj) hg C.gl C.kp C.bi .nil pass0 ha hdb he hpl

theorem But.tupP {K : PySem.W.Frag} {a t : Addr} {H H' : Hp} {c : Nat} {xs : List V} (b : But a H H') (p : PotAt H a c) (q : SqT K H t xs) : SqT K H' t xs := by
  obtain ⟨_, _, _, e, _⟩ := p
  rcases q with (q | ⟨o, q⟩) | q
  · exact .inl (.inl (b _ _ (ne_of q e (by intro z; cases z)) q))
  · exact .inl (.inr ⟨o, b _ _ (ne_of q e (by intro z; cases z)) q⟩)
  · exact .inr q
/-- places, or tops -/
def Pl (xs : List Int) : Prop := ∀ x ∈ xs, 0 ≤ x ∧ x < 10 ^ 30
theorem Pl.snoc {xs : List Int} {x : Int} (h : Pl xs) (h0 : 0 ≤ x) (h1 : x < 10 ^ 30) : Pl (xs ++ [x]) := fun y hy => by
  rcases List.mem_append.mp hy with q | q
  · exact h y q
  · rw [List.mem_singleton.mp q]
    exact ⟨h0, h1⟩

section
variable {P : Program} {w : World} {K : PySem.W.Frag} {mg : Str → Option Value} {base : Heap}

/-- one of some -/
def spOf (K : PySem.W.Frag) : Sp := fun vs H Q _ => ∃ (a l : Addr) (xs : List V) (c : Nat), vs = [.ref a, .ref l] ∧ PotAt H a c ∧ l ≠ a ∧ (SqL K H l xs ∨ SqT K H l xs) ∧ 1 ≤ xs.length ∧ xs.length ≤ 1000000 ∧ c < 1000000 ∧
  ∀ x H', x ∈ xs → But a H H' → PotAt H' a (c + 1) → Q x H'
theorem ok_of {f fT : Addr} {fd fdT : FuncData} {k : Nat} (F : Fun K "_law_of" "_law_of" sOf f fd) (T : Kn P w K mg base 1 "_law_take" ["_law_pot_here", "_law_many"] spTake fT fdT) (ml : mg "len" = none) : FnOk P w K mg base CX0 (k + 2) f fd ["_law_pot_here", "_law_some"] (spOf K) := by
  refine F.ok scOf (fun vs H Q E h => ?_) (fun cdv A outer s H vs Q E hr h => ?_)
  · obtain ⟨a, l, xs, c, rfl, _⟩ := h
    rfl
  · obtain ⟨a, l, xs, c, rfl, pa, ne, hl, l1, l2, hc, q⟩ := h
    refine ⟨_, pss_one (ps_ret (pe_ix ix_seq (pv 1) (pe_kn T hr (Nat.le_add_left 1 k) (pa_cons (pv 0) (pa_cons (pe_callB call_len_seq (by rfl) ml PySem.boot_len (pa_cons (pv 1) pa_nil)) pa_nil))) (fun _ _ => rfl))), ?_⟩
    refine ⟨.ref l, rfl, .ref a, rfl, .ref l, rfl, l, xs, rfl, hl, a, _, c, rfl, pa, by omega, ?_, hc, fun d H' b p' d0 dm => ?_⟩
    · have : (xs.length : Int) ≤ 1000000 := by omega
      exact Int.lt_of_le_of_lt this (by decide)
    have lt : d.toNat < xs.length := by omega
    have ei : atI xs d = some xs[d.toNat] := by
      have := atI_nat (xs := xs) (j := d.toNat) (List.getElem?_eq_getElem lt)
      rwa [Int.toNat_of_nonneg d0] at this
    have fin := q xs[d.toNat] H' (List.getElem_mem lt) b p'
    rcases hl with h | h
    · exact .inl ⟨l, xs, d, _, rfl, rfl, b.seq ne h, ei, fin⟩
    · exact .inr (.inl ⟨l, xs, d, _, rfl, rfl, b.tup ne h, ei, fin⟩)

/-- none beyond its top -/
def Le (st tops : List Int) : Prop := ∀ (i : Nat) (x t : Int), st[i]? = some x → tops[i]? = some t → x ≤ t
theorem Le.snoc {st tops : List Int} {x t : Int} (h : Le st tops) (e : tops[st.length]? = some t) (l : x ≤ t) : Le (st ++ [x]) tops := fun i y u h1 h2 => by
  rcases Nat.lt_or_ge i st.length with q | q
  · rw [List.getElem?_append_left q] at h1
    exact h i y u h1 h2
  · rw [List.getElem?_append_right q] at h1
    have e0 : i - st.length = 0 := by
      rcases Nat.eq_zero_or_pos (i - st.length) with z | z
      · exact z
      · rw [List.getElem?_eq_none (by simp only [List.length_cons, List.length_nil]; omega)] at h1
        cases h1
    have ei : i = st.length := by omega
    subst ei
    rw [e0] at h1
    cases h1
    rw [e] at h2
    cases h2
    exact l
end

section
variable {P : Program} {w : World} {K : PySem.W.Frag} {mg : Str → Option Value} {base : Heap}

theorem pot_upd {H : Hp} {a p : Addr} {c : Nat} {o : HO} (h : PotAt H a c) (n : p ≠ a) : PotAt (upd H p o) a c := by
  obtain ⟨x, y, z, e, r⟩ := h
  exact ⟨x, y, z, (upd_ne n.symm).trans e, r⟩
theorem e15 : (10 : Int) ^ (15 : Int).toNat = 1000000000000000 := by decide
theorem e30 : (10 : Int) ^ (30 : Int).toNat = 10 ^ 30 := by decide

end
end K58

set_option Elab.async false
set_option linter.all false
set_option maxRecDepth 100000
namespace K58
open PySem PySem.Spec PyProof.Rows L2 NB

/-! ### letters, of anything -/
def wholeD : PyData → Bool
  | .int _ => true
  | _ => false
def countD : PyData → Bool
  | .int i => decide (0 ≤ i)
  | _ => false
def noneD : PyData → Bool
  | .none => true
  | _ => false
def posD : PyData → Bool
  | .int i => decide (1 ≤ i)
  | _ => false
def standD : PyData → Bool
  | .tuple ps => (decide (1 ≤ ps.length) && decide (ps.length ≤ 12)) && ps.all countD
  | _ => false
def wishD : PyData → Bool
  | .tuple ds => decide (ds.length = 2) && (posD (ds.getD 0 .none) && standD (ds.getD 1 .none))
  | _ => false
def strIs (z : Str) : PyData → Bool
  | .str x => decide (x = z)
  | _ => false
def letterD : PyData → Bool
  | .tuple ds => if ds.length = 2 then strIs "word" (ds.getD 0 .none) && wishD (ds.getD 1 .none)
      else decide (ds.length = 4) && ((strIs "ask" (ds.getD 0 .none) || strIs "leave" (ds.getD 0 .none)) && ((countD (ds.getD 1 .none) && countD (ds.getD 2 .none)) && (noneD (ds.getD 3 .none) || wishD (ds.getD 3 .none))))
  | _ => false
theorem tup_or (d : PyData) : (∃ ds, d = .tuple ds) ∨ isTupD d = false := by
  cases d with
  | tuple ds => exact .inl ⟨ds, rfl⟩
  | _ => exact .inr rfl
theorem not_tup {d : PyData} (h : isTupD d = false) : wishD d = false ∧ letterD d = false ∧ standD d = false := by
  cases d with
  | tuple ds => cases h
  | _ => exact ⟨rfl, rfl, rfl⟩
theorem all_take {α : Type} (g : α → Bool) (xs : List α) (i : Nat) (y : α) (h : xs[i]? = some y) : ((xs.take (i + 1)).map g).map V.bl = ((xs.take i).map g).map V.bl ++ [V.bl (g y)] := by
  rw [List.take_add_one, h, List.map_append, List.map_append]
  rfl
theorem all_id {α : Type} (g : α → Bool) (xs : List α) : (xs.map g).all id = xs.all g := by
  rw [List.all_map]
  rfl
section
variable {P : Program} {w : World} {K : PySem.W.Frag} {mg : Str → Option Value} {base : Heap}
/-- a look at data that leaves all as it is -/
def spLook (g : PyData → Bool) : Sp := fun vs H Q _ => ∃ (n : Addr) (v : V) (d : PyData), vs = [v] ∧ Da n H v d ∧ ∀ H', Same H H' → Q (.bl (g d)) H'
abbrev a_is_whole : Stmt := topS 2
abbrev n_is_whole : List Str := ["thing"]
theorem sc_is_whole : FnScope n_is_whole ["thing"] (defScope a_is_whole) := ⟨rfl, rfl, rfl, by decide +kernel, rfl, by decide +kernel, by decide +kernel⟩
set_option maxHeartbeats 8000000 in
theorem ok_is_whole {f  : Addr} {fd  : FuncData} {k : Nat}  (F : Fun K "is_whole" "is_whole" a_is_whole f fd)   (m_bool : mg "bool" = none) (m_int : mg "int" = none) (m_isinstance : mg "isinstance" = none) : FnOk P w K mg base CX0 (k + 1) f fd ["thing"] (spLook wholeD) := by
  refine F.ok sc_is_whole (fun vs H Q E h => ?_) (fun cdv A outer s H vs Q E hr h => ?_)
  · obtain ⟨n, v, d, rfl, _⟩ := h
    rfl
  · obtain ⟨n, v, d, rfl, hd, q⟩ := h
    refine ⟨_, (pss_one (ps_ret (pe_and (pe_callB call_isiD (by rfl) m_isinstance (by decide +kernel) (pa_cons (pv 0) (pa_cons (pe_bltn (v := .ty "int") (u := .type "int") (by rfl) m_int (by decide +kernel) rfl) pa_nil))) (pe_one (pe_not (pe_callB call_isiD (by rfl) m_isinstance (by decide +kernel) (pa_cons (pv 0) (pa_cons (pe_bltn (v := .ty "bool") (u := .type "bool") (by rfl) m_bool (by decide +kernel) rfl) pa_nil)))))))), ?_⟩
    refine ⟨v, rfl, n, v, d, "int", _, rfl, hd, kit_int d, _, rfl, ?_⟩
    cases hd with
    | int i => exact iteT ⟨_, rfl, n, _, _, "bool", _, rfl, .int i, kit_bool _, _, rfl, q H (Same.refl H)⟩
    | bl b => exact iteT ⟨_, rfl, n, _, _, "bool", _, rfl, .bl b, kit_bool _, _, rfl, q H (Same.refl H)⟩
    | _ => exact iteF (q H (Same.refl H))
abbrev a_is_count : Stmt := topS 4
abbrev n_is_count : List Str := ["thing"]
theorem sc_is_count : FnScope n_is_count ["thing"] (defScope a_is_count) := ⟨rfl, rfl, rfl, by decide +kernel, rfl, by decide +kernel, by decide +kernel⟩
set_option maxHeartbeats 8000000 in
theorem ok_is_count {f fWh : Addr} {fd fdWh : FuncData} {k : Nat}  (F : Fun K "is_count" "is_count" a_is_count f fd) (Wh : Kn P w K mg base 1 "is_whole" ["thing"] (spLook wholeD) fWh fdWh)   : FnOk P w K mg base CX0 (k + 2) f fd ["thing"] (spLook countD) := by
  refine F.ok sc_is_count (fun vs H Q E h => ?_) (fun cdv A outer s H vs Q E hr h => ?_)
  · obtain ⟨n, v, d, rfl, _⟩ := h
    rfl
  · obtain ⟨n, v, d, rfl, hd, q⟩ := h
    refine ⟨_, (pss_one (ps_ret (pe_and (pe_kn Wh hr (by omega) (pa_cons (pv 0) pa_nil)) (pe_one (pe_cmpR op_ge (pv 0) pe_int (nomark _)))))), ?_⟩
    refine ⟨v, rfl, n, v, d, rfl, hd, fun H1 s1 => ⟨_, rfl, ?_⟩⟩
    cases hd with
    | int i => exact iteT ⟨_, rfl, i, 0, rfl, rfl, q H1 s1⟩
    | _ => exact iteF (q H1 s1)
abbrev a_is_wish : Stmt := topS 5
abbrev n_is_wish : List Str := ["thing", "number", "standing", "place"]
theorem sc_is_wish : FnScope n_is_wish ["thing"] (defScope a_is_wish) := ⟨rfl, rfl, rfl, by decide +kernel, rfl, by decide +kernel, by decide +kernel⟩
set_option maxHeartbeats 8000000 in
theorem ok_is_wish {f fWh fCo : Addr} {fd fdWh fdCo : FuncData} {k : Nat} {t1 : Tok} (F : Fun K "is_wish" "is_wish" a_is_wish f fd) (Wh : Kn P w K mg base 1 "is_whole" ["thing"] (spLook wholeD) fWh fdWh) (Co : Kn P w K mg base 2 "is_count" ["thing"] (spLook countD) fCo fdCo) (gv1 : mg "MOST_THINGS" = some (.int 12 t1)) (m_all : mg "all" = none) (m_isinstance : mg "isinstance" = none) (m_len : mg "len" = none) (m_tuple : mg "tuple" = none) : FnOk P w K mg base CX0 (k + 3) f fd ["thing"] (spLook wishD) := by
  refine F.ok sc_is_wish (fun vs H Q E h => ?_) (fun cdv A outer s H vs Q E hr h => ?_)
  · obtain ⟨n, v, d, rfl, _⟩ := h
    rfl
  · obtain ⟨n, v, d, rfl, hd, q⟩ := h
    refine ⟨_, (pss_cons (ps_if (PW.pt (pw_or (pt_not (pt_val (pe_callB call_isiD (by rfl) m_isinstance (by decide +kernel) (pa_cons (pv 0) (pa_cons (pe_bltn (v := .ty "tuple") (u := .type "tuple") (by rfl) m_tuple (by decide +kernel) rfl) pa_nil))))) (pw_or1 (pt_cmpR op_ne (pe_callB call_len_seq (by rfl) m_len (by decide +kernel) (pa_cons (pv 0) pa_nil)) pe_int (nomark _))))) (pss_one (ps_ret pe_bl)) pss_nil)
      (pss_cons (ps_asg (pv 0) (pg_tup rfl (pgs_cons (pg_name (i := 1) sc_is_wish.nd rfl (.inl rfl)) (pgs_cons (pg_name (i := 2) sc_is_wish.nd rfl (.inl rfl)) pgs_nil))))
      (pss_cons (ps_if (PW.pt (pw_or (pt_not (pt_val (pe_kn Wh hr (by omega) (pa_cons (pv 1) pa_nil)))) (pw_or1 (pt_cmpR op_lt (pv 1) pe_int (nomark _))))) (pss_one (ps_ret pe_bl)) pss_nil)
      (pss_cons (ps_if (PW.pt (pw_or (pt_not (pt_val (pe_callB call_isiD (by rfl) m_isinstance (by decide +kernel) (pa_cons (pv 2) (pa_cons (pe_bltn (v := .ty "tuple") (u := .type "tuple") (by rfl) m_tuple (by decide +kernel) rfl) pa_nil))))) (pw_or1 (pt_not (pt_chain op_le op_le pe_int (pe_callB call_len_seq (by rfl) m_len (by decide +kernel) (pa_cons (pv 2) pa_nil)) (pe_glob (v := .int 12) rfl gv1 ⟨_, rfl⟩)))))) (pss_one (ps_ret pe_bl)) pss_nil)
      (pss_one (ps_ret (pe_callB (cr_all rfl) (by rfl) m_all (by decide +kernel) (pa_cons (
        pe_lc (own := [("place", 3)]) (g := (gName 3)) (tt := tYes) (te := (tCall (spLook countD) [] E0 (tCons (tVar 3) tNil))) rfl sc_is_wish.nd (pi_tup (pv 2)) (blkOk_by (N := n_is_wish) (sc := defScope a_is_wish) (by decide +kernel))
          (fun _ _ _ _ _ => (pg_name (i := 3) sc_is_wish.nd rfl (.inl rfl) (hf := .inr rfl))) (fun _ _ _ _ _ => pts_nil) (fun _ _ _ _ _ => (pe_kn Co hr (by omega) (pa_cons (pv 3) pa_nil)))) pa_nil)))))))), ?_⟩
    rcases tup_or d with ⟨ds, rfl⟩ | hn
    · cases hd with
      | tup e ha =>
      rename_i a xs
      have ll := ha.len
      refine ⟨_, rfl, n, _, _, "tuple", _, rfl, .tup e ha, kit_tup _, _, rfl, iteF ⟨_, rfl, a, xs, rfl, .inr (.inl (.inl e)), rfl, _, rfl, ite2 (fun c => ?_) (fun c => ?_)⟩⟩
      · have c' : ¬ ds.length = 2 := fun z => by rw [ll, z] at c; exact absurd c (by decide)
        have : wishD (.tuple ds) = false := by simp [wishD, c']
        rw [this] at q
        exact q H (Same.refl H)
      · have c' : ds.length = 2 := Classical.byContradiction fun z => c (by
          have : ¬ ((xs.length : Int) = 2) := by omega
          simp [this])
        match ds, c', ha with
        | [d0, d1], _, .cons h0 (.cons h1 .nil) =>
        rename_i v0 v1
        have eW : wishD (.tuple [d0, d1]) = (posD d0 && standD d1) := by simp [wishD]
        rw [eW] at q
        refine ⟨_, rfl, a, _, rfl, .inl (.inl e), rfl, _, _, rfl, _, _, rfl, rfl, ?_⟩
        refine ⟨_, rfl, n, _, d0, rfl, h0, fun H1 s1 => ⟨_, rfl, ?_⟩⟩
        cases h0 with
        | int i =>
          refine iteF ⟨_, rfl, i, 1, rfl, rfl, _, rfl, ite2 (fun c => ?_) (fun c => ?_)⟩
          · have : posD (.int i) = false := decide_eq_false (by have := of_decide_eq_true c; omega)
            rw [this] at q
            exact q H1 s1
          · have : posD (.int i) = true := decide_eq_true (by have := of_decide_eq_false (Bool.eq_false_iff.mpr c); omega)
            rw [this, Bool.true_and] at q
            rcases tup_or d1 with ⟨ps, rfl⟩ | hn
            · cases h1 with
              | tup e1 h2 =>
              rename_i b ys
              have l2 := h2.len
              have e1' := s1 _ _ e1
              refine ⟨_, rfl, n, _, _, "tuple", _, rfl, (Da.tup e1 h2).same s1, kit_tup _, _, rfl, iteF ⟨_, rfl, b, ys, rfl, .inr (.inl (.inl e1')), 1, _, rfl, rfl, _, rfl, ?_⟩⟩
              have eS : standD (.tuple ps) = ((decide (1 ≤ ps.length) && decide (ps.length ≤ 12)) && ps.all countD) := rfl
              rw [eS] at q
              refine ite2 (fun c1 => ⟨_, 12, rfl, rfl, _, rfl, ?_⟩) (fun c1 => ?_)
              · have c1' := of_decide_eq_true c1
                refine ite2 (fun c2 => ?_) (fun c2 => ?_)
                · have c2' : ¬ ps.length ≤ 12 := fun z => by
                    have : ((ys.length : Int) ≤ 12) := by omega
                    simp [this] at c2
                  rw [decide_eq_false c2', Bool.and_false, Bool.false_and] at q
                  exact q H1 s1
                · have c2' : ps.length ≤ 12 := Classical.byContradiction fun z => c2 (by
                    have : ¬ ((ys.length : Int) ≤ 12) := by omega
                    simp [this])
                  rw [decide_eq_true c2', decide_eq_true (show 1 ≤ ps.length by omega), Bool.true_and, Bool.true_and] at q
                  refine ⟨_, rfl, b, rfl, ⟨_, .inl (.inl e1')⟩, fun D nD => lc_it (walk_tup (xs := ys)) (fun i H' => Same H1 H' ∧ H' D = some (.lst (((ps.take i).map countD).map V.bl))) ⟨same_new nD, upd_same⟩ (fun i H' _ p => .inl (.inl (p.1 _ _ e1'))) (fun i v H2 H3 hi p y => ?_) (fun H' p => ?_)⟩
                  · obtain ⟨sm, eD⟩ := p
                    obtain ⟨rfl, gv⟩ := y
                    obtain ⟨dd, ed, hdd⟩ := h2.get i v gv
                    refine ⟨wipe1, _, rfl, n, v, dd, rfl, (hdd.same s1).same sm, fun H4 s4 => ⟨_, s4 _ _ eD, ?_, same_over (sm.trans s4) nD, ?_⟩⟩
                    · rw [List.length_map, List.length_map, List.length_take]
                      exact small1000 (by omega)
                    · rw [upd_same, all_take countD ps i dd ed]
                  · obtain ⟨sm, eD⟩ := p
                    rw [show ys.length = ps.length from l2, List.take_length] at eD
                    refine ⟨D, _, rfl, .inl (.inl eD), ?_⟩
                    rw [all_id]
                    exact q H' (s1.trans sm)
              · have c1' : ¬ 1 ≤ ps.length := fun z => c1 (decide_eq_true (by omega))
                refine ⟨false, rfl, iteT ?_⟩
                rw [decide_eq_false c1', Bool.false_and, Bool.false_and] at q
                exact q H1 s1
            · have t := (not_tup hn).2.2
              refine ⟨_, rfl, n, _, d1, "tuple", _, rfl, h1.same s1, kit_tup d1, _, rfl, ?_⟩
              rw [hn]
              rw [t] at q
              exact iteT (q H1 s1)
        | _ => exact iteT (q H1 s1)
    · have t := (not_tup hn).1
      refine ⟨_, rfl, n, _, d, "tuple", _, rfl, hd, kit_tup d, _, rfl, ?_⟩
      rw [hn]
      rw [t] at q
      exact iteT (q H (Same.refl H))
abbrev a_is_letter : Stmt := topS 6
abbrev n_is_letter : List Str := ["thing", "word", "rule", "count", "wish"]
theorem sc_is_letter : FnScope n_is_letter ["thing"] (defScope a_is_letter) := ⟨rfl, rfl, rfl, by decide +kernel, rfl, by decide +kernel, by decide +kernel⟩
set_option maxHeartbeats 8000000 in
theorem ok_is_letter {f fCo fWi : Addr} {fd fdCo fdWi : FuncData} {k : Nat}  (F : Fun K "is_letter" "is_letter" a_is_letter f fd) (Co : Kn P w K mg base 2 "is_count" ["thing"] (spLook countD) fCo fdCo) (Wi : Kn P w K mg base 3 "is_wish" ["thing"] (spLook wishD) fWi fdWi)  (m_isinstance : mg "isinstance" = none) (m_len : mg "len" = none) (m_str : mg "str" = none) (m_tuple : mg "tuple" = none) : FnOk P w K mg base CX0 (k + 4) f fd ["thing"] (spLook letterD) := by
  refine F.ok sc_is_letter (fun vs H Q E h => ?_) (fun cdv A outer s H vs Q E hr h => ?_)
  · obtain ⟨n, v, d, rfl, _⟩ := h
    rfl
  · obtain ⟨n, v, d, rfl, hd, q⟩ := h
    refine ⟨_, (pss_cons (ps_if (PW.pt (pw_or (pt_not (pt_val (pe_callB call_isiD (by rfl) m_isinstance (by decide +kernel) (pa_cons (pv 0) (pa_cons (pe_bltn (v := .ty "tuple") (u := .type "tuple") (by rfl) m_tuple (by decide +kernel) rfl) pa_nil))))) (pw_or (pt_cmpR op_notIn_seq (pe_callB call_len_seq (by rfl) m_len (by decide +kernel) (pa_cons (pv 0) pa_nil)) (pe_tup (pa_cons pe_int (pa_cons pe_int pa_nil))) (by rfl)) (pw_or1 (pt_not (pt_val (pe_callB call_isiD (by rfl) m_isinstance (by decide +kernel) (pa_cons (pe_ix ix_tup (pv 0) pe_int (fun _ _ => rfl)) (pa_cons (pe_bltn (v := .ty "str") (u := .type "str") (by rfl) m_str (by decide +kernel) rfl) pa_nil))))))))) (pss_one (ps_ret pe_bl)) pss_nil)
      (pss_cons (ps_if (pt_cmpR op_eq (pe_callB call_len_seq (by rfl) m_len (by decide +kernel) (pa_cons (pv 0) pa_nil)) pe_int (nomark _)) (pss_one (ps_ret (pe_and (pe_cmpR op_eq (pe_ix ix_tup (pv 0) pe_int (fun _ _ => rfl)) pe_str (nomark _)) (pe_one (pe_kn Wi hr (by omega) (pa_cons (pe_ix ix_tup (pv 0) pe_int (fun _ _ => rfl)) pa_nil)))))) pss_nil)
      (pss_cons (ps_asg (pv 0) (pg_tup rfl (pgs_cons (pg_name (i := 1) sc_is_letter.nd rfl (.inl rfl)) (pgs_cons (pg_name (i := 2) sc_is_letter.nd rfl (.inl rfl)) (pgs_cons (pg_name (i := 3) sc_is_letter.nd rfl (.inl rfl)) (pgs_cons (pg_name (i := 4) sc_is_letter.nd rfl (.inl rfl)) pgs_nil))))))
      (pss_cons (ps_if (PW.pt (pw_or (pt_cmpR op_notIn_seq (pv 1) (pe_tup (pa_cons pe_str (pa_cons pe_str pa_nil))) (by rfl)) (pw_or (pt_not (pt_val (pe_kn Co hr (by omega) (pa_cons (pv 2) pa_nil)))) (pw_or1 (pt_not (pt_val (pe_kn Co hr (by omega) (pa_cons (pv 3) pa_nil)))))))) (pss_one (ps_ret pe_bl)) pss_nil)
      (pss_one (ps_ret (pe_or (pe_cmpR op_isN (pv 4) pe_non (nomark _)) (pe_one (pe_kn Wi hr (by omega) (pa_cons (pv 4) pa_nil)))))))))), ?_⟩
    rcases tup_or d with ⟨ds, rfl⟩ | hn
    · cases hd with
      | tup e ha =>
      rename_i a xs
      have ll := ha.len
      have fl : [V.int 2, V.int 4].all flatV = true := by decide
      refine ⟨_, rfl, n, _, _, "tuple", _, rfl, .tup e ha, kit_tup _, _, rfl, iteF ⟨_, rfl, a, xs, rfl, .inr (.inl (.inl e)), (show 2 ≤ sizeLine by decide), fun t nt => ?_⟩⟩
      have st := same_new (o := HO.tup [V.int 2, V.int 4]) nt
      have e1 := st _ _ e
      have inV2 : inV (V.int xs.length) [V.int 2, V.int 4] = (decide (ds.length = 2) || decide (ds.length = 4)) := by
        rw [ll, inV_int2, Bool.eq_iff_iff]
        simp
        omega
      refine ⟨t, _, rfl, .inr (.inl (.inl upd_same)), rfl, fl, _, rfl, ite2 (fun c => ?_) (fun c => ?_)⟩
      · have c' : (!inV (V.int xs.length) [V.int 2, V.int 4]) = true := c
        rw [inV2] at c'
        simp at c'
        have : letterD (.tuple ds) = false := by simp [letterD, c'.1, c'.2]
        rw [this] at q
        exact q _ st
      · have c' : ¬ (!inV (V.int xs.length) [V.int 2, V.int 4]) = true := c
        rw [inV2] at c'
        simp at c'
        have h24 : ds.length = 2 ∨ ds.length = 4 := by omega
        have g0 : ∃ v0, xs[0]? = some v0 ∧ Da n H v0 (ds.getD 0 .none) := by
          have lt : 0 < xs.length := by omega
          obtain ⟨d0, e0, h0⟩ := ha.get 0 _ (List.getElem?_eq_getElem lt)
          exact ⟨_, List.getElem?_eq_getElem lt, by rw [List.getD_eq_getElem?_getD, e0]; exact h0⟩
        obtain ⟨v0, x0, h0⟩ := g0
        refine ⟨_, rfl, a, xs, 0, v0, rfl, rfl, .inl (.inl e1), atI_nat (j := 0) x0, n, v0, _, "str", _, rfl, h0.same st, kit_str _, _, rfl, ?_⟩
        have out : isStrD (ds.getD 0 .none) = false → letterD (.tuple ds) = false := fun h => by
          have a1 : ∀ z, strIs z (ds.getD 0 .none) = false := fun z => by
            cases hz : ds.getD 0 .none <;> first | rfl | (rw [hz] at h; cases h)
          simp only [letterD, a1, Bool.false_and, Bool.or_self, Bool.and_false]
          split <;> rfl
        cases hs : isStrD (ds.getD 0 .none) with
        | false =>
          rw [out hs] at q
          exact iteT (q _ st)
        | true =>
          refine iteF ?_
          obtain ⟨z, hz⟩ : ∃ z, ds.getD 0 .none = .str z := by
            cases hz : ds.getD 0 .none with
            | str z => exact ⟨z, rfl⟩
            | _ => rw [hz] at hs; cases hs
          rw [hz] at h0
          cases h0
          refine ⟨_, rfl, a, xs, rfl, .inr (.inl (.inl e1)), rfl, _, rfl, ite2 (fun c2 => ?_) (fun c2 => ?_)⟩
          · have l2 : ds.length = 2 := by
              have := of_decide_eq_true c2
              rw [ll] at this
              have := V.int.inj this
              omega
            match ds, l2, ha, hz with
            | [d0, d1], _, .cons h0 (.cons h1 .nil), hz =>
            rename_i w0 w1
            have hz' : d0 = .str z := hz
            subst hz'
            cases h0
            have eL : letterD (.tuple [.str z, d1]) = (decide (z = "word") && wishD d1) := by simp [letterD, strIs]
            rw [eL] at q
            refine ⟨_, rfl, a, _, 0, _, rfl, rfl, .inl (.inl e1), atI_nat (j := 0) rfl, rfl, _, rfl, ite2 (fun c3 => ?_) (fun c3 => ?_)⟩
            · have c3' : z = "word" := V.str.inj (of_decide_eq_true c3)
              rw [decide_eq_true c3', Bool.true_and] at q
              exact ⟨_, rfl, a, _, 1, _, rfl, rfl, .inl (.inl e1), atI_nat (j := 1) rfl, n, _, d1, rfl, h1.same st, fun H1 s1 => q H1 (st.trans s1)⟩
            · have c3' : ¬ z = "word" := fun hh => c3 (decide_eq_true (congrArg V.str hh))
              rw [decide_eq_false c3', Bool.false_and] at q
              exact q _ st
          · have l4 : ds.length = 4 := by
              rcases h24 with h | h
              · exfalso
                refine c2 (decide_eq_true ?_)
                rw [ll, h]
                rfl
              · exact h
            match ds, l4, ha, hz with
            | [d0, d1, d2, d3], _, .cons h0 (.cons h1 (.cons h2 (.cons h3 .nil))), hz =>
            rename_i w0 w1 w2 w3
            have hz' : d0 = .str z := hz
            subst hz'
            cases h0
            have eL : letterD (.tuple [.str z, d1, d2, d3]) = ((decide (z = "ask") || decide (z = "leave")) && ((countD d1 && countD d2) && (noneD d3 || wishD d3))) := by simp [letterD, strIs]
            rw [eL] at q
            refine ⟨_, rfl, a, _, rfl, .inl (.inl e1), rfl, _, _, rfl, _, _, rfl, _, _, rfl, _, _, rfl, rfl, ?_⟩
            refine ⟨_, rfl, (show 2 ≤ sizeLine by decide), fun t2 nt2 => ?_⟩
            have s2 := st.trans (same_new (o := HO.tup [V.str "ask", V.str "leave"]) nt2)
            have fl2 : [V.str "ask", V.str "leave"].all flatV = true := by decide
            have inS : inV (V.str z) [V.str "ask", V.str "leave"] = (decide (z = "ask") || decide (z = "leave")) := inV_str2 _ _ _
            refine ⟨t2, _, rfl, .inr (.inl (.inl upd_same)), rfl, fl2, _, rfl, ite2 (fun c3 => ?_) (fun c3 => ?_)⟩
            · have c3' : (!inV (V.str z) [V.str "ask", V.str "leave"]) = true := c3
              rw [inS] at c3'
              have c4 : (decide (z = "ask") || decide (z = "leave")) = false := by simpa using c3'
              rw [c4, Bool.false_and] at q
              exact q _ s2
            · have c3' : ¬ (!inV (V.str z) [V.str "ask", V.str "leave"]) = true := c3
              rw [inS] at c3'
              have c4 : (decide (z = "ask") || decide (z = "leave")) = true := by
                cases hh : (decide (z = "ask") || decide (z = "leave")) with
                | true => rfl
                | false => rw [hh] at c3'; exact absurd rfl c3'
              rw [c4, Bool.true_and] at q
              refine ⟨_, rfl, n, _, d1, rfl, h1.same s2, fun H3 s3 => ⟨_, rfl, ?_⟩⟩
              cases k1 : countD d1 with
              | false =>
                rw [k1, Bool.false_and, Bool.false_and] at q
                exact iteT (q _ (s2.trans s3))
              | true =>
                refine iteF ⟨_, rfl, n, _, d2, rfl, h2.same (s2.trans s3), fun H4 s4 => ⟨_, rfl, ?_⟩⟩
                have s04 := (s2.trans s3).trans s4
                rw [k1, Bool.true_and] at q
                cases k2 : countD d2 with
                | false =>
                  rw [k2, Bool.false_and] at q
                  exact iteT (q _ s04)
                | true =>
                  refine iteF ⟨_, rfl, rfl, _, rfl, ?_⟩
                  rw [k2, Bool.true_and] at q
                  cases h3 with
                  | non => exact iteT (q _ s04)
                  | bl b => exact iteF ⟨_, rfl, n, _, _, rfl, .bl b, fun H5 s5 => q H5 (s04.trans s5)⟩
                  | int i => exact iteF ⟨_, rfl, n, _, _, rfl, .int i, fun H5 s5 => q H5 (s04.trans s5)⟩
                  | str x => exact iteF ⟨_, rfl, n, _, _, rfl, .str x, fun H5 s5 => q H5 (s04.trans s5)⟩
                  | lst a1 a2 a3 a4 => exact iteF ⟨_, rfl, n, _, _, rfl, (Da.lst a1 a2 a3 a4).same s04, fun H5 s5 => q H5 (s04.trans s5)⟩
                  | tup a1 a2 => exact iteF ⟨_, rfl, n, _, _, rfl, (Da.tup a1 a2).same s04, fun H5 s5 => q H5 (s04.trans s5)⟩
                  | dct a1 a2 => exact iteF ⟨_, rfl, n, _, _, rfl, (Da.dct a1 a2).same s04, fun H5 s5 => q H5 (s04.trans s5)⟩
    · have t := (not_tup hn).2.1
      refine ⟨_, rfl, n, _, d, "tuple", _, rfl, hd, kit_tup d, _, rfl, ?_⟩
      rw [hn]
      rw [t] at q
      exact iteT (q H (Same.refl H))
end
end K58

set_option Elab.async false
set_option linter.all false
set_option maxRecDepth 100000
namespace K58
open PySem PySem.Spec PyProof.Rows L2 NB

/-! ### data and pots -/
theorem PotAt.lst {H : Hp} {a : Addr} {c : Nat} (h : PotAt H a c) : ∃ zs, H a = some (.lst zs) := by
  obtain ⟨p, q, r, e, _⟩ := h
  exact ⟨_, e⟩
theorem da_but {a : Addr} {H H' : Hp} {c : Nat} {v : V} {d : PyData} (h : Da a H v d) (p : PotAt H a c) (b : But a H H') : Da a H' v d := Da.keep p.lst b d v h
theorem daAll_but {a : Addr} {H H' : Hp} {c : Nat} {vs : List V} {ds : List PyData} (h : DaAll a H vs ds) (p : PotAt H a c) (b : But a H H') : DaAll a H' vs ds := DaAll.keep p.lst b ds vs h
theorem new_tup {n t : Addr} {H : Hp} {xs : List V} {ds : List PyData} (nt : H t = none) (h : DaAll n H xs ds) : Same H (upd H t (.tup xs)) ∧ Da n (upd H t (.tup xs)) (.ref t) (.tuple ds) := ⟨same_new nt, .tup upd_same (h.same (same_new nt))⟩
theorem new_lst {n t : Addr} {H : Hp} {xs : List V} {ds : List PyData} {c : Nat} (nt : H t = none) (ns : t ≠ sysModules) (p : PotAt H n c) (h : DaAll n H xs ds) : Same H (upd H t (.lst xs)) ∧ Da n (upd H t (.lst xs)) (.ref t) (.list ds) := ⟨same_new nt, .lst upd_same ns (p.ne nt) (h.same (same_new nt))⟩
theorem new_dct {n t : Addr} {H : Hp} (nt : H t = none) : Same H (upd H t (.dK [])) ∧ Da n (upd H t (.dK [])) (.ref t) (.dict []) := ⟨same_new nt, .dct upd_same .nil⟩
theorem but_same {a : Addr} {H H' H'' : Hp} (b : But a H H') (s : Same H' H'') : But a H H'' := b.trans (But.of s)
theorem wt_at {ds : List PyData} {i : Nat} {d : PyData} (h : ds[i]? = some d) : PyData.weightAll ds = PyData.weightAll (ds.take i) + (d.weight + 1) + PyData.weightAll (ds.drop (i + 1)) := by
  have hi := (List.getElem?_eq_some_iff.mp h).1
  have e : ds = ds.take i ++ (d :: ds.drop (i + 1)) := by
    have e2 := (List.getElem?_eq_some_iff.mp h).2
    rw [← e2, ← List.drop_eq_getElem_cons hi, List.take_append_drop]
  have := wt_app (ds.take i) (d :: ds.drop (i + 1))
  rw [← e] at this
  simp only [PyData.weightAll] at this
  omega
theorem wt_two (ds : List PyData) (i : Nat) : PyData.weightAll ds = PyData.weightAll (ds.take i) + PyData.weightAll (ds.drop i) := by
  have := wt_app (ds.take i) (ds.drop i)
  rw [List.take_append_drop] at this
  exact this
theorem SmE.mono {ds : List PyData} {k m : Nat} (h : SmE ds k) (le : k ≤ m) : SmE ds m := fun d hd => ⟨(h d hd).1, Nat.le_trans (h d hd).2.1 le, (h d hd).2.2⟩
theorem SmE.app {ds es : List PyData} {k : Nat} (h : SmE ds k) (h' : SmE es k) : SmE (ds ++ es) k := fun d hd => by
  rcases List.mem_append.mp hd with q | q
  · exact h d q
  · exact h' d q
theorem SmE.take {ds : List PyData} {k : Nat} (h : SmE ds k) (i : Nat) : SmE (ds.take i) k := fun d hd => h d (List.mem_of_mem_take hd)
theorem SmE.drop {ds : List PyData} {k : Nat} (h : SmE ds k) (i : Nat) : SmE (ds.drop i) k := fun d hd => h d (List.mem_of_mem_drop hd)
theorem SmE.one {d : PyData} {w k : Nat} (h : Sm d w k) : SmE [d] k := fun x hx => by
  rw [List.mem_singleton.mp hx]
  exact h.e
theorem SmE.ints {xs : List Int} (h : ∀ x ∈ xs, x.natAbs < 10 ^ 90) : SmE (xs.map PyData.int) 0 := fun d hd => by
  obtain ⟨x, hx, rfl⟩ := List.mem_map.mp hd
  exact (Sm.int (h x hx)).e
theorem wt_ints : ∀ {xs : List Int}, (∀ x ∈ xs, x.natAbs < 10 ^ 90) → PyData.weightAll (xs.map PyData.int) ≤ 311 * xs.length
  | [], _ => Nat.le_refl _
  | x :: xs, h => by
    have a := (Sm.int (h x List.mem_cons_self)).wt
    have b := wt_ints fun y hy => h y (List.mem_cons_of_mem _ hy)
    simp only [List.map_cons, PyData.weightAll, List.length_cons]
    omega

/-! ### one thing at another place: t[:i] + (x,) + t[i + 1:] -/
theorem cut_to {K : PySem.W.Frag} {H : Hp} {p : Addr} {vs : List V} {c : Nat} {Q : VK} (h : H p = some (.tup vs)) (hc : c ≤ vs.length) (q : ∀ g H', Same H H' → H' g = some (.tup (vs.take c)) → Q (.ref g) H') : rSlA K (.ref p) none (some (c : Int)) H Q := by
  have e1 : HT.sIx vs.length vs.length (some (c : Int)) = c := by
    rw [HT.sIx_nat]
    omega
  refine ⟨p, _, rfl, .inl (.inl h), fun w => ?_, fun w g ng => ?_⟩
  · rw [e1] at w
    refine q p H (Same.refl H) ?_
    rw [List.take_of_length_le (by omega)]
    exact h
  · refine q g _ (same_new ng) ?_
    rw [upd_same]
    unfold cutV
    rw [e1, HT.sIx_none, List.drop_zero]
    rfl
theorem cut_from {K : PySem.W.Frag} {H : Hp} {p : Addr} {vs : List V} {c : Nat} {Q : VK} (h : H p = some (.tup vs)) (hc : c ≤ vs.length) (q : ∀ g H', Same H H' → H' g = some (.tup (vs.drop c)) → Q (.ref g) H') : rSlA K (.ref p) (some (c : Int)) none H Q := by
  have e1 : HT.sIx vs.length 0 (some (c : Int)) = c := by
    rw [HT.sIx_nat]
    omega
  refine ⟨p, _, rfl, .inl (.inl h), fun w => ?_, fun w g ng => ?_⟩
  · rw [e1] at w
    refine q p H (Same.refl H) ?_
    rw [w.1, List.drop_zero]
    exact h
  · refine q g _ (same_new ng) ?_
    rw [upd_same]
    unfold cutV
    rw [e1, HT.sIx_none, List.take_of_length_le (by rw [List.length_drop]; exact Nat.le_refl _)]
theorem cat_tups {K : PySem.W.Frag} {H : Hp} {a b : Addr} {xs ys : List V} {Q : VK} (ha : H a = some (.tup xs)) (hb : H b = some (.tup ys)) (hz : xs.length + ys.length ≤ sizeLine) (q : ∀ g H', Same H H' → H' g = some (.tup (xs ++ ys)) → Q (.ref g) H') : rCatA K (.ref a) (.ref b) H Q := by
  refine ⟨a, b, xs, ys, rfl, rfl, .inl (.inl ha), .inl (.inl hb), hz, fun e => ?_, fun _ e => ?_, fun _ _ g ng => q g _ (same_new ng) upd_same⟩
  · subst e
    exact q b H (Same.refl H) hb
  · subst e
    exact q a H (Same.refl H) (by rw [List.append_nil]; exact ha)
abbrev tMoved (K : PySem.W.Frag) (a i x : Nat) : TE := tOp (rCatA K) (tOp (rCatA K) (tSl (rSlA K) (tVar a) tNoPart (tPart (tVar i))) (tTup (tCons (tVar x) tNil))) (tSl (rSlA K) (tVar a) (tPart (tOp (rI0 fun i j => .int (i + j)) (tVar i) (tC (.int 1)))) tNoPart)
theorem set_cut {α : Type} {xs : List α} {n : Nat} {v : α} (h : n < xs.length) : (xs.take n ++ [v]) ++ xs.drop (n + 1) = xs.set n v := by
  rw [List.set_eq_take_append_cons_drop, if_pos h, List.append_assoc]
  rfl
theorem moved_val {K : PySem.W.Frag} {σ : L2.St} {H : Hp} {Q : VK} {a i x n : Nat} {p : Addr} {v : Int} {xs : List Int} (ha : σ[a]? = some (some (.ref p))) (hi : σ[i]? = some (some (.int (n : Int)))) (hx : σ[x]? = some (some (.int v))) (e : H p = some (.tup (xs.map V.int))) (hn : n < xs.length) (l12 : xs.length ≤ 12)
    (q : ∀ g H', Same H H' → H' g = some (.tup ((xs.set n v).map V.int)) → Q (.ref g) H') : tMoved K a i x σ H Q := by
  have lm : (xs.map V.int).length = xs.length := List.length_map _
  refine ⟨.ref p, ha, ?_⟩
  show tNoPart _ _ _
  unfold tNoPart
  refine ⟨.int n, hi, n, rfl, cut_to e (by omega) fun g1 H1 s1 e1 => ?_⟩
  refine ⟨.int v, hx, (show 1 ≤ sizeLine by decide), fun g2 n2 => ?_⟩
  have s2 := same_new (o := HO.tup [V.int v]) n2
  refine cat_tups (s2 _ _ e1) upd_same (Nat.le_of_lt (small1000 (by rw [List.length_take]; simp only [List.length_cons, List.length_nil]; omega))) fun g3 H3 s3 e3 => ?_
  have s03 := (s1.trans s2).trans s3
  refine ⟨.ref p, ha, .int n, hi, n, 1, rfl, rfl, n + 1, by rfl, ?_⟩
  show rSlA _ _ (some ((n : Int) + 1)) none _ _
  have ec : ((n : Int) + 1) = ((n + 1 : Nat) : Int) := by omega
  rw [ec]
  refine cut_from (s03 _ _ e) (by omega) fun g4 H4 s4 e4 => ?_
  refine cat_tups (s4 _ _ e3) e4 (Nat.le_of_lt (small1000 (by rw [List.length_append, List.length_take, List.length_drop]; simp only [List.length_cons, List.length_nil]; omega))) fun g5 H5 s5 e5 => ?_
  refine q g5 H5 ((s03.trans s4).trans s5) ?_
  rw [e5, set_cut (by omega), List.map_set]

/-! ### the draws of letters and of what is none -/
theorem nat90 {i : Int} (h0 : 0 ≤ i) (h1 : i < 10 ^ 30) : i.natAbs < 10 ^ 90 := by
  have : (i.natAbs : Int) < 10 ^ 30 := by omega
  have e : ((10 ^ 30 : Nat) : Int) = (10 : Int) ^ 30 := by decide
  have : i.natAbs < 10 ^ 30 := by omega
  exact Nat.lt_of_lt_of_le this (by decide)
section
variable {P : Program} {w : World} {K : PySem.W.Frag} {mg : Str → Option Value} {base : Heap}
def spNum : Sp := fun vs H Q _ => ∃ (a : Addr) (c : Nat), vs = [.ref a] ∧ PotAt H a c ∧ c < 990000 ∧ ∀ i H', But a H H' → PotAt H' a (c + 2) → 0 ≤ i → i < 10 ^ 30 → Q (.int i) H'
abbrev a__law_number : Stmt := topS 12
abbrev n__law_number : List Str := ["_law_pot_here"]
theorem sc__law_number : FnScope n__law_number ["_law_pot_here"] (defScope a__law_number) := ⟨rfl, rfl, rfl, by decide +kernel, rfl, by decide +kernel, by decide +kernel⟩
set_option maxHeartbeats 8000000 in
theorem ok__law_number {f fO fT : Addr} {fd fdO fdT : FuncData} {k : Nat}  (F : Fun K "_law_number" "_law_number" a__law_number f fd) (O : Kn P w K mg base 2 "_law_of" ["_law_pot_here", "_law_some"] (spOf K) fO fdO) (T : Kn P w K mg base 1 "_law_take" ["_law_pot_here", "_law_many"] spTake fT fdT)   : FnOk P w K mg base CX0 (k + 3) f fd ["_law_pot_here"] spNum := by
  refine F.ok sc__law_number (fun vs H Q E h => ?_) (fun cdv A outer s H vs Q E hr h => ?_)
  · obtain ⟨a, c, rfl, _⟩ := h
    rfl
  · obtain ⟨a, c, rfl, pa, hc, q⟩ := h
    refine ⟨_, (pss_one (ps_ret (pe_kn O hr (by omega) (pa_cons (pv 0) (pa_cons (pe_lst (pa_cons pe_int (pa_cons pe_int (pa_cons pe_int (pa_cons pe_int (pa_cons (pe_kn T hr (by omega) (pa_cons (pv 0) (pa_cons pe_int pa_nil))) (pa_cons (pe_op op_sub (pe_op op_pow pe_int pe_int) pe_int) (pa_cons (pe_op op_pow pe_int pe_int) pa_nil)))))))) pa_nil))))), ?_⟩
    refine ⟨.ref a, rfl, .ref a, rfl, a, 1000, c, rfl, pa, by decide, by decide, by omega, fun d H1 b1 p1 d0 d1 => ?_⟩
    refine ⟨10, 30, rfl, rfl, ⟨by decide, by decide, by decide⟩, _, 1, rfl, rfl, 10, 29, rfl, rfl, ⟨by decide, by decide, by decide⟩, (show 7 ≤ sizeLine by decide), fun l nl => ?_⟩
    have nla := p1.ne nl
    refine ⟨a, l, _, c + 1, rfl, pot_upd p1 nla, nla, .inl (.inl (.inl upd_same)), (show 1 ≤ 7 by decide), (show 7 ≤ 1000000 by decide), by omega, fun x H2 hx b2 p2 => ?_⟩
    have hx' : ∃ i : Int, x = .int i ∧ 0 ≤ i ∧ i < 10 ^ 30 := by
      simp only [List.mem_cons, List.not_mem_nil, or_false] at hx
      rcases hx with rfl | rfl | rfl | rfl | rfl | rfl | rfl
      · exact ⟨_, rfl, by decide, by decide⟩
      · exact ⟨_, rfl, by decide, by decide⟩
      · exact ⟨_, rfl, by decide, by decide⟩
      · exact ⟨_, rfl, by decide, by decide⟩
      · exact ⟨_, rfl, d0, Int.lt_trans d1 (by decide)⟩
      · exact ⟨_, rfl, by decide, by decide⟩
      · exact ⟨_, rfl, by decide, by decide⟩
    obtain ⟨i, rfl, i0, i1⟩ := hx'
    exact q i H2 (fun b o ne e => b2 b o ne (same_new nl _ _ (b1 b o ne e))) p2 i0 i1
/-- some data -/
def spSome (B n w k : Nat) : Sp := fun vs H Q _ => ∃ (a : Addr) (c : Nat), vs = [.ref a] ∧ PotAt H a c ∧ c < B ∧ ∀ v d H', But a H H' → PotAt H' a (c + n) → Da a H' v d → Sm d w k → Q v H'
abbrev a__law_wish : Stmt := topS 13
abbrev n__law_wish : List Str := ["_law_pot_here", "_law_many", "_law_place"]
theorem sc__law_wish : FnScope n__law_wish ["_law_pot_here"] (defScope a__law_wish) := ⟨rfl, rfl, rfl, by decide +kernel, rfl, by decide +kernel, by decide +kernel⟩
set_option maxHeartbeats 8000000 in
theorem ok__law_wish {f fO fT fNu : Addr} {fd fdO fdT fdNu : FuncData} {k : Nat}  (F : Fun K "_law_wish" "_law_wish" a__law_wish f fd) (O : Kn P w K mg base 2 "_law_of" ["_law_pot_here", "_law_some"] (spOf K) fO fdO) (T : Kn P w K mg base 1 "_law_take" ["_law_pot_here", "_law_many"] spTake fT fdT) (Nu : Kn P w K mg base 3 "_law_number" ["_law_pot_here"] spNum fNu fdNu)  (m_range : mg "range" = none) (m_tuple : mg "tuple" = none) : FnOk P w K mg base CX0 (k + 4) f fd ["_law_pot_here"] (spSome 980000 40 5000 2) := by
  refine F.ok sc__law_wish (fun vs H Q E h => ?_) (fun cdv A outer s H vs Q E hr h => ?_)
  · obtain ⟨a, c, rfl, _⟩ := h
    rfl
  · obtain ⟨a, c, rfl, pa, hc, q⟩ := h
    refine ⟨_, (pss_cons (ps_if (pt_cmpR op_eq (pe_kn T hr (by omega) (pa_cons (pv 0) (pa_cons pe_int pa_nil))) pe_int (nomark _)) (pss_one (ps_ret pe_non)) pss_nil)
      (pss_cons (ps_set (i := 1) sc__law_wish.nd rfl (.inl rfl) (pe_kn O hr (by omega) (pa_cons (pv 0) (pa_cons (pe_lst (pa_cons pe_int (pa_cons pe_int (pa_cons (pe_op op_add pe_int (pe_kn T hr (by omega) (pa_cons (pv 0) (pa_cons pe_int pa_nil)))) (pa_cons pe_int pa_nil))))) pa_nil))))
      (pss_one (ps_ret (pe_tup (pa_cons (pe_kn Nu hr (by omega) (pa_cons (pv 0) pa_nil)) (pa_cons (pe_callTy call_tuple_of (by rfl) m_tuple (by decide +kernel) (pa_cons (
        pe_lc (own := [("_law_place", 2)]) (g := (gName 2)) (tt := tYes) (te := (tCall spNum [] E0 (tCons (tVar 0) tNil))) rfl sc__law_wish.nd (pi_range1 (by rfl) m_range (pa_cons (pv 1) pa_nil)) (blkOk_by (N := n__law_wish) (sc := defScope a__law_wish) (by decide +kernel))
          (fun _ _ _ _ _ => (pg_name (i := 2) sc__law_wish.nd rfl (.inl rfl) (hf := .inr rfl))) (fun _ _ _ _ _ => pts_nil) (fun _ _ _ _ _ => (pe_kn Nu hr (by omega) (pa_cons (pv 0) pa_nil)))) pa_nil)) pa_nil))))))), ?_⟩
    refine ⟨.ref a, rfl, a, 5, c, rfl, pa, by decide, by decide, by omega, fun d H1 b1 p1 d0 d1 => ⟨rfl, _, rfl, ite2 (fun _ => ?_) (fun _ => ?_)⟩⟩
    · exact q _ _ H1 b1 (p1.mono (by omega)) .non (Sm.none.mono (by decide) (by decide))
    · refine ⟨.ref a, rfl, .ref a, rfl, a, 12, _, rfl, p1, by decide, by decide, by omega, fun m H2 b2 p2 m0 m1 => ⟨1, m, rfl, rfl, (show 4 ≤ sizeLine by decide), fun l nl => ?_⟩⟩
      have nla := p2.ne nl
      refine ⟨a, l, _, _, rfl, pot_upd p2 nla, nla, .inl (.inl (.inl upd_same)), (show 1 ≤ 4 by decide), (show 4 ≤ 1000000 by decide), by omega, fun x H3 hx b3 p3 => ?_⟩
      have hx' : ∃ i : Int, x = .int i ∧ 1 ≤ i ∧ i ≤ 12 := by
        simp only [List.mem_cons, List.not_mem_nil, or_false] at hx
        rcases hx with rfl | rfl | rfl | rfl
        · exact ⟨_, rfl, by decide, by decide⟩
        · exact ⟨_, rfl, by decide, by decide⟩
        · exact ⟨_, rfl, by omega, by omega⟩
        · exact ⟨_, rfl, by decide, by decide⟩
      obtain ⟨i, rfl, i0, i1⟩ := hx'
      have b03 : But a H H3 := fun b o ne e => b3 b o ne (same_new nl _ _ (b2 b o ne (b1 b o ne e)))
      refine ⟨.ref a, rfl, a, _, rfl, p3, by omega, fun u H4 b4 p4 u0 u1 => ?_⟩
      refine ⟨_, rfl, i, rfl, by omega, by omega, fun D nD => lc_it walk_range (fun j H' => But a H4 H' ∧ PotAt H' a (c + 1 + 1 + 1 + 2 + 2 * j) ∧ ∃ ts : List Int, H' D = some (.lst (ts.map V.int)) ∧ ts.length = j ∧ ∀ t ∈ ts, 0 ≤ t ∧ t < 10 ^ 30)
        ⟨but_new (fun _ _ _ e => e) nD, pot_upd p4 (p4.ne nD), [], upd_same, rfl, fun _ h => absurd h List.not_mem_nil⟩ (fun _ _ _ _ => trivial) (fun j v H5 H6 hj p y => ?_) (fun H5 p => ?_)⟩
      · obtain ⟨b5, p5, ts, eD, tl, tp⟩ := p
        obtain ⟨rfl, rfl⟩ := y
        have nDa : D ≠ a := p4.ne nD
        refine ⟨wipe1, .ref a, rfl, a, _, rfl, p5, by omega, fun t H7 b7 p7 t0 t1 => ?_⟩
        refine ⟨_, b7 _ _ nDa eD, by rw [List.length_map]; exact small1000 (by omega), but_new (b5.trans b7) nD, pot_upd (p7.mono (by omega)) nDa, ts ++ [t], ?_, by rw [List.length_append, tl]; rfl, fun y hy => ?_⟩
        · rw [upd_same, List.map_append]
          rfl
        · rcases List.mem_append.mp hy with h | h
          · exact tp y h
          · rw [List.mem_singleton.mp h]
            exact ⟨t0, t1⟩
      · obtain ⟨b5, p5, ts, eD, tl, tp⟩ := p
        refine ⟨D, _, rfl, .inl ⟨.inl (.inl eD), fun R nR => ?_⟩⟩
        have nRa : R ≠ a := p5.ne nR
        obtain ⟨s1, D1⟩ := new_tup (n := a) nR (DaAll.ints ts)
        have p6 := p5.keep s1
        generalize upd H5 R (.tup (ts.map V.int)) = H6 at s1 D1 p6 ⊢
        refine ⟨(show 2 ≤ sizeLine by decide), fun R2 nR2 => ?_⟩
        obtain ⟨s2, D2⟩ := new_tup (n := a) nR2 (.cons (.int u) (.cons D1 .nil))
        have h90 : ∀ x ∈ ts, x.natAbs < 10 ^ 90 := fun x hx => nat90 (tp x hx).1 (tp x hx).2
        have wi := wt_ints h90
        have su := Sm.int (nat90 u0 u1)
        have st : Sm (.tuple (ts.map PyData.int)) (311 * ts.length) 1 := Sm.tup (SmE.ints h90) wi
        have b06 := ((b03.trans b4).trans b5).trans (But.of s1)
        refine q _ _ _ (but_same b06 s2) ((p6.keep s2).mono (by omega)) D2 (Sm.tup (k := 1) ?_ ?_)
        · refine SmE.app (SmE.one (su.mono (Nat.le_refl _) (by decide))) (SmE.one st)
        · have a1 := su.wt
          have a2 := st.wt
          simp only [PyData.weightAll]
          omega
abbrev a__law_letter : Stmt := topS 14
abbrev n__law_letter : List Str := ["_law_pot_here", "_law_word"]
theorem sc__law_letter : FnScope n__law_letter ["_law_pot_here"] (defScope a__law_letter) := ⟨rfl, rfl, rfl, by decide +kernel, rfl, by decide +kernel, by decide +kernel⟩
set_option maxHeartbeats 8000000 in
theorem ok__law_letter {f fO fNu fLw : Addr} {fd fdO fdNu fdLw : FuncData} {k : Nat}  (F : Fun K "_law_letter" "_law_letter" a__law_letter f fd) (O : Kn P w K mg base 2 "_law_of" ["_law_pot_here", "_law_some"] (spOf K) fO fdO) (Nu : Kn P w K mg base 3 "_law_number" ["_law_pot_here"] spNum fNu fdNu) (Lw : Kn P w K mg base 4 "_law_wish" ["_law_pot_here"] (spSome 980000 40 5000 2) fLw fdLw)   : FnOk P w K mg base CX0 (k + 5) f fd ["_law_pot_here"] (spSome 970000 60 6000 3) := by
  refine F.ok sc__law_letter (fun vs H Q E h => ?_) (fun cdv A outer s H vs Q E hr h => ?_)
  · obtain ⟨a, c, rfl, _⟩ := h
    rfl
  · obtain ⟨a, c, rfl, pa, hc, q⟩ := h
    refine ⟨_, (pss_cons (ps_set (i := 1) sc__law_letter.nd rfl (.inl rfl) (pe_kn O hr (by omega) (pa_cons (pv 0) (pa_cons (pe_lst (pa_cons pe_str (pa_cons pe_str (pa_cons pe_str pa_nil)))) pa_nil))))
      (pss_cons (ps_if (pt_cmpR op_eq (pv 1) pe_str (nomark _)) (pss_one (ps_ret (pe_tup (pa_cons (pv 1) (pa_cons (pe_kn Lw hr (by omega) (pa_cons (pv 0) pa_nil)) pa_nil))))) pss_nil)
      (pss_one (ps_ret (pe_tup (pa_cons (pv 1) (pa_cons (pe_kn Nu hr (by omega) (pa_cons (pv 0) pa_nil)) (pa_cons (pe_kn Nu hr (by omega) (pa_cons (pv 0) pa_nil)) (pa_cons (pe_kn Lw hr (by omega) (pa_cons (pv 0) pa_nil)) pa_nil))))))))), ?_⟩
    refine ⟨.ref a, rfl, (show 3 ≤ sizeLine by decide), fun l nl => ?_⟩
    have nla := pa.ne nl
    refine ⟨a, l, _, _, rfl, pot_upd pa nla, nla, .inl (.inl (.inl upd_same)), (show 1 ≤ 3 by decide), (show 3 ≤ 1000000 by decide), by omega, fun x H1 hx b1 p1 => ?_⟩
    have b01 : But a H H1 := fun b o ne e => b1 b o ne (same_new nl _ _ e)
    have hx' : ∃ z : Str, x = .str z ∧ Sm (.str z) 10 0 := by
      simp only [List.mem_cons, List.not_mem_nil, or_false] at hx
      rcases hx with rfl | rfl | rfl
      · exact ⟨_, rfl, ⟨rfl, Nat.le_refl _, by decide +kernel, by decide +kernel⟩⟩
      · exact ⟨_, rfl, ⟨rfl, Nat.le_refl _, by decide +kernel, by decide +kernel⟩⟩
      · exact ⟨_, rfl, ⟨rfl, Nat.le_refl _, by decide +kernel, by decide +kernel⟩⟩
    obtain ⟨z, rfl, sz⟩ := hx'
    have wz := sz.wt
    refine ⟨_, rfl, rfl, _, rfl, ite2 (fun _ => ?_) (fun _ => ?_)⟩
    · refine ⟨_, rfl, .ref a, rfl, a, _, rfl, p1, by omega, fun v d H2 b2 p2 D2 S2 => ⟨(show 2 ≤ sizeLine by decide), fun R nR => ?_⟩⟩
      obtain ⟨s3, D3⟩ := new_tup (n := a) nR (.cons (.str z) (.cons D2 .nil))
      have w2 := S2.wt
      refine q _ _ _ (but_same (b01.trans b2) s3) ((p2.keep s3).mono (by omega)) D3 (Sm.tup (k := 2) (SmE.app (SmE.one (sz.mono (Nat.le_refl _) (by decide))) (SmE.one S2)) ?_)
      simp only [PyData.weightAll]
      omega
    · refine ⟨_, rfl, .ref a, rfl, a, _, rfl, p1, by omega, fun i H2 b2 p2 i0 i1 => ⟨.ref a, rfl, a, _, rfl, p2, by omega, fun j H3 b3 p3 j0 j1 => ⟨.ref a, rfl, a, _, rfl, p3, by omega, fun v d H4 b4 p4 D4 S4 => ⟨(show 4 ≤ sizeLine by decide), fun R nR => ?_⟩⟩⟩⟩
      obtain ⟨s5, D5⟩ := new_tup (n := a) nR (.cons (.str z) (.cons (.int i) (.cons (.int j) (.cons D4 .nil))))
      have w4 := S4.wt
      have si := Sm.int (nat90 i0 i1)
      have sj := Sm.int (nat90 j0 j1)
      have wi := si.wt
      have wj := sj.wt
      refine q _ _ _ (but_same (((b01.trans b2).trans b3).trans b4) s5) ((p4.keep s5).mono (by omega)) D5 (Sm.tup (k := 2) (SmE.app (SmE.one (sz.mono (Nat.le_refl _) (by decide))) (SmE.app (SmE.one (si.mono (Nat.le_refl _) (by decide))) (SmE.app (SmE.one (sj.mono (Nat.le_refl _) (by decide))) (SmE.one S4)))) ?_)
      simp only [PyData.weightAll]
      omega
abbrev a__law_odd : Stmt := topS 15
abbrev n__law_odd : List Str := ["_law_pot_here", "_law_some", "_law_thing", "_law_turn"]
theorem sc__law_odd : FnScope n__law_odd ["_law_pot_here"] (defScope a__law_odd) := ⟨rfl, rfl, rfl, by decide +kernel, rfl, by decide +kernel, by decide +kernel⟩
set_option maxHeartbeats 8000000 in
theorem ok__law_odd {f fO fT : Addr} {fd fdO fdT : FuncData} {k : Nat}  (F : Fun K "_law_odd" "_law_odd" a__law_odd f fd) (O : Kn P w K mg base 2 "_law_of" ["_law_pot_here", "_law_some"] (spOf K) fO fdO) (T : Kn P w K mg base 1 "_law_take" ["_law_pot_here", "_law_many"] spTake fT fdT)  (m_range : mg "range" = none) : FnOk P w K mg base CX0 (k + 3) f fd ["_law_pot_here"] (spSome 970000 20 1200 12) := by
  refine F.ok sc__law_odd (fun vs H Q E h => ?_) (fun cdv A outer s H vs Q E hr h => ?_)
  · obtain ⟨a, c, rfl, _⟩ := h
    rfl
  · obtain ⟨a, c, rfl, pa, hc, q⟩ := h
    refine ⟨_, (pss_cons (ps_set (i := 1) sc__law_odd.nd rfl (.inl rfl) (pe_lstN (pa_cons pe_non (pa_cons pe_bl (pa_cons pe_bl (pa_cons pe_int (pa_cons pe_int (pa_cons (pe_un un_neg pe_int) (pa_cons pe_str (pa_cons pe_str (pa_cons pe_str (pa_cons pe_str (pa_cons (pe_tup pa_nil) (pa_cons (pe_lstN pa_nil) (pa_cons pe_dnewK (pa_cons (pe_tup (pa_cons pe_int pa_nil)) (pa_cons (pe_tup (pa_cons pe_int (pa_cons (pe_tup (pa_cons pe_int pa_nil)) pa_nil))) (pa_cons (pe_tup (pa_cons pe_int (pa_cons (pe_tup (pa_cons pe_int pa_nil)) pa_nil))) pa_nil))))))))))))))))))
      (pss_cons (ps_set (i := 2) sc__law_odd.nd rfl (.inl rfl) (pe_kn O hr (by omega) (pa_cons (pv 0) (pa_cons (pe_op op_cat (pv 1) (pe_lstN (pa_cons (pe_tup (pa_cons pe_int (pa_cons (pe_tup pa_nil) pa_nil))) (pa_cons (pe_tup (pa_cons pe_int (pa_cons (pe_op (op_repT (X := _)) (pe_tup (pa_cons pe_int pa_nil)) pe_int) pa_nil))) (pa_cons (pe_lstN (pa_cons pe_int (pa_cons (pe_tup (pa_cons pe_int pa_nil)) pa_nil))) (pa_cons (pe_tup (pa_cons pe_int (pa_cons (pe_lstN (pa_cons pe_int pa_nil)) pa_nil))) (pa_cons (pe_op op_pow pe_int pe_int) pa_nil))))))) pa_nil))))
      (pss_cons (ps_for PassesOwn.never rfl (pi_range1 (by rfl) m_range (pa_cons (pe_kn O hr (by omega) (pa_cons (pv 0) (pa_cons (pe_lstN (pa_cons pe_int (pa_cons pe_int (pa_cons pe_int (pa_cons pe_int (pa_cons pe_int pa_nil)))))) pa_nil))) pa_nil)) (pg_name (i := 3) sc__law_odd.nd rfl (.inl rfl))
        (pss_one (ps_set (i := 2) sc__law_odd.nd rfl (.inl rfl) (pe_ix ix_list (pe_lstN (pa_cons (pe_tup (pa_cons (pv 2) pa_nil)) (pa_cons (pe_lstN (pa_cons (pv 2) pa_nil)) (pa_cons (pe_tup (pa_cons pe_str (pa_cons (pv 2) pa_nil))) pa_nil)))) (pe_kn T hr (by omega) (pa_cons (pv 0) (pa_cons pe_int pa_nil))) (fun _ _ => rfl)))))
      (pss_one (ps_ret (pv 2)))))), ?_⟩
    have z0 : (0 : Nat) ≤ sizeLine := by decide
    have z1 : (1 : Nat) ≤ sizeLine := by decide
    have z2 : (2 : Nat) ≤ sizeLine := by decide
    refine ⟨1, rfl, z0, fun t1 n1 => ?_⟩
    obtain ⟨s1, D1⟩ := new_tup (n := a) n1 .nil
    have p1 := pa.keep s1
    generalize upd H t1 (.tup []) = H1 at s1 D1 p1 ⊢
    refine ⟨z0, fun t2 n2 m2 => ?_⟩
    obtain ⟨s2, D2⟩ := new_lst n2 m2 p1 .nil
    have p2 := p1.keep s2
    generalize upd H1 t2 (.lst []) = H2 at s2 D2 p2 ⊢
    refine fun t3 n3 => ?_
    obtain ⟨s3, D3⟩ := new_dct (n := a) n3
    have p3 := p2.keep s3
    generalize upd H2 t3 (.dK []) = H3 at s3 D3 p3 ⊢
    refine ⟨z1, fun t4 n4 => ?_⟩
    obtain ⟨s4, D4⟩ := new_tup (n := a) n4 (.cons (.int 1) .nil)
    have p4 := p3.keep s4
    generalize upd H3 t4 (.tup [.int 1]) = H4 at s4 D4 p4 ⊢
    refine ⟨z1, fun t5 n5 => ?_⟩
    obtain ⟨s5, D5⟩ := new_tup (n := a) n5 (.cons (.int 0) .nil)
    have p5 := p4.keep s5
    generalize upd H4 t5 (.tup [.int 0]) = H5 at s5 D5 p5 ⊢
    refine ⟨z2, fun t6 n6 => ?_⟩
    obtain ⟨s6, D6⟩ := new_tup (n := a) n6 (.cons (.int 1) (.cons D5 .nil))
    have p6 := p5.keep s6
    generalize upd H5 t6 (.tup [.int 1, .ref t5]) = H6 at s6 D6 p6 ⊢
    refine ⟨z1, fun t7 n7 => ?_⟩
    obtain ⟨s7, D7⟩ := new_tup (n := a) n7 (.cons (.int 0) .nil)
    have p7 := p6.keep s7
    generalize upd H6 t7 (.tup [.int 0]) = H7 at s7 D7 p7 ⊢
    refine ⟨z2, fun t8 n8 => ?_⟩
    obtain ⟨s8, D8⟩ := new_tup (n := a) n8 (.cons (.int 0) (.cons D7 .nil))
    have p8 := p7.keep s8
    generalize upd H7 t8 (.tup [.int 0, .ref t7]) = H8 at s8 D8 p8 ⊢
    refine ⟨(show 16 ≤ sizeLine by decide), fun L nL mL => ?_⟩
    have s9 := same_new (o := HO.lst [V.non, .bl true, .bl false, .int 0, .int 1, .int (-1), .str "", .str "ask", .str "Ask", .str "words", .ref t1, .ref t2, .ref t3, .ref t4, .ref t6, .ref t8]) nL
    have eL : (upd H8 L (HO.lst [V.non, .bl true, .bl false, .int 0, .int 1, .int (-1), .str "", .str "ask", .str "Ask", .str "words", .ref t1, .ref t2, .ref t3, .ref t4, .ref t6, .ref t8])) L = some (HO.lst [V.non, .bl true, .bl false, .int 0, .int 1, .int (-1), .str "", .str "ask", .str "Ask", .str "words", .ref t1, .ref t2, .ref t3, .ref t4, .ref t6, .ref t8]) := upd_same
    have p9 := p8.keep s9
    have nLa := p8.ne nL
    generalize upd H8 L (HO.lst [V.non, .bl true, .bl false, .int 0, .int 1, .int (-1), .str "", .str "ask", .str "Ask", .str "words", .ref t1, .ref t2, .ref t3, .ref t4, .ref t6, .ref t8]) = H9 at s9 eL p9 ⊢
    -- of each of these it is told what data it is
    have D1' := ((((((((D1.same s2).same s3).same s4).same s5).same s6).same s7).same s8).same s9)
    have D2' := (((((((D2.same s3).same s4).same s5).same s6).same s7).same s8).same s9)
    have D3' := ((((((D3.same s4).same s5).same s6).same s7).same s8).same s9)
    have D4' := (((((D4.same s5).same s6).same s7).same s8).same s9)
    have D6' := (((D6.same s7).same s8).same s9)
    have D8' := D8.same s9
    clear D1 D2 D3 D4 D5 D6 D7 D8
    have s09 := (((((((s1.trans s2).trans s3).trans s4).trans s5).trans s6).trans s7).trans s8).trans s9
    refine ⟨.ref a, rfl, .ref L, rfl, ?_⟩
    refine ⟨z0, fun u1 m1 => ?_⟩
    obtain ⟨r1, E1⟩ := new_tup (n := a) m1 .nil
    have q1 := p9.keep r1
    generalize upd H9 u1 (.tup []) = G1 at r1 E1 q1 ⊢
    refine ⟨z2, fun u2 m2 => ?_⟩
    obtain ⟨r2, E2⟩ := new_tup (n := a) m2 (.cons (.int 1) (.cons E1 .nil))
    have q2 := q1.keep r2
    generalize upd G1 u2 (.tup [.int 1, .ref u1]) = G2 at r2 E2 q2 ⊢
    refine ⟨z1, fun u3 m3 => ?_⟩
    have r3 := same_new (o := HO.tup [V.int 0]) m3
    have e3 : (upd G2 u3 (.tup [V.int 0])) u3 = some (.tup [V.int 0]) := upd_same
    have q3 := q2.keep r3
    generalize upd G2 u3 (.tup [V.int 0]) = G3 at r3 e3 q3 ⊢
    refine ⟨u3, 13, _, rfl, rfl, .inl (.inl e3), by simp, by decide, by decide, by decide, fun u4 m4 => ?_⟩
    have rep : (List.replicate (13 : Int).toNat [V.int 0]).flatten = (List.replicate 13 (0 : Int)).map V.int := by decide +kernel
    rw [rep]
    obtain ⟨r4, E4⟩ := new_tup (n := a) m4 (DaAll.ints (List.replicate 13 0))
    have q4 := q3.keep r4
    generalize upd G3 u4 (.tup ((List.replicate 13 (0 : Int)).map V.int)) = G4 at r4 E4 q4 ⊢
    refine ⟨z2, fun u5 m5 => ?_⟩
    obtain ⟨r5, E5⟩ := new_tup (n := a) m5 (.cons (.int 2) (.cons E4 .nil))
    have q5 := q4.keep r5
    generalize upd G4 u5 (.tup [.int 2, .ref u4]) = G5 at r5 E5 q5 ⊢
    refine ⟨z1, fun u6 m6 => ?_⟩
    obtain ⟨r6, E6⟩ := new_tup (n := a) m6 (.cons (.int 0) .nil)
    have q6 := q5.keep r6
    generalize upd G5 u6 (.tup [.int 0]) = G6 at r6 E6 q6 ⊢
    refine ⟨z2, fun u7 m7 k7 => ?_⟩
    obtain ⟨r7, E7⟩ := new_lst m7 k7 q6 (.cons (.int 1) (.cons E6 .nil))
    have q7 := q6.keep r7
    generalize upd G6 u7 (.lst [.int 1, .ref u6]) = G7 at r7 E7 q7 ⊢
    refine ⟨z1, fun u8 m8 k8 => ?_⟩
    obtain ⟨r8, E8⟩ := new_lst m8 k8 q7 (.cons (.int 0) .nil)
    have q8 := q7.keep r8
    generalize upd G7 u8 (.lst [.int 0]) = G8 at r8 E8 q8 ⊢
    refine ⟨z2, fun u9 m9 => ?_⟩
    obtain ⟨r9, E9⟩ := new_tup (n := a) m9 (.cons (.int 1) (.cons E8 .nil))
    have q9 := q8.keep r9
    generalize upd G8 u9 (.tup [.int 1, .ref u8]) = G9 at r9 E9 q9 ⊢
    refine ⟨10, 29, rfl, rfl, ⟨by decide, by decide, by decide⟩, (show 5 ≤ sizeLine by decide), fun M nM mM => ?_⟩
    have r10 := same_new (o := HO.lst [V.ref u2, .ref u5, .ref u7, .ref u9, .int (10 ^ (29 : Int).toNat)]) nM
    have eM : (upd G9 M (HO.lst [V.ref u2, .ref u5, .ref u7, .ref u9, .int (10 ^ (29 : Int).toNat)])) M = some (HO.lst [V.ref u2, .ref u5, .ref u7, .ref u9, .int (10 ^ (29 : Int).toNat)]) := upd_same
    have q10 := q9.keep r10
    generalize upd G9 M (HO.lst [V.ref u2, .ref u5, .ref u7, .ref u9, .int (10 ^ (29 : Int).toNat)]) = G10 at r10 eM q10 ⊢
    have r09 := ((((((((r1.trans r2).trans r3).trans r4).trans r5).trans r6).trans r7).trans r8).trans r9).trans r10
    have E2' := (((((((E2.same r3).same r4).same r5).same r6).same r7).same r8).same r9).same r10
    have E5' := ((((E5.same r6).same r7).same r8).same r9).same r10
    have E7' := ((E7.same r8).same r9).same r10
    have E9' := E9.same r10
    clear E1 E2 E4 E5 E6 E7 E8 E9
    refine ⟨L, M, _, _, rfl, rfl, r09 _ _ eL, eM, (show 16 + 5 ≤ sizeLine by decide), fun N nN => ?_⟩
    have nNa := q10.ne nN
    have sN := same_new (o := HO.lst ([V.non, .bl true, .bl false, .int 0, .int 1, .int (-1), .str "", .str "ask", .str "Ask", .str "words", .ref t1, .ref t2, .ref t3, .ref t4, .ref t6, .ref t8] ++ [V.ref u2, .ref u5, .ref u7, .ref u9, .int (10 ^ (29 : Int).toNat)])) nN
    refine ⟨a, N, _, _, rfl, q10.keep sN, nNa, .inl (.inl (.inl upd_same)), (show 1 ≤ 21 by decide), (show 21 ≤ 1000000 by decide), by omega, fun x H11 hx b11 p11 => ?_⟩
    have bo : But a G10 H11 := fun b o ne e => b11 b o ne (sN _ _ e)
    have hx' : ∃ d, Da a G10 x d ∧ Sm d 1100 3 := by
      simp only [List.cons_append, List.nil_append, List.mem_cons, List.not_mem_nil, or_false] at hx
      rcases hx with rfl | rfl | rfl | rfl | rfl | rfl | rfl | rfl | rfl | rfl | rfl | rfl | rfl | rfl | rfl | rfl | rfl | rfl | rfl | rfl | rfl
      · exact ⟨_, .non, Sm.none.mono (by decide) (by decide)⟩
      · exact ⟨_, .bl _, (Sm.bool _).mono (by decide) (by decide)⟩
      · exact ⟨_, .bl _, (Sm.bool _).mono (by decide) (by decide)⟩
      · exact ⟨_, .int _, (Sm.int (by decide)).mono (by decide) (by decide)⟩
      · exact ⟨_, .int _, (Sm.int (by decide)).mono (by decide) (by decide)⟩
      · exact ⟨_, .int _, (Sm.int (by decide)).mono (by decide) (by decide)⟩
      · exact ⟨_, .str _, ⟨rfl, by decide, by decide +kernel, by decide +kernel⟩⟩
      · exact ⟨_, .str _, ⟨rfl, by decide, by decide +kernel, by decide +kernel⟩⟩
      · exact ⟨_, .str _, ⟨rfl, by decide, by decide +kernel, by decide +kernel⟩⟩
      · exact ⟨_, .str _, ⟨rfl, by decide, by decide +kernel, by decide +kernel⟩⟩
      · exact ⟨_, D1'.same r09, ⟨rfl, by decide, by decide +kernel, by decide +kernel⟩⟩
      · exact ⟨_, D2'.same r09, ⟨rfl, by decide, by decide +kernel, by decide +kernel⟩⟩
      · exact ⟨_, D3'.same r09, ⟨rfl, by decide, by decide +kernel, by decide +kernel⟩⟩
      · exact ⟨_, D4'.same r09, ⟨by decide +kernel, by decide +kernel, by decide +kernel, by decide +kernel⟩⟩
      · exact ⟨_, D6'.same r09, ⟨by decide +kernel, by decide +kernel, by decide +kernel, by decide +kernel⟩⟩
      · exact ⟨_, D8'.same r09, ⟨by decide +kernel, by decide +kernel, by decide +kernel, by decide +kernel⟩⟩
      · exact ⟨_, E2', ⟨by decide +kernel, by decide +kernel, by decide +kernel, by decide +kernel⟩⟩
      · exact ⟨_, E5', ⟨by decide +kernel, by decide +kernel, by decide +kernel, by decide +kernel⟩⟩
      · exact ⟨_, E7', ⟨by decide +kernel, by decide +kernel, by decide +kernel, by decide +kernel⟩⟩
      · exact ⟨_, E9', ⟨by decide +kernel, by decide +kernel, by decide +kernel, by decide +kernel⟩⟩
      · exact ⟨_, .int _, (Sm.int (by decide)).mono (by decide) (by decide)⟩
    obtain ⟨dx, Dx, Sx⟩ := hx'
    have Dx' := da_but Dx q10 bo
    have b0 : But a H H11 := (But.of (s09.trans r09)).trans bo
    clear D1' D2' D3' D4' D6' D8' E2' E5' E7' E9'
    refine ⟨.ref a, rfl, (show 5 ≤ sizeLine by decide), fun O nO mO => ?_⟩
    have nOa := p11.ne nO
    refine ⟨a, O, _, _, rfl, pot_upd p11 nOa, nOa, .inl (.inl (.inl upd_same)), (show 1 ≤ 5 by decide), (show 5 ≤ 1000000 by decide), by omega, fun y H12 hy b12 p12 => ?_⟩
    have b1112 : But a H11 H12 := fun b o ne e => b12 b o ne (same_new nO _ _ e)
    have hy' : ∃ m : Int, y = .int m ∧ 0 ≤ m ∧ m ≤ 8 := by
      simp only [List.mem_cons, List.not_mem_nil, or_false] at hy
      rcases hy with rfl | rfl | rfl | rfl | rfl
      · exact ⟨_, rfl, by decide, by decide⟩
      · exact ⟨_, rfl, by decide, by decide⟩
      · exact ⟨_, rfl, by decide, by decide⟩
      · exact ⟨_, rfl, by decide, by decide⟩
      · exact ⟨_, rfl, by decide, by decide⟩
    obtain ⟨m, rfl, m0, m8⟩ := hy'
    refine ⟨m, rfl, by omega, by omega, for_it walk_range (fun i σ H' => (∃ (v : V) (d : PyData) (u3 : Option V), σ = [some (.ref a), some (.ref L), some v, u3] ∧ Da a H' v d ∧ Sm d (1100 + 10 * i) (3 + i)) ∧ But a H12 H' ∧ PotAt H' a (c + 1 + 1 + i))
      ⟨⟨x, dx, none, rfl, da_but Dx' p11 b1112, Sx⟩, (fun _ _ _ e => e), p12⟩ (fun _ _ _ _ _ => trivial) (fun i v σ H13' H13 hi p y => ?_) (fun σ H13 p => ?_)⟩
    · obtain ⟨⟨v', d', u3, rfl, Dv, Sv⟩, b13, p13⟩ := p
      obtain ⟨rfl, rfl⟩ := y
      have i8 : i < 8 := by omega
      have wv := Sv.wt
      refine ⟨v', rfl, z1, fun w1 l1 => ?_⟩
      obtain ⟨f1, F1⟩ := new_tup (n := a) l1 (.cons Dv .nil)
      have g1 := p13.keep f1
      have Dv1 := Dv.same f1
      generalize upd H13 w1 (.tup [v']) = I1 at f1 F1 g1 Dv1 ⊢
      refine ⟨v', rfl, z1, fun w2 l2 e2 => ?_⟩
      obtain ⟨f2, F2⟩ := new_lst l2 e2 g1 (.cons Dv1 .nil)
      have g2 := g1.keep f2
      have Dv2 := Dv1.same f2
      generalize upd I1 w2 (.lst [v']) = I2 at f2 F2 g2 Dv2 ⊢
      refine ⟨v', rfl, z2, fun w3 l3 => ?_⟩
      obtain ⟨f3, F3⟩ := new_tup (n := a) l3 (.cons (.str "word") (.cons Dv2 .nil))
      have g3 := g2.keep f3
      generalize upd I2 w3 (.tup [.str "word", v']) = I3 at f3 F3 g3 ⊢
      refine ⟨(show 3 ≤ sizeLine by decide), fun w4 l4 _ => ?_⟩
      have f4 := same_new (o := HO.lst [V.ref w1, .ref w2, .ref w3]) l4
      have e4 : (upd I3 w4 (HO.lst [V.ref w1, .ref w2, .ref w3])) w4 = some (HO.lst [V.ref w1, .ref w2, .ref w3]) := upd_same
      have g4 := g3.keep f4
      have n4 := g3.ne l4
      generalize upd I3 w4 (HO.lst [V.ref w1, .ref w2, .ref w3]) = I4 at f4 e4 g4 ⊢
      refine ⟨.ref a, rfl, a, 3, _, rfl, g4, by decide, by decide, by omega, fun z H14 b14 p14 z0' z3 => ?_⟩
      have F1' := da_but (((F1.same f2).same f3).same f4) g4 b14
      have F2' := da_but ((F2.same f3).same f4) g4 b14
      have F3' := da_but (F3.same f4) g4 b14
      have pick : ∃ v2 d2, atI [V.ref w1, .ref w2, .ref w3] z = some v2 ∧ Da a H14 v2 d2 ∧ Sm d2 (1100 + 10 * (i + 1)) (3 + (i + 1)) := by
        have : z = 0 ∨ z = 1 ∨ z = 2 := by omega
        rcases this with rfl | rfl | rfl
        · exact ⟨_, _, atI_nat (j := 0) rfl, F1', Sm.tup (SmE.one Sv) (by simp only [PyData.weightAll]; omega)⟩
        · exact ⟨_, _, atI_nat (j := 1) rfl, F2', Sm.lst (SmE.one Sv) (by simp only [PyData.weightAll]; omega)⟩
        · have sw : Sm (.str "word") 4 (3 + i) := ⟨rfl, Nat.zero_le _, by decide +kernel, by decide +kernel⟩
          exact ⟨_, _, atI_nat (j := 2) rfl, F3', Sm.tup (SmE.app (SmE.one sw) (SmE.one Sv)) (by have := sw.wt; simp only [PyData.weightAll]; omega)⟩
      obtain ⟨v2, d2, ez, Dz, Sz⟩ := pick
      refine ⟨w4, _, z, v2, rfl, rfl, .inl (.inl (b14 _ _ n4 e4)), ez, ?_⟩
      exact ⟨⟨v2, d2, _, rfl, Dz, Sz⟩, fun b o ne e => b14 b o ne (f4 _ _ (f3 _ _ (f2 _ _ (f1 _ _ (b13 b o ne e))))), p14.mono (by omega)⟩
    · obtain ⟨⟨v', d', u3, rfl, Dv, Sv⟩, b13, p13⟩ := p
      refine ⟨v', rfl, ?_⟩
      exact q v' d' H13 ((b0.trans b1112).trans b13) (p13.mono (by omega)) Dv (Sv.mono (by omega) (by omega))
end
end K58

set_option Elab.async false
set_option linter.all false
set_option maxRecDepth 100000
namespace K58
open PySem PySem.Spec PyProof.Rows L2 NB

/-! ### data bent anywhere -/
theorem PotAt.tup {H H' : Hp} {a g : Addr} {c : Nat} {xs : List V} (p : PotAt H a c) (b : But a H H') (e : H g = some (.tup xs)) : H' g = some (.tup xs) := by
  obtain ⟨_, _, _, ea, _⟩ := p
  exact b _ _ (ne_of e ea (by intro z; cases z)) e
theorem line_of {n : Nat} (h : n ≤ 300000) : n ≤ sizeLine := by
  rw [sizeLine_eq]
  omega
theorem dp_at {ds : List PyData} {i : Nat} {d : PyData} (h : ds[i]? = some d) : d.depth < (PyData.tuple ds).depth := by
  have : d.depth ≤ PyData.depthAll ds := ((smE_iff_depth ds _).mp (Nat.le_refl _)) d (List.mem_of_getElem? h)
  simp only [PyData.depth]
  omega
section
variable {P : Program} {w : World} {K : PySem.W.Frag} {mg : Str → Option Value} {base : Heap}
def spBent (k : Nat) : Sp := fun vs H Q _ => ∃ (a : Addr) (v : V) (d : PyData) (c w m : Nat), vs = [.ref a, v] ∧ PotAt H a c ∧ Da a H v d ∧ d.depth < k ∧ Sm d w m ∧ w ≤ 100000 ∧ c + 40 * k < 960000 ∧
  ∀ v' d' H', But a H H' → PotAt H' a (c + 40 * k) → Da a H' v' d' → Sm d' (w + 1300) (m + 13) → Q v' H'
abbrev a__law_bent : Stmt := topS 16
abbrev n__law_bent : List Str := ["_law_pot_here", "_law_thing", "_law_sort", "_law_at"]
theorem sc__law_bent : FnScope n__law_bent ["_law_pot_here", "_law_thing"] (defScope a__law_bent) := ⟨rfl, rfl, rfl, by decide +kernel, rfl, by decide +kernel, by decide +kernel⟩
set_option maxHeartbeats 8000000 in
theorem ok__law_bent {f fOd fT fBe : Addr} {fd fdOd fdT fdBe : FuncData} {k : Nat}  (F : Fun K "_law_bent" "_law_bent" a__law_bent f fd) (Od : Kn P w K mg base 3 "_law_odd" ["_law_pot_here"] (spSome 970000 20 1200 12) fOd fdOd) (T : Kn P w K mg base 1 "_law_take" ["_law_pot_here", "_law_many"] spTake fT fdT) (Be : Kn P w K mg base (k + 3) "_law_bent" ["_law_pot_here", "_law_thing"] (spBent k) fBe fdBe)  (m_isinstance : mg "isinstance" = none) (m_len : mg "len" = none) (m_list : mg "list" = none) (m_tuple : mg "tuple" = none) : FnOk P w K mg base CX0 (k + 4) f fd ["_law_pot_here", "_law_thing"] (spBent (k + 1)) := by
  refine F.ok sc__law_bent (fun vs H Q E h => ?_) (fun cdv A outer s H vs Q E hr h => ?_)
  · obtain ⟨a, v, d, c, w, m, rfl, _⟩ := h
    rfl
  · obtain ⟨a, v, d, c, w, m, rfl, pa, Dv, dk, Sv, hw, hc, q⟩ := h
    refine ⟨_, (pss_cons (ps_if (PW.pt (pw_or (pt_not (pt_val (pe_callB call_isiD (by rfl) m_isinstance (by decide +kernel) (pa_cons (pv 1) (pa_cons (pe_bltn (v := .ty "tuple") (u := .type "tuple") (by rfl) m_tuple (by decide +kernel) rfl) pa_nil))))) (pw_or1 (pt_cmpR (op_eq0 (Nat.lt_of_le_of_lt (Nat.le_add_right _ 64) hr.units)) (pv 1) (pe_tup pa_nil) (nomark _))))) (pss_one (ps_ret (pe_kn Od hr (by omega) (pa_cons (pv 0) pa_nil)))) pss_nil)
      (pss_cons (ps_par (i := 2) (j := 3) (by rfl) sc__law_bent.nd rfl rfl (by decide) rfl rfl (pa_cons (pe_kn T hr (by omega) (pa_cons (pv 0) (pa_cons pe_int pa_nil))) (pa_cons (pe_kn T hr (by omega) (pa_cons (pv 0) (pa_cons (pe_callB call_len_seq (by rfl) m_len (by decide +kernel) (pa_cons (pv 1) pa_nil)) pa_nil))) pa_nil)) (by rfl))
      (pss_cons (ps_if (pt_cmpR op_lt (pv 2) pe_int (nomark _)) (pss_one (ps_ret (pe_op (r := rCatA K) op_catA (pe_op (r := rCatA K) op_catA (pe_slice (r := rSlA K) sl_tupA (pv 1) po_none (po_some (pv 3))) (pe_tup (pa_cons (pe_kn Be hr (by omega) (pa_cons (pv 0) (pa_cons (pe_ix ix_tup (pv 1) (pv 3) (fun _ _ => rfl)) pa_nil))) pa_nil))) (pe_slice (r := rSlA K) sl_tupA (pv 1) (po_some (pe_op op_add (pv 3) pe_int)) po_none)))) pss_nil)
      (pss_cons (ps_if (pt_cmpR op_eq (pv 2) pe_int (nomark _)) (pss_one (ps_ret (pe_op (r := rCatA K) op_catA (pe_slice (r := rSlA K) sl_tupA (pv 1) po_none (po_some (pv 3))) (pe_slice (r := rSlA K) sl_tupA (pv 1) (po_some (pe_op op_add (pv 3) pe_int)) po_none)))) pss_nil)
      (pss_cons (ps_if (pt_cmpR op_eq (pv 2) pe_int (nomark _)) (pss_one (ps_ret (pe_op (r := rCatA K) op_catA (pe_op (r := rCatA K) op_catA (pe_slice (r := rSlA K) sl_tupA (pv 1) po_none (po_some (pv 3))) (pe_tup (pa_cons (pe_kn Od hr (by omega) (pa_cons (pv 0) pa_nil)) pa_nil))) (pe_slice (r := rSlA K) sl_tupA (pv 1) (po_some (pv 3)) po_none)))) pss_nil)
      (pss_cons (ps_if (pt_cmpR op_eq (pv 2) pe_int (nomark _)) (pss_one (ps_ret (pe_op (r := rCatA K) op_catA (pe_op (r := rCatA K) op_catA (pe_slice (r := rSlA K) sl_tupA (pv 1) po_none (po_some (pv 3))) (pe_tup (pa_cons (pe_kn Od hr (by omega) (pa_cons (pv 0) pa_nil)) pa_nil))) (pe_slice (r := rSlA K) sl_tupA (pv 1) (po_some (pe_op op_add (pv 3) pe_int)) po_none)))) pss_nil)
      (pss_one (ps_ret (pe_callTy call_list_ofN (by rfl) m_list (by decide +kernel) (pa_cons (pv 1) pa_nil)))))))))), ?_⟩
    have odd : ∀ (σ : L2.St) (H' : Hp), σ[0]? = some (some (.ref a)) → Same H H' → (tCall (spSome 970000 20 1200 12) [] E0 (tCons (tVar 0) tNil)) σ H' Q := fun σ H' e0 s' => by
      refine ⟨.ref a, e0, a, c, rfl, pa.keep s', by omega, fun v' d' H2 b2 p2 D2 S2 => ?_⟩
      exact q v' d' H2 ((But.of s').trans b2) (p2.mono (by omega)) D2 (S2.mono (by omega) (by omega))
    have z0 : (0 : Nat) ≤ sizeLine := by decide
    have z1 : (1 : Nat) ≤ sizeLine := by decide
    rcases tup_or d with ⟨ds, rfl⟩ | hn
    · cases Dv with
      | tup e ha =>
      rename_i t xs
      have ll := ha.len
      obtain ⟨j, rfl, hE, hW⟩ := Sv.of_tup
      have lw := wt_len ds
      refine ⟨_, rfl, a, _, _, "tuple", _, rfl, .tup e ha, kit_tup _, _, rfl, iteF ⟨_, rfl, z0, fun y ny => ?_⟩⟩
      have sy := same_new (o := HO.tup []) ny
      have ey : (upd H y (HO.tup [])) y = some (.tup []) := upd_same
      have py := pa.keep sy
      have e1 := sy _ _ e
      have ha1 := ha.same sy
      generalize upd H y (HO.tup []) = H1 at sy ey py e1 ha1 ⊢
      refine ⟨t, y, xs, rfl, rfl, .inl (.inl e1), .inl (.inl ey), _, rfl, ?_⟩
      cases hxs : xs.isEmpty with
      | true => exact iteT (odd _ _ rfl sy)
      | false =>
      have l1 : 1 ≤ ds.length := by
        rw [← ll]
        cases xs with
        | nil => cases hxs
        | cons _ _ => simp
      refine iteF ⟨.ref a, rfl, a, 7, c, rfl, py, by decide, by decide, by omega, fun so H2 b2 p2 so0 so7 => ⟨.ref a, rfl, _, rfl, t, xs, rfl, .inr (.inl (.inl (py.tup b2 e1))), a, _, _, rfl, p2, by omega, ?_, by omega, fun at' H3 b3 p3 at0 at1 => ⟨_, _, rfl, ?_⟩⟩⟩
      · exact Int.lt_of_le_of_lt (show (xs.length : Int) ≤ 100000 by omega) (by decide)
      obtain ⟨i, rfl⟩ : ∃ i : Nat, at' = i := ⟨at'.toNat, by omega⟩
      have hi : i < ds.length := by omega
      have e3 := p2.tup b3 (py.tup b2 e1)
      have ha3 := daAll_but (daAll_but ha1 py b2) p2 b3
      have b03 : But a H H3 := ((But.of sy).trans b2).trans b3
      obtain ⟨di, edi⟩ : ∃ di, ds[i]? = some di := ⟨_, List.getElem?_eq_getElem hi⟩
      have wA := wt_at edi
      have wB := wt_two ds i
      have lt1 : (ds.take i).length ≤ ds.length := by rw [List.length_take]; omega
      have lt2 : xs.length ≤ 100000 := by omega
      -- t[:i] + (x,) + t[c:], x by a call
      have mid : ∀ (σ : L2.St) (tc : TE) (n w' m' : Nat) (tl : TO), σ[1]? = some (some (.ref t)) → σ[3]? = some (some (.int (i : Int))) →
          (∀ H4, Same H3 H4 → ∀ Q' : VK, (∀ v' d' H5, But a H4 H5 → PotAt H5 a (c + 1 + 1 + n) → Da a H5 v' d' → Sm d' w' m' → Q' v' H5) → tc σ H4 Q') → n ≤ 38 + 40 * k → m' ≤ j + 13 →
          (∀ cc : Nat, (cc = i ∨ cc = i + 1) → PyData.weightAll (ds.take i) + (w' + 1) + PyData.weightAll (ds.drop cc) ≤ w + 1300 →
            (∀ H4 (Q' : Option Int → Hp → Prop), Q' (some (cc : Int)) H4 → tl σ H4 Q') →
            tOp (rCatA K) (tOp (rCatA K) (tSl (rSlA K) (tVar 1) tNoPart (tPart (tVar 3))) (tTup (tCons tc tNil))) (tSl (rSlA K) (tVar 1) tl tNoPart) σ H3 Q) := fun σ tc n w' m' tl h1 h3 hcall hn hm cc hcc hwt htl => by
        refine ⟨_, h1, ?_⟩
        show tNoPart _ _ _
        unfold tNoPart
        refine ⟨.int i, h3, i, rfl, cut_to e3 (by omega) fun g1 H4 s4 eg1 => ?_⟩
        refine hcall H4 s4 _ fun v' d' H5 b5 p5 D5 S5 => ⟨z1, fun g2 n2 => ?_⟩
        have p4 := p3.keep s4
        have s6 := same_new (o := HO.tup [v']) n2
        have eg1' := s6 _ _ (p4.tup b5 eg1)
        refine cat_tups eg1' upd_same (line_of (by simp only [List.length_take, List.length_cons, List.length_nil]; omega)) fun g3 H7 s7 eg3 => ?_
        refine ⟨_, h1, htl H7 _ ?_⟩
        show rSlA K (V.ref t) (some (cc : Int)) none _ _
        have e7 := s7 _ _ (s6 _ _ (p4.tup b5 (s4 _ _ e3)))
        refine cut_from e7 (by rcases hcc with h | h <;> omega) fun g4 H8 s8 eg4 => ?_
        refine cat_tups (s8 _ _ eg3) eg4 (line_of (by simp only [List.length_append, List.length_take, List.length_drop, List.length_cons, List.length_nil]; omega)) fun g5 H9 s9 eg5 => ?_
        have s59 := ((s6.trans s7).trans s8).trans s9
        have ha9 := (daAll_but (ha3.same s4) p4 b5).same s59
        have w5 := S5.wt
        refine q _ (.tuple ((ds.take i ++ [d']) ++ ds.drop cc)) H9 (((b03.trans (But.of s4)).trans b5).trans (But.of s59)) ((p5.keep s59).mono (by omega)) (.tup eg5 (((ha9.take i).app (.cons (D5.same s59) .nil)).app (ha9.drop cc))) (Sm.tup (k := j + 13) (SmE.app (SmE.app (SmE.mono (SmE.take hE i) (by omega)) (SmE.one (S5.mono (Nat.le_refl _) hm))) (SmE.mono (SmE.drop hE cc) (by omega))) ?_)
        rw [wt_app, wt_app]
        simp only [PyData.weightAll]
        omega
      have tl1 : ∀ (σ : L2.St), σ[3]? = some (some (.int (i : Int))) → ∀ H4 (Q' : Option Int → Hp → Prop), Q' (some ((i + 1 : Nat) : Int)) H4 → tPart (tOp (rI0 fun i j => .int (i + j)) (tVar 3) (tC (.int 1))) σ H4 Q' := fun σ h3 H4 Q' hq => by
        refine ⟨.int i, h3, i, 1, rfl, rfl, (i : Int) + 1, rfl, ?_⟩
        have : ((i : Int) + 1) = ((i + 1 : Nat) : Int) := by omega
        rw [this]
        exact hq
      have oddc : ∀ (σ : L2.St), σ[0]? = some (some (.ref a)) → ∀ H4, Same H3 H4 → ∀ Q' : VK, (∀ v' d' H5, But a H4 H5 → PotAt H5 a (c + 1 + 1 + 20) → Da a H5 v' d' → Sm d' 1200 12 → Q' v' H5) → (tCall (spSome 970000 20 1200 12) [] E0 (tCons (tVar 0) tNil)) σ H4 Q' := fun σ h0 H4 s4 Q' hq => ⟨.ref a, h0, a, _, rfl, p3.keep s4, by omega, hq⟩
      refine ⟨_, rfl, so, 3, rfl, rfl, _, rfl, ite2 (fun _ => ?_) (fun _ => ?_)⟩
      · refine mid _ _ (40 * k) (di.weight + 1300) (j + 13) _ rfl rfl (fun H4 s4 Q' hq => ?_) (by omega) (Nat.le_refl _) (i + 1) (.inr rfl) (by omega) (tl1 _ rfl)
        have hx : i < xs.length := by omega
        obtain ⟨dd, ed, Dd⟩ := (ha3.same s4).get i _ (List.getElem?_eq_getElem hx)
        rw [edi] at ed
        cases ed
        have hdi := hE di (List.mem_of_getElem? edi)
        have dl := dp_at edi
        refine ⟨.ref a, rfl, .ref t, rfl, .int i, rfl, t, xs, i, _, rfl, rfl, .inl (.inl (s4 _ _ e3)), atI_nat (List.getElem?_eq_getElem hx), a, _, di, c + 1 + 1, di.weight, j, rfl, p3.keep s4, Dd, by omega, ⟨hdi.1, hdi.2.1, hdi.2.2, Nat.le_refl _⟩, by omega, by omega, hq⟩
      · refine ⟨_, rfl, rfl, _, rfl, ite2 (fun _ => ?_) (fun _ => ?_)⟩
        · refine ⟨_, rfl, ?_⟩
          show tNoPart _ _ _
          unfold tNoPart
          refine ⟨.int i, rfl, i, rfl, cut_to e3 (by omega) fun g1 H4 s4 eg1 => ?_⟩
          refine ⟨_, rfl, .int i, rfl, i, 1, rfl, rfl, (i : Int) + 1, by rfl, ?_⟩
          show rSlA _ _ (some ((i : Int) + 1)) none _ _
          have ec : ((i : Int) + 1) = ((i + 1 : Nat) : Int) := by omega
          rw [ec]
          refine cut_from (s4 _ _ e3) (by omega) fun g2 H5 s5 eg2 => ?_
          refine cat_tups (s5 _ _ eg1) eg2 (line_of (by simp only [List.length_take, List.length_drop]; omega)) fun g3 H6 s6 eg3 => ?_
          have s36 := (s4.trans s5).trans s6
          have ha6 := ha3.same s36
          refine q _ (.tuple (ds.take i ++ ds.drop (i + 1))) H6 (b03.trans (But.of s36)) ((p3.keep s36).mono (by omega)) (.tup eg3 ((ha6.take i).app (ha6.drop (i + 1)))) (Sm.tup (k := j + 13) (SmE.app (SmE.mono (SmE.take hE i) (by omega)) (SmE.mono (SmE.drop hE (i + 1)) (by omega))) ?_)
          rw [wt_app]
          omega
        · refine ⟨_, rfl, rfl, _, rfl, ite2 (fun _ => ?_) (fun _ => ?_)⟩
          · refine mid _ _ 20 1200 12 _ rfl rfl (oddc _ rfl) (by omega) (by omega) i (.inl rfl) (by omega) (fun H4 Q' hq => ⟨.int i, rfl, i, rfl, hq⟩)
          · refine ⟨_, rfl, rfl, _, rfl, ite2 (fun _ => ?_) (fun _ => ?_)⟩
            · refine mid _ _ 20 1200 12 _ rfl rfl (oddc _ rfl) (by omega) (by omega) (i + 1) (.inr rfl) (by omega) (tl1 _ rfl)
            · refine ⟨_, rfl, t, xs, rfl, .inl (.inl e3), fun l nl ns => ?_⟩
              obtain ⟨s4, D4⟩ := new_lst nl ns p3 ha3
              exact q _ _ _ (b03.trans (But.of s4)) ((p3.keep s4).mono (by omega)) D4 (Sm.lst (k := j + 13) (SmE.mono hE (by omega)) (by omega))
    · refine ⟨_, rfl, a, _, d, "tuple", _, rfl, Dv, kit_tup d, _, rfl, ?_⟩
      rw [hn]
      exact iteT (odd _ _ rfl (Same.refl H))
theorem ok_bentN {f fOd fT : Addr} {fd fdOd fdT : FuncData} (F : Fun K "_law_bent" "_law_bent" a__law_bent f fd) (Od : Kn P w K mg base 3 "_law_odd" ["_law_pot_here"] (spSome 970000 20 1200 12) fOd fdOd) (T : Kn P w K mg base 1 "_law_take" ["_law_pot_here", "_law_many"] spTake fT fdT)
    (gl : mg "_law_bent" = some (.ref f)) (bi : Binds K fd ["_law_pot_here", "_law_thing"] []) (m_isinstance : mg "isinstance" = none) (m_len : mg "len" = none) (m_list : mg "list" = none) (m_tuple : mg "tuple" = none) : ∀ k, FnOk P w K mg base CX0 (k + 3) f fd ["_law_pot_here", "_law_thing"] (spBent k)
  | 0 => by
    refine F.ok sc__law_bent (fun vs H Q E h => ?_) (fun cdv A outer s H vs Q E hr h => ?_)
    · obtain ⟨a, v, d, c, w, m, rfl, _⟩ := h
      rfl
    · obtain ⟨a, v, d, c, w, m, rfl, _, _, dk, _⟩ := h
      exact absurd dk (Nat.not_lt_zero _)
  | k + 1 => ok__law_bent F Od T ⟨ok_bentN F Od T gl bi m_isinstance m_len m_list m_tuple k, gl, F.kp, bi⟩ m_isinstance m_len m_list m_tuple
end
end K58

set_option Elab.async false
set_option linter.all false
set_option maxRecDepth 100000
namespace K58
open PySem PySem.Spec PyProof.Rows L2 NB

/-! ### the law's own look at letters -/
section
variable {P : Program} {w : World} {K : PySem.W.Frag} {mg : Str → Option Value} {base : Heap}
abbrev a__law_is_whole : Stmt := topS 11
abbrev n__law_is_whole : List Str := ["_law_thing"]
theorem sc__law_is_whole : FnScope n__law_is_whole ["_law_thing"] (defScope a__law_is_whole) := ⟨rfl, rfl, rfl, by decide +kernel, rfl, by decide +kernel, by decide +kernel⟩
set_option maxHeartbeats 8000000 in
theorem ok__law_is_whole {f  : Addr} {fd  : FuncData} {k : Nat}  (F : Fun K "_law_is_whole" "_law_is_whole" a__law_is_whole f fd)   (m_bool : mg "bool" = none) (m_int : mg "int" = none) (m_isinstance : mg "isinstance" = none) : FnOk P w K mg base CX0 (k + 1) f fd ["_law_thing"] (spLook wholeD) := by
  refine F.ok sc__law_is_whole (fun vs H Q E h => ?_) (fun cdv A outer s H vs Q E hr h => ?_)
  · obtain ⟨n, v, d, rfl, _⟩ := h
    rfl
  · obtain ⟨n, v, d, rfl, hd, q⟩ := h
    refine ⟨_, (pss_one (ps_ret (pe_and (pe_callB call_isiD (by rfl) m_isinstance (by decide +kernel) (pa_cons (pv 0) (pa_cons (pe_bltn (v := .ty "int") (u := .type "int") (by rfl) m_int (by decide +kernel) rfl) pa_nil))) (pe_one (pe_not (pe_callB call_isiD (by rfl) m_isinstance (by decide +kernel) (pa_cons (pv 0) (pa_cons (pe_bltn (v := .ty "bool") (u := .type "bool") (by rfl) m_bool (by decide +kernel) rfl) pa_nil)))))))), ?_⟩
    refine ⟨v, rfl, n, v, d, "int", _, rfl, hd, kit_int d, _, rfl, ?_⟩
    cases hd with
    | int i => exact iteT ⟨_, rfl, n, _, _, "bool", _, rfl, .int i, kit_bool _, _, rfl, q H (Same.refl H)⟩
    | bl b => exact iteT ⟨_, rfl, n, _, _, "bool", _, rfl, .bl b, kit_bool _, _, rfl, q H (Same.refl H)⟩
    | _ => exact iteF (q H (Same.refl H))
abbrev a__law_is_count : Stmt := topS 17
abbrev n__law_is_count : List Str := ["_law_thing"]
theorem sc__law_is_count : FnScope n__law_is_count ["_law_thing"] (defScope a__law_is_count) := ⟨rfl, rfl, rfl, by decide +kernel, rfl, by decide +kernel, by decide +kernel⟩
set_option maxHeartbeats 8000000 in
theorem ok__law_is_count {f fWh : Addr} {fd fdWh : FuncData} {k : Nat}  (F : Fun K "_law_is_count" "_law_is_count" a__law_is_count f fd) (Wh : Kn P w K mg base 1 "_law_is_whole" ["_law_thing"] (spLook wholeD) fWh fdWh)   : FnOk P w K mg base CX0 (k + 2) f fd ["_law_thing"] (spLook countD) := by
  refine F.ok sc__law_is_count (fun vs H Q E h => ?_) (fun cdv A outer s H vs Q E hr h => ?_)
  · obtain ⟨n, v, d, rfl, _⟩ := h
    rfl
  · obtain ⟨n, v, d, rfl, hd, q⟩ := h
    refine ⟨_, (pss_one (ps_ret (pe_and (pe_kn Wh hr (by omega) (pa_cons (pv 0) pa_nil)) (pe_one (pe_cmpR op_ge (pv 0) pe_int (nomark _)))))), ?_⟩
    refine ⟨v, rfl, n, v, d, rfl, hd, fun H1 s1 => ⟨_, rfl, ?_⟩⟩
    cases hd with
    | int i => exact iteT ⟨_, rfl, i, 0, rfl, rfl, q H1 s1⟩
    | _ => exact iteF (q H1 s1)
abbrev a__law_is_wish : Stmt := topS 18
abbrev n__law_is_wish : List Str := ["_law_thing", "_law_place"]
theorem sc__law_is_wish : FnScope n__law_is_wish ["_law_thing"] (defScope a__law_is_wish) := ⟨rfl, rfl, rfl, by decide +kernel, rfl, by decide +kernel, by decide +kernel⟩
set_option maxHeartbeats 8000000 in
theorem ok__law_is_wish {f fCo : Addr} {fd fdCo : FuncData} {k : Nat}  (F : Fun K "_law_is_wish" "_law_is_wish" a__law_is_wish f fd) (Co : Kn P w K mg base 2 "_law_is_count" ["_law_thing"] (spLook countD) fCo fdCo)  (m_all : mg "all" = none) (m_isinstance : mg "isinstance" = none) (m_len : mg "len" = none) (m_tuple : mg "tuple" = none) : FnOk P w K mg base CX0 (k + 3) f fd ["_law_thing"] (spLook wishD) := by
  refine F.ok sc__law_is_wish (fun vs H Q E h => ?_) (fun cdv A outer s H vs Q E hr h => ?_)
  · obtain ⟨n, v, d, rfl, _⟩ := h
    rfl
  · obtain ⟨n, v, d, rfl, hd, q⟩ := h
    refine ⟨_, (pss_cons (ps_if (PW.pt (pw_or (pt_not (pt_val (pe_callB call_isiD (by rfl) m_isinstance (by decide +kernel) (pa_cons (pv 0) (pa_cons (pe_bltn (v := .ty "tuple") (u := .type "tuple") (by rfl) m_tuple (by decide +kernel) rfl) pa_nil))))) (pw_or (pt_cmpR op_ne (pe_callB call_len_seq (by rfl) m_len (by decide +kernel) (pa_cons (pv 0) pa_nil)) pe_int (nomark _)) (pw_or (pt_not (pt_val (pe_kn Co hr (by omega) (pa_cons (pe_ix ix_tup (pv 0) pe_int (fun _ _ => rfl)) pa_nil)))) (pw_or1 (pt_cmpR op_eq (pe_ix ix_tup (pv 0) pe_int (fun _ _ => rfl)) pe_int (nomark _))))))) (pss_one (ps_ret pe_bl)) pss_nil)
      (pss_cons (ps_if (PW.pt (pw_or (pt_not (pt_val (pe_callB call_isiD (by rfl) m_isinstance (by decide +kernel) (pa_cons (pe_ix ix_tup (pv 0) pe_int (fun _ _ => rfl)) (pa_cons (pe_bltn (v := .ty "tuple") (u := .type "tuple") (by rfl) m_tuple (by decide +kernel) rfl) pa_nil))))) (pw_or1 (pt_not (pt_chain op_lt op_lt pe_int (pe_callB call_len_seq (by rfl) m_len (by decide +kernel) (pa_cons (pe_ix ix_tup (pv 0) pe_int (fun _ _ => rfl)) pa_nil)) pe_int))))) (pss_one (ps_ret pe_bl)) pss_nil)
      (pss_one (ps_ret (pe_callB (cr_all rfl) (by rfl) m_all (by decide +kernel) (pa_cons (
        pe_lc (own := [("_law_place", 1)]) (g := (gName 1)) (tt := tYes) (te := (tCall (spLook countD) [] E0 (tCons (tVar 1) tNil))) rfl sc__law_is_wish.nd (pi_tup (pe_ix ix_tup (pv 0) pe_int (fun _ _ => rfl))) (blkOk_by (N := n__law_is_wish) (sc := defScope a__law_is_wish) (by decide +kernel))
          (fun _ _ _ _ _ => (pg_name (i := 1) sc__law_is_wish.nd rfl (.inl rfl) (hf := .inr rfl))) (fun _ _ _ _ _ => pts_nil) (fun _ _ _ _ _ => (pe_kn Co hr (by omega) (pa_cons (pv 1) pa_nil)))) pa_nil)))))), ?_⟩
    rcases tup_or d with ⟨ds, rfl⟩ | hn
    · cases hd with
      | tup e ha =>
      rename_i a xs
      have ll := ha.len
      refine ⟨_, rfl, n, _, _, "tuple", _, rfl, .tup e ha, kit_tup _, _, rfl, iteF ⟨_, rfl, a, xs, rfl, .inr (.inl (.inl e)), rfl, _, rfl, ite2 (fun c => ?_) (fun c => ?_)⟩⟩
      · have c' : ¬ ds.length = 2 := fun z => by rw [ll, z] at c; exact absurd c (by decide)
        have : wishD (.tuple ds) = false := by simp [wishD, c']
        rw [this] at q
        exact q H (Same.refl H)
      · have c' : ds.length = 2 := Classical.byContradiction fun z => c (by
          have : ¬ ((xs.length : Int) = 2) := by omega
          simp [this])
        match ds, c', ha with
        | [d0, d1], _, .cons h0 (.cons h1 .nil) =>
        rename_i v0 v1
        have eW : wishD (.tuple [d0, d1]) = (posD d0 && standD d1) := by simp [wishD]
        rw [eW] at q
        refine ⟨_, rfl, a, _, 0, _, rfl, rfl, .inl (.inl e), atI_nat (j := 0) rfl, n, _, d0, rfl, h0, fun H1 s1 => ⟨_, rfl, ?_⟩⟩
        have neg : countD d0 = false → posD d0 = false := fun h => by
          cases d0 with
          | int i =>
            have := of_decide_eq_false h
            exact decide_eq_false (by omega)
          | _ => rfl
        cases hc0 : countD d0 with
        | false =>
          rw [neg hc0] at q
          exact iteT (q H1 s1)
        | true =>
        refine iteF ?_
        obtain ⟨i, rfl⟩ : ∃ i, d0 = .int i := by
          cases d0 with
          | int i => exact ⟨i, rfl⟩
          | _ => cases hc0
        cases h0
        have i0 := of_decide_eq_true hc0
        refine ⟨_, rfl, a, _, 0, _, rfl, rfl, .inl (.inl (s1 _ _ e)), atI_nat (j := 0) rfl, rfl, _, rfl, ite2 (fun c => ?_) (fun c => ?_)⟩
        · have c0 : i = 0 := V.int.inj (of_decide_eq_true c)
          have : posD (.int i) = false := decide_eq_false (by omega)
          rw [this] at q
          exact q H1 s1
        · have c0 : i ≠ 0 := fun z => c (decide_eq_true (congrArg V.int z))
          have : posD (.int i) = true := decide_eq_true (by omega)
          rw [this, Bool.true_and] at q
          refine ⟨_, rfl, a, _, 1, _, rfl, rfl, .inl (.inl (s1 _ _ e)), atI_nat (j := 1) rfl, ?_⟩
          rcases tup_or d1 with ⟨ps, rfl⟩ | hn
          · cases h1 with
            | tup e1 h2 =>
            rename_i b ys
            have l2 := h2.len
            have e1' := s1 _ _ e1
            refine ⟨n, _, _, "tuple", _, rfl, (Da.tup e1 h2).same s1, kit_tup _, _, rfl, iteF ⟨_, rfl, a, _, 1, _, rfl, rfl, .inl (.inl (s1 _ _ e)), atI_nat (j := 1) rfl, b, ys, rfl, .inr (.inl (.inl e1')), 0, _, rfl, rfl, _, rfl, ?_⟩⟩
            have eS : standD (.tuple ps) = ((decide (1 ≤ ps.length) && decide (ps.length ≤ 12)) && ps.all countD) := rfl
            rw [eS] at q
            refine ite2 (fun c1 => ⟨_, 13, rfl, rfl, _, rfl, ?_⟩) (fun c1 => ?_)
            · have c1' := of_decide_eq_true c1
              refine ite2 (fun c2 => ?_) (fun c2 => ?_)
              · have c2' : ¬ ps.length ≤ 12 := fun z => by
                  have : ((ys.length : Int) < 13) := by omega
                  simp [this] at c2
                rw [decide_eq_false c2', Bool.and_false, Bool.false_and] at q
                exact q H1 s1
              · have c2' : ps.length ≤ 12 := Classical.byContradiction fun z => c2 (by
                  have : ¬ ((ys.length : Int) < 13) := by omega
                  simp [this])
                rw [decide_eq_true c2', decide_eq_true (show 1 ≤ ps.length by omega), Bool.true_and, Bool.true_and] at q
                refine ⟨_, rfl, a, _, 1, _, rfl, rfl, .inl (.inl (s1 _ _ e)), atI_nat (j := 1) rfl, b, rfl, ⟨_, .inl (.inl e1')⟩, fun D nD => lc_it (walk_tup (xs := ys)) (fun i H' => Same H1 H' ∧ H' D = some (.lst (((ps.take i).map countD).map V.bl))) ⟨same_new nD, upd_same⟩ (fun i H' _ p => .inl (.inl (p.1 _ _ e1'))) (fun i v H2 H3 hi p y => ?_) (fun H' p => ?_)⟩
                · obtain ⟨sm, eD⟩ := p
                  obtain ⟨rfl, gv⟩ := y
                  obtain ⟨dd, ed, hdd⟩ := h2.get i v gv
                  refine ⟨wipe1, _, rfl, n, v, dd, rfl, (hdd.same s1).same sm, fun H4 s4 => ⟨_, s4 _ _ eD, ?_, same_over (sm.trans s4) nD, ?_⟩⟩
                  · rw [List.length_map, List.length_map, List.length_take]
                    exact small1000 (by omega)
                  · rw [upd_same, all_take countD ps i dd ed]
                · obtain ⟨sm, eD⟩ := p
                  rw [show ys.length = ps.length from l2, List.take_length] at eD
                  refine ⟨D, _, rfl, .inl (.inl eD), ?_⟩
                  rw [all_id]
                  exact q H' (s1.trans sm)
            · have c1' : ¬ 1 ≤ ps.length := fun z => c1 (decide_eq_true (by omega))
              refine ⟨false, rfl, iteT ?_⟩
              rw [decide_eq_false c1', Bool.false_and, Bool.false_and] at q
              exact q H1 s1
          · have t := (not_tup hn).2.2
            refine ⟨n, _, d1, "tuple", _, rfl, h1.same s1, kit_tup d1, _, rfl, ?_⟩
            rw [hn]
            rw [t] at q
            exact iteT (q H1 s1)
    · have t := (not_tup hn).1
      refine ⟨_, rfl, n, _, d, "tuple", _, rfl, hd, kit_tup d, _, rfl, ?_⟩
      rw [hn]
      rw [t] at q
      exact iteT (q H (Same.refl H))
abbrev a__law_due : Stmt := topS 19
abbrev n__law_due : List Str := ["_law_thing"]
theorem sc__law_due : FnScope n__law_due ["_law_thing"] (defScope a__law_due) := ⟨rfl, rfl, rfl, by decide +kernel, rfl, by decide +kernel, by decide +kernel⟩
set_option maxHeartbeats 8000000 in
theorem ok__law_due {f fCo fWi : Addr} {fd fdCo fdWi : FuncData} {k : Nat}  (F : Fun K "_law_due" "_law_due" a__law_due f fd) (Co : Kn P w K mg base 2 "_law_is_count" ["_law_thing"] (spLook countD) fCo fdCo) (Wi : Kn P w K mg base 3 "_law_is_wish" ["_law_thing"] (spLook wishD) fWi fdWi)  (m_isinstance : mg "isinstance" = none) (m_len : mg "len" = none) (m_str : mg "str" = none) (m_tuple : mg "tuple" = none) : FnOk P w K mg base CX0 (k + 4) f fd ["_law_thing"] (spLook letterD) := by
  refine F.ok sc__law_due (fun vs H Q E h => ?_) (fun cdv A outer s H vs Q E hr h => ?_)
  · obtain ⟨n, v, d, rfl, _⟩ := h
    rfl
  · obtain ⟨n, v, d, rfl, hd, q⟩ := h
    refine ⟨_, (pss_cons (ps_if (PW.pt (pw_or (pt_not (pt_val (pe_callB call_isiD (by rfl) m_isinstance (by decide +kernel) (pa_cons (pv 0) (pa_cons (pe_bltn (v := .ty "tuple") (u := .type "tuple") (by rfl) m_tuple (by decide +kernel) rfl) pa_nil))))) (pw_or (pt_cmpR (op_eq0 (Nat.lt_of_le_of_lt (Nat.le_add_right _ 64) hr.units)) (pv 0) (pe_tup pa_nil) (nomark _)) (pw_or1 (pt_not (pt_val (pe_callB call_isiD (by rfl) m_isinstance (by decide +kernel) (pa_cons (pe_ix ix_tup (pv 0) pe_int (fun _ _ => rfl)) (pa_cons (pe_bltn (v := .ty "str") (u := .type "str") (by rfl) m_str (by decide +kernel) rfl) pa_nil))))))))) (pss_one (ps_ret pe_bl)) pss_nil)
      (pss_cons (ps_if (pt_cmpR op_eq (pe_ix ix_tup (pv 0) pe_int (fun _ _ => rfl)) pe_str (nomark _)) (pss_one (ps_ret (pe_and (pe_cmpR op_eq (pe_callB call_len_seq (by rfl) m_len (by decide +kernel) (pa_cons (pv 0) pa_nil)) pe_int (nomark _)) (pe_one (pe_kn Wi hr (by omega) (pa_cons (pe_ix ix_tup (pv 0) pe_int (fun _ _ => rfl)) pa_nil)))))) pss_nil)
      (pss_cons (ps_if (PW.pt (pw_or (pt_cmpR op_notIn_seq (pe_ix ix_tup (pv 0) pe_int (fun _ _ => rfl)) (pe_tup (pa_cons pe_str (pa_cons pe_str pa_nil))) (by rfl)) (pw_or1 (pt_cmpR op_ne (pe_callB call_len_seq (by rfl) m_len (by decide +kernel) (pa_cons (pv 0) pa_nil)) pe_int (nomark _))))) (pss_one (ps_ret pe_bl)) pss_nil)
      (pss_cons (ps_if (PW.pt (pw_or (pt_not (pt_val (pe_kn Co hr (by omega) (pa_cons (pe_ix ix_tup (pv 0) pe_int (fun _ _ => rfl)) pa_nil)))) (pw_or1 (pt_not (pt_val (pe_kn Co hr (by omega) (pa_cons (pe_ix ix_tup (pv 0) pe_int (fun _ _ => rfl)) pa_nil))))))) (pss_one (ps_ret pe_bl)) pss_nil)
      (pss_one (ps_ret (pe_or (pe_cmpR op_isN (pe_ix ix_tup (pv 0) pe_int (fun _ _ => rfl)) pe_non (nomark _)) (pe_one (pe_kn Wi hr (by omega) (pa_cons (pe_ix ix_tup (pv 0) pe_int (fun _ _ => rfl)) pa_nil)))))))))), ?_⟩
    rcases tup_or d with ⟨ds, rfl⟩ | hn
    · cases hd with
      | tup e ha =>
      rename_i a xs
      have ll := ha.len
      refine ⟨_, rfl, n, _, _, "tuple", _, rfl, .tup e ha, kit_tup _, _, rfl, iteF ⟨_, rfl, (show 0 ≤ sizeLine by decide), fun y ny => ?_⟩⟩
      have st := same_new (o := HO.tup []) ny
      have ey : (upd H y (HO.tup [])) y = some (.tup []) := upd_same
      have e1 := st _ _ e
      generalize upd H y (HO.tup []) = H0 at st ey e1 ⊢
      refine ⟨a, y, xs, rfl, rfl, .inl (.inl e1), .inl (.inl ey), _, rfl, ?_⟩
      cases hxs : xs.isEmpty with
      | true =>
        have l0 : ds.length = 0 := by
          rw [← ll]
          cases xs with
          | nil => rfl
          | cons _ _ => cases hxs
        have : letterD (.tuple ds) = false := by simp [letterD, l0]
        rw [this] at q
        exact iteT (q _ st)
      | false =>
      have l1 : 1 ≤ ds.length := by
        rw [← ll]
        cases xs with
        | nil => cases hxs
        | cons _ _ => simp
      refine iteF ?_
      have g0 : ∃ v0, xs[0]? = some v0 ∧ Da n H v0 (ds.getD 0 .none) := by
        have lt : 0 < xs.length := by omega
        obtain ⟨d0, e0, h0⟩ := ha.get 0 _ (List.getElem?_eq_getElem lt)
        exact ⟨_, List.getElem?_eq_getElem lt, by rw [List.getD_eq_getElem?_getD, e0]; exact h0⟩
      obtain ⟨v0, x0, h0⟩ := g0
      refine ⟨_, rfl, a, xs, 0, v0, rfl, rfl, .inl (.inl e1), atI_nat (j := 0) x0, n, v0, _, "str", _, rfl, h0.same st, kit_str _, _, rfl, ?_⟩
      have out : isStrD (ds.getD 0 .none) = false → letterD (.tuple ds) = false := fun h => by
        have a1 : ∀ z, strIs z (ds.getD 0 .none) = false := fun z => by
          cases hz : ds.getD 0 .none <;> first | rfl | (rw [hz] at h; cases h)
        simp only [letterD, a1, Bool.false_and, Bool.or_self, Bool.and_false]
        split <;> rfl
      cases hs : isStrD (ds.getD 0 .none) with
      | false =>
        rw [out hs] at q
        exact iteT (q _ st)
      | true =>
      refine iteF ?_
      obtain ⟨z, hz⟩ : ∃ z, ds.getD 0 .none = .str z := by
        cases hz : ds.getD 0 .none with
        | str z => exact ⟨z, rfl⟩
        | _ => rw [hz] at hs; cases hs
      rw [hz] at h0
      cases h0
      have eL : letterD (.tuple ds) = if ds.length = 2 then decide (z = "word") && wishD (ds.getD 1 .none) else decide (ds.length = 4) && ((decide (z = "ask") || decide (z = "leave")) && ((countD (ds.getD 1 .none) && countD (ds.getD 2 .none)) && (noneD (ds.getD 3 .none) || wishD (ds.getD 3 .none)))) := by
        simp only [letterD, hz, strIs]
      rw [eL] at q
      refine ⟨_, rfl, a, xs, 0, _, rfl, rfl, .inl (.inl e1), atI_nat (j := 0) x0, rfl, _, rfl, ite2 (fun c => ?_) (fun c => ?_)⟩
      · have cw : z = "word" := V.str.inj (of_decide_eq_true c)
        have no1 : decide (z = "ask") = false := by rw [cw]; decide +kernel
        have no2 : decide (z = "leave") = false := by rw [cw]; decide +kernel
        rw [decide_eq_true cw, no1, no2] at q
        refine ⟨_, rfl, a, xs, rfl, .inr (.inl (.inl e1)), rfl, _, rfl, ite2 (fun c2 => ?_) (fun c2 => ?_)⟩
        · have l2 : ds.length = 2 := by
            have := V.int.inj (of_decide_eq_true c2)
            omega
          match ds, l2, ha with
          | [d0, d1], _, .cons _ (.cons h1 .nil) =>
          exact ⟨_, rfl, a, _, 1, _, rfl, rfl, .inl (.inl e1), atI_nat (j := 1) rfl, n, _, d1, rfl, h1.same st, fun H1 s1 => by simpa using q H1 (st.trans s1)⟩
        · have l2 : ¬ ds.length = 2 := fun h => c2 (decide_eq_true (congrArg V.int (show (xs.length : Int) = 2 by omega)))
          rw [if_neg l2] at q
          simpa using q _ st
      · have cw : ¬ z = "word" := fun h => c (decide_eq_true (congrArg V.str h))
        rw [decide_eq_false cw] at q
        refine ⟨_, rfl, a, xs, 0, _, rfl, rfl, .inl (.inl e1), atI_nat (j := 0) x0, (show 2 ≤ sizeLine by decide), fun t2 nt2 => ?_⟩
        have s2 := st.trans (same_new (o := HO.tup [V.str "ask", V.str "leave"]) nt2)
        have e2 := same_new (o := HO.tup [V.str "ask", V.str "leave"]) nt2 _ _ e1
        have fl2 : [V.str "ask", V.str "leave"].all flatV = true := by decide
        refine ⟨t2, _, rfl, .inr (.inl (.inl upd_same)), rfl, fl2, _, rfl, ite2 (fun c3 => ?_) (fun c3 => ?_)⟩
        · have c3' : (!inV (V.str z) [V.str "ask", V.str "leave"]) = true := c3
          rw [inV_str2] at c3'
          have c4 : (decide (z = "ask") || decide (z = "leave")) = false := by simpa using c3'
          rw [c4] at q
          simp only [Bool.false_and, Bool.and_false, ite_self] at q
          exact q _ s2
        · have c3' : ¬ (!inV (V.str z) [V.str "ask", V.str "leave"]) = true := c3
          rw [inV_str2] at c3'
          have c4 : (decide (z = "ask") || decide (z = "leave")) = true := by
            cases hh : (decide (z = "ask") || decide (z = "leave")) with
            | true => rfl
            | false => rw [hh] at c3'; exact absurd rfl c3'
          rw [c4] at q
          refine ⟨_, rfl, a, xs, rfl, .inr (.inl (.inl e2)), rfl, _, rfl, ite2 (fun c5 => ?_) (fun c5 => ?_)⟩
          · have l4 : ¬ ds.length = 4 := fun h => by
              rw [ll, h] at c5
              exact absurd c5 (by decide)
            rw [decide_eq_false l4] at q
            simp only [Bool.false_and, ite_self] at q
            exact q _ s2
          · have l4 : ds.length = 4 := Classical.byContradiction fun h => c5 (by
              have : ¬ ((xs.length : Int) = 4) := by omega
              simp [this])
            match ds, l4, ha with
            | [d0, d1, d2, d3], _, .cons h0' (.cons h1 (.cons h2 (.cons h3 .nil))) =>
            rename_i w0 w1 w2 w3
            have q' : ∀ H', Same H H' → Q (.bl ((countD d1 && countD d2) && (noneD d3 || wishD d3))) H' := fun H' s' => by simpa using q H' s'
            refine ⟨_, rfl, a, _, 1, _, rfl, rfl, .inl (.inl e2), atI_nat (j := 1) rfl, n, _, d1, rfl, h1.same s2, fun H3 s3 => ⟨_, rfl, ?_⟩⟩
            have e3 := s3 _ _ e2
            cases k1 : countD d1 with
            | false =>
              have q3 := q' _ (s2.trans s3)
              rw [k1, Bool.false_and, Bool.false_and] at q3
              exact iteT q3
            | true =>
              refine iteF ⟨_, rfl, a, _, 2, _, rfl, rfl, .inl (.inl e3), atI_nat (j := 2) rfl, n, _, d2, rfl, h2.same (s2.trans s3), fun H4 s4 => ⟨_, rfl, ?_⟩⟩
              have s04 := (s2.trans s3).trans s4
              have e4 := s4 _ _ e3
              cases k2 : countD d2 with
              | false =>
                have q4 := q' _ s04
                rw [k1, k2, Bool.and_false, Bool.false_and] at q4
                exact iteT q4
              | true =>
                have q4 : ∀ H', Same H H' → Q (.bl (noneD d3 || wishD d3)) H' := fun H' s' => by
                  have := q' H' s'
                  rw [k1, k2, Bool.and_self, Bool.true_and] at this
                  exact this
                refine iteF ⟨_, rfl, a, _, 3, w3, rfl, rfl, .inl (.inl e4), atI_nat (j := 3) rfl, rfl, _, rfl, ?_⟩
                have isn : noneD d3 = decide (w3 = .non) := by cases h3 <;> rfl
                cases kn : decide (w3 = .non) with
                | true =>
                  refine iteT ?_
                  have := q4 _ s04
                  rw [isn, kn, Bool.true_or] at this
                  exact this
                | false =>
                  refine iteF ⟨_, rfl, a, _, 3, w3, rfl, rfl, .inl (.inl e4), atI_nat (j := 3) rfl, n, _, d3, rfl, h3.same s04, fun H5 s5 => ?_⟩
                  have := q4 _ (s04.trans s5)
                  rw [isn, kn, Bool.false_or] at this
                  exact this
    · have t := (not_tup hn).2.1
      refine ⟨_, rfl, n, _, d, "tuple", _, rfl, hd, kit_tup d, _, rfl, ?_⟩
      rw [hn]
      rw [t] at q
      exact iteT (q H (Same.refl H))
end
end K58

set_option Elab.async false
set_option linter.all false
set_option maxRecDepth 100000
namespace K58
open PySem PySem.Spec PyProof.Rows L2 NB

/-! ### the law -/
section
variable {P : Program} {w : World} {K : PySem.W.Frag} {mg : Str → Option Value} {base : Heap}
def spLaw (K : PySem.W.Frag) : Sp := fun vs H Q _ => ∃ (a : Addr) (ns : List Int), vs = [.ref a] ∧ SqL K H a (ns.map V.int) ∧ ns.length ≤ 63 ∧ ∀ H', Q (.bl true) H'
abbrev a_law : Stmt := topS 20
abbrev n_law : List Str := ["_law_script", "_law_k", "_law_pot_here", "_law_turn", "_law_thing", "_law_bend", "_law_kept"]
theorem sc_law : FnScope n_law ["_law_script"] (defScope a_law) := ⟨rfl, rfl, rfl, by decide +kernel, rfl, by decide +kernel, by decide +kernel⟩
set_option maxHeartbeats 8000000 in
theorem ok_law {f fPo fLe fO fBe fIl fDu fOd : Addr} {fd fdPo fdLe fdO fdBe fdIl fdDu fdOd : FuncData}   (F : Fun K "law" "law" a_law f fd) (Po : Kn P w K mg base 1 "_law_pot" ["_law_script", "_law_k"] (spPot K) fPo fdPo) (Le : Kn P w K mg base 5 "_law_letter" ["_law_pot_here"] (spSome 970000 60 6000 3) fLe fdLe) (O : Kn P w K mg base 2 "_law_of" ["_law_pot_here", "_law_some"] (spOf K) fO fdO) (Be : Kn P w K mg base 20 "_law_bent" ["_law_pot_here", "_law_thing"] (spBent 17) fBe fdBe) (Il : Kn P w K mg base 4 "is_letter" ["thing"] (spLook letterD) fIl fdIl) (Du : Kn P w K mg base 4 "_law_due" ["_law_thing"] (spLook letterD) fDu fdDu) (Od : Kn P w K mg base 3 "_law_odd" ["_law_pot_here"] (spSome 970000 20 1200 12) fOd fdOd)  (m_len : mg "len" = none) (m_max : mg "max" = none) (m_min : mg "min" = none) (m_range : mg "range" = none) (m_repr : mg "repr" = none) : FnG P w K mg base 22 f fd ["_law_script"] (spLaw K) := by
  refine fnG F sc_law (fun vs H Q E h => ?_) (fun cdv A outer s H vs Q E hG hr h => ?_)
  · obtain ⟨a, ns, rfl, _⟩ := h
    rfl
  · obtain ⟨a, ns, rfl, hS, hn, q⟩ := h
    refine ⟨_, (pss_cons (ps_for PassesOwn.never rfl (pi_range1 (by rfl) m_range (pa_cons (pe_callB (call_max2 rfl) (by rfl) m_max (by decide +kernel) (pa_cons pe_int (pa_cons (pe_callB (call_min2 rfl) (by rfl) m_min (by decide +kernel) (pa_cons pe_int (pa_cons (pe_callB call_len_seq (by rfl) m_len (by decide +kernel) (pa_cons (pv 0) pa_nil)) pa_nil))) pa_nil))) pa_nil)) (pg_name (i := 1) sc_law.nd rfl (.inl rfl))
        (pss_cons (ps_set (i := 2) sc_law.nd rfl (.inl rfl) (pe_kn Po hr (by omega) (pa_cons (pv 0) (pa_cons (pv 1) pa_nil))))
      (pss_cons (ps_for PassesOwn.never rfl (pi_range1 (by rfl) m_range (pa_cons pe_int pa_nil)) (pg_name (i := 3) sc_law.nd rfl (.inl rfl))
        (pss_cons (ps_set (i := 4) sc_law.nd rfl (.inl rfl) (pe_kn Le hr (by omega) (pa_cons (pv 2) pa_nil)))
      (pss_cons (ps_for PassesOwn.never rfl (pi_range1 (by rfl) m_range (pa_cons (pe_kn O hr (by omega) (pa_cons (pv 2) (pa_cons (pe_lstN (pa_cons pe_int (pa_cons pe_int (pa_cons pe_int (pa_cons pe_int pa_nil))))) pa_nil))) pa_nil)) (pg_name (i := 5) sc_law.nd rfl (.inl rfl))
        (pss_one (ps_set (i := 4) sc_law.nd rfl (.inl rfl) (pe_kn Be hr (by omega) (pa_cons (pv 2) (pa_cons (pv 4) pa_nil))))))
      (pss_cons (ps_set (i := 6) sc_law.nd rfl (.inl rfl) (pe_callB (call_reprA hG hr.units) (by rfl) m_repr (by decide +kernel) (pa_cons (pv 4) pa_nil)))
      (pss_one (ps_if (PW.pt (pw_or (pt_cmpR op_ne (pe_callB (call_reprA hG hr.units) (by rfl) m_repr (by decide +kernel) (pa_cons (pe_kn Il hr (by omega) (pa_cons (pv 4) pa_nil)) pa_nil)) (pe_callB (call_reprA hG hr.units) (by rfl) m_repr (by decide +kernel) (pa_cons (pe_kn Du hr (by omega) (pa_cons (pv 4) pa_nil)) pa_nil)) (nomark _)) (pw_or1 (pt_cmpR op_ne (pe_callB (call_reprA hG hr.units) (by rfl) m_repr (by decide +kernel) (pa_cons (pv 4) pa_nil)) (pv 6) (nomark _))))) (pss_one (ps_ret pe_bl)) pss_nil))))))
      (pss_one (ps_for PassesOwn.never rfl (pi_tup (pe_tup (pa_cons (pe_kn Od hr (by omega) (pa_cons (pv 2) pa_nil)) (pa_cons (pe_tup (pa_cons pe_str pa_nil)) (pa_cons (pe_tup (pa_cons pe_str (pa_cons pe_non pa_nil))) (pa_cons (pe_tup (pa_cons pe_str (pa_cons pe_int (pa_cons pe_int (pa_cons pe_non pa_nil))))) (pa_cons (pe_tup (pa_cons (pe_lstN (pa_cons pe_str pa_nil)) (pa_cons pe_int (pa_cons pe_int (pa_cons pe_non pa_nil))))) pa_nil))))))) (pg_name (i := 4) sc_law.nd rfl (.inl rfl))
        (pss_one (ps_if (pt_cmpR op_ne (pe_callB (call_reprA hG hr.units) (by rfl) m_repr (by decide +kernel) (pa_cons (pe_kn Il hr (by omega) (pa_cons (pv 4) pa_nil)) pa_nil)) (pe_callB (call_reprA hG hr.units) (by rfl) m_repr (by decide +kernel) (pa_cons (pe_kn Du hr (by omega) (pa_cons (pv 4) pa_nil)) pa_nil)) (nomark _)) (pss_one (ps_ret pe_bl)) pss_nil)))))))
      (pss_one (ps_ret pe_bl))), ?_⟩
    have z1 : (1 : Nat) ≤ sizeLine := by decide
    have z2 : (2 : Nat) ≤ sizeLine := by decide
    have z4 : (4 : Nat) ≤ sizeLine := by decide
    have z5 : (5 : Nat) ≤ sizeLine := by decide
    refine ⟨.ref a, rfl, a, _, rfl, .inl hS, 3, _, rfl, 1, _, rfl, _, rfl, ?_, ?_, for_it walk_range (fun i σ H' => (∃ u1 u2 u3 u4 u5 u6, σ = [some (.ref a), u1, u2, u3, u4, u5, u6]) ∧ Same H H') ⟨⟨none, none, none, none, none, none, rfl⟩, Same.refl H⟩ (fun _ _ _ _ _ => trivial) (fun i v σ H0' H0 hi p y => ?_) (fun σ H0 p => q H0)⟩
    · split <;> split <;> omega
    · split <;> split <;> omega
    obtain ⟨⟨u1, u2, u3, u4, u5, u6, rfl⟩, s0⟩ := p
    obtain ⟨rfl, rfl⟩ := y
    have i5 : i < 5 := by
      revert hi
      split <;> split <;> intro hi <;> omega
    refine ⟨.ref a, rfl, _, rfl, a, ns, i, by show [V.ref a, V.int (0 + (i : Int))] = _; rw [Int.zero_add], s0.seq hS, by omega, fun H1 p t1 n1 q1 => ?_⟩
    have s1 := s0.trans t1
    have npH : H p = none := s0.free n1
    refine ⟨24, rfl, by decide, by decide, for_it walk_range (fun j σ H' => (∃ u3 u4 u5 u6, σ = [some (.ref a), some (.int (0 + (i : Int))), some (.ref p), u3, u4, u5, u6]) ∧ But p H1 H' ∧ PotAt H' p (1500 * j)) ⟨⟨_, _, _, _, rfl⟩, (fun _ _ _ e => e), q1⟩ (fun _ _ _ _ _ => trivial) (fun j v σ H2' H2 hj z y => ?_) (fun σ H2 z => ?_)⟩
    · obtain ⟨⟨u3, u4, u5, u6, rfl⟩, b2, p2⟩ := z
      obtain ⟨rfl, rfl⟩ := y
      have j24 : j < 24 := hj
      refine ⟨.ref p, rfl, p, _, rfl, p2, by omega, fun v0 d0 H3 b3 p3 D0 S0 => ?_⟩
      refine ⟨.ref p, rfl, z4, fun l nl _ => ?_⟩
      have nlp := p3.ne nl
      refine ⟨p, l, _, _, rfl, pot_upd p3 nlp, nlp, .inl (.inl (.inl upd_same)), (show 1 ≤ 4 by decide), (show 4 ≤ 1000000 by decide), by omega, fun x H4 hx b4 p4 => ?_⟩
      have b34 : But p H3 H4 := fun b o ne e => b4 b o ne (same_new nl _ _ e)
      have hx' : ∃ m : Int, x = .int m ∧ 0 ≤ m ∧ m ≤ 2 := by
        simp only [List.mem_cons, List.not_mem_nil, or_false] at hx
        rcases hx with rfl | rfl | rfl | rfl
        · exact ⟨_, rfl, by decide, by decide⟩
        · exact ⟨_, rfl, by decide, by decide⟩
        · exact ⟨_, rfl, by decide, by decide⟩
        · exact ⟨_, rfl, by decide, by decide⟩
      obtain ⟨m, rfl, m0, m2⟩ := hx'
      refine ⟨m, rfl, by omega, by omega, for_it walk_range (fun r σ H' => (∃ (v : V) (d : PyData) (u5 : Option V), σ = [some (.ref a), some (.int (0 + (i : Int))), some (.ref p), some (.int (0 + (j : Int))), some v, u5, u6] ∧ Da p H' v d ∧ Sm d (6000 + 1300 * r) (3 + 13 * r)) ∧ But p H4 H' ∧ PotAt H' p (1500 * j + 61 + 680 * r))
        ⟨⟨v0, d0, u5, rfl, da_but D0 p3 b34, S0⟩, (fun _ _ _ e => e), p4.mono (by omega)⟩ (fun _ _ _ _ _ => trivial) (fun r v σ H5' H5 hr' z y => ?_) (fun σ H5 z => ?_)⟩
      · obtain ⟨⟨v', d', u5, rfl, Dv, Sv⟩, b5, p5⟩ := z
        obtain ⟨rfl, rfl⟩ := y
        have r2 : r < 2 := by omega
        have dv := Sv.dp
        refine ⟨.ref p, rfl, v', rfl, p, v', d', _, _, _, rfl, p5, Dv, by omega, Sv, by omega, by omega, fun v2 d2 H6 b6 p6 D2 S2 => ?_⟩
        exact ⟨⟨v2, d2, _, rfl, D2, S2.mono (by omega) (by omega)⟩, b5.trans b6, p6.mono (by omega)⟩
      · obtain ⟨⟨v', d', u5, rfl, Dv, Sv⟩, b5, p5⟩ := z
        have mm : (m - 0).toNat ≤ 2 := by omega
        refine ⟨v', rfl, p, v', d', _, _, rfl, Dv, Sv, by omega, by omega, ?_⟩
        refine ⟨v', rfl, p, v', d', rfl, Dv, fun H6 s6 => ⟨p, _, _, 0, 0, rfl, .bl _, Sm.bool _, by decide, by decide, v', rfl, p, v', d', rfl, Dv.same s6, fun H7 s7 => ⟨p, _, _, 0, 0, rfl, .bl _, Sm.bool _, by decide, by decide, rfl, _, rfl, ite2 (fun c => absurd c (by simp)) (fun _ => ?_)⟩⟩⟩
        have s67 := s6.trans s7
        refine ⟨v', rfl, p, v', d', _, _, rfl, Dv.same s67, Sv, by omega, by omega, _, rfl, rfl, _, rfl, ite2 (fun c => absurd c (by simp)) (fun _ => ?_)⟩
        exact ⟨⟨_, _, _, _, rfl⟩, (((b2.trans b3).trans b34).trans b5).trans (But.of s67), (p5.keep s67).mono (by omega)⟩
    · obtain ⟨⟨u3, u4, u5, u6, rfl⟩, b2, p2⟩ := z
      refine ⟨.ref p, rfl, p, _, rfl, p2, by decide, fun v0 d0 H3 b3 p3 D0 S0 => ?_⟩
      refine ⟨z1, fun t1' m1 => ?_⟩
      obtain ⟨r1, E1⟩ := new_tup (n := p) m1 (.cons (.str "ask") .nil)
      have D1 := D0.same r1
      have g1 := p3.keep r1
      generalize upd H3 t1' (.tup [.str "ask"]) = G1 at r1 E1 D1 g1 ⊢
      refine ⟨z2, fun t2 m2 => ?_⟩
      obtain ⟨r2, E2⟩ := new_tup (n := p) m2 (.cons (.str "word") (.cons .non .nil))
      have D2 := D1.same r2
      have g2 := g1.keep r2
      have F1 := E1.same r2
      generalize upd G1 t2 (.tup [.str "word", .non]) = G2 at r2 E2 D2 g2 F1 ⊢
      refine ⟨z4, fun t3 m3 => ?_⟩
      obtain ⟨r3, E3⟩ := new_tup (n := p) m3 (.cons (.str "ask") (.cons (.int 0) (.cons (.int 0) (.cons .non .nil))))
      have D3 := D2.same r3
      have g3 := g2.keep r3
      have F1 := F1.same r3
      have F2 := E2.same r3
      generalize upd G2 t3 (.tup [.str "ask", .int 0, .int 0, .non]) = G3 at r3 E3 D3 g3 F1 F2 ⊢
      refine ⟨z1, fun t4 m4 k4 => ?_⟩
      obtain ⟨r4, E4⟩ := new_lst m4 k4 g3 (.cons (.str "ask") .nil)
      have D4 := D3.same r4
      have g4 := g3.keep r4
      have F1 := F1.same r4
      have F2 := F2.same r4
      have F3 := E3.same r4
      generalize upd G3 t4 (.lst [.str "ask"]) = G4 at r4 E4 D4 g4 F1 F2 F3 ⊢
      refine ⟨z4, fun t5 m5 => ?_⟩
      obtain ⟨r5, E5⟩ := new_tup (n := p) m5 (.cons E4 (.cons (.int 0) (.cons (.int 0) (.cons .non .nil))))
      have D5 := D4.same r5
      have g5 := g4.keep r5
      have F1 := F1.same r5
      have F2 := F2.same r5
      have F3 := F3.same r5
      generalize upd G4 t5 (.tup [.ref t4, .int 0, .int 0, .non]) = G5 at r5 E5 D5 g5 F1 F2 F3 ⊢
      refine ⟨z5, fun t6 m6 => ?_⟩
      obtain ⟨r6, E6⟩ := new_tup (n := p) m6 (.cons D5 (.cons F1 (.cons F2 (.cons F3 (.cons E5 .nil)))))
      cases E6 with
      | tup e6 a6 =>
      rename_i xs
      have r06 := ((((r1.trans r2).trans r3).trans r4).trans r5).trans r6
      have e6' : (upd G5 t6 (.tup [v0, .ref t1', .ref t2, .ref t3, .ref t5])) t6 = some (.tup [v0, .ref t1', .ref t2, .ref t3, .ref t5]) := upd_same
      have ex : xs = [v0, .ref t1', .ref t2, .ref t3, .ref t5] := by
        rw [e6'] at e6
        cases e6
        rfl
      subst ex
      generalize upd G5 t6 (.tup [v0, .ref t1', .ref t2, .ref t3, .ref t5]) = G6 at r6 a6 r06 e6' ⊢
      refine ⟨t6, rfl, ⟨_, .inl (.inl e6')⟩, for_it (walk_tup (xs := [v0, .ref t1', .ref t2, .ref t3, .ref t5])) (fun j σ H' => (∃ u4, σ = [some (.ref a), some (.int (0 + (i : Int))), some (.ref p), u3, u4, u5, u6]) ∧ Same G6 H') ⟨⟨_, rfl⟩, Same.refl _⟩ (fun j σ H' _ p => .inl (.inl (p.2 _ _ e6'))) (fun j v σ H4 H5 hj z y => ?_) (fun σ H4 z => ?_)⟩
      · obtain ⟨⟨u4, rfl⟩, s4⟩ := z
        obtain ⟨rfl, gv⟩ := y
        obtain ⟨dv, _, Dv⟩ := a6.get j v gv
        have Dv' := Dv.same s4
        refine ⟨v, rfl, p, v, dv, rfl, Dv', fun H6 s6 => ⟨p, _, _, 0, 0, rfl, .bl _, Sm.bool _, by decide, by decide, v, rfl, p, v, dv, rfl, Dv'.same s6, fun H7 s7 => ⟨p, _, _, 0, 0, rfl, .bl _, Sm.bool _, by decide, by decide, rfl, _, rfl, ite2 (fun c => absurd c (by simp)) (fun _ => ?_)⟩⟩⟩
        exact ⟨⟨_, rfl⟩, (s4.trans s6).trans s7⟩
      · obtain ⟨⟨u4, rfl⟩, s4⟩ := z
        refine ⟨⟨_, _, _, _, _, _, rfl⟩, fun b o e => ?_⟩
        exact s4 _ _ (r06 _ _ (b3 _ _ (ne_of_none e npH) (b2 _ _ (ne_of_none e npH) (s1 b o e))))
end
end K58

set_option Elab.async false
set_option linter.all false
set_option maxRecDepth 100000
namespace K58
open PySem PySem.Spec PyProof.Rows L2 NB
set_option maxHeartbeats 8000000 in
theorem all_mk {l : PySem.W.OpenLaw} {w : World} {K : PySem.W.Frag} {h : Heap} {mg : Str → Option Value} {fa : Addr} (X : K.In h) (G : h.Ns mainGlobals mg) (hfa : mg "law" = some (.ref fa))
    {f1 : Addr} {od1 an1 : Option Addr} {sl1 : Array (Option Value)} {oc1 kV1 dc1 pm1 cd1 ct1 : Value}
    {f2 : Addr} {od2 an2 : Option Addr} {sl2 : Array (Option Value)} {oc2 kV2 dc2 pm2 cd2 ct2 : Value}
    {f3 : Addr} {od3 an3 : Option Addr} {sl3 : Array (Option Value)} {oc3 kV3 dc3 pm3 cd3 ct3 : Value}
    {f4 : Addr} {od4 an4 : Option Addr} {sl4 : Array (Option Value)} {oc4 kV4 dc4 pm4 cd4 ct4 : Value}
    {f5 : Addr} {od5 an5 : Option Addr} {sl5 : Array (Option Value)} {oc5 kV5 dc5 pm5 cd5 ct5 : Value}
    {f6 : Addr} {od6 an6 : Option Addr} {sl6 : Array (Option Value)} {oc6 kV6 dc6 pm6 cd6 ct6 : Value}
    {f7 : Addr} {od7 an7 : Option Addr} {sl7 : Array (Option Value)} {oc7 kV7 dc7 pm7 cd7 ct7 : Value}
    {f8 : Addr} {od8 an8 : Option Addr} {sl8 : Array (Option Value)} {oc8 kV8 dc8 pm8 cd8 ct8 : Value}
    {f9 : Addr} {od9 an9 : Option Addr} {sl9 : Array (Option Value)} {oc9 kV9 dc9 pm9 cd9 ct9 : Value}
    {f10 : Addr} {od10 an10 : Option Addr} {sl10 : Array (Option Value)} {oc10 kV10 dc10 pm10 cd10 ct10 : Value}
    {f11 : Addr} {od11 an11 : Option Addr} {sl11 : Array (Option Value)} {oc11 kV11 dc11 pm11 cd11 ct11 : Value}
    {f12 : Addr} {od12 an12 : Option Addr} {sl12 : Array (Option Value)} {oc12 kV12 dc12 pm12 cd12 ct12 : Value}
    {f13 : Addr} {od13 an13 : Option Addr} {sl13 : Array (Option Value)} {oc13 kV13 dc13 pm13 cd13 ct13 : Value}
    {f14 : Addr} {od14 an14 : Option Addr} {sl14 : Array (Option Value)} {oc14 kV14 dc14 pm14 cd14 ct14 : Value}
    {f15 : Addr} {od15 an15 : Option Addr} {sl15 : Array (Option Value)} {oc15 kV15 dc15 pm15 cd15 ct15 : Value}
    {f16 : Addr} {od16 an16 : Option Addr} {sl16 : Array (Option Value)} {oc16 kV16 dc16 pm16 cd16 ct16 : Value}
    {f17 : Addr} {od17 an17 : Option Addr} {sl17 : Array (Option Value)} {oc17 kV17 dc17 pm17 cd17 ct17 : Value}
    (a1 : PySem.W.nsIn K mainGlobals "is_whole" = some (some (.ref f1)))
    (l1 : K.lookup f1 = some ⟨oc1, od1, .func (PySem.W.fnOf "is_whole" "is_whole" (defArgs a_is_whole) (defBody a_is_whole) (defScope a_is_whole) .none kV1 dc1 pm1 an1 cd1 ct1), sl1⟩)
    (c1 : PySem.W.codeIn K cd1 "is_whole" = true) (k1 : PySem.W.keepIn K (.ref f1) = true)
    (a2 : PySem.W.nsIn K mainGlobals "is_count" = some (some (.ref f2)))
    (l2 : K.lookup f2 = some ⟨oc2, od2, .func (PySem.W.fnOf "is_count" "is_count" (defArgs a_is_count) (defBody a_is_count) (defScope a_is_count) .none kV2 dc2 pm2 an2 cd2 ct2), sl2⟩)
    (c2 : PySem.W.codeIn K cd2 "is_count" = true) (k2 : PySem.W.keepIn K (.ref f2) = true)
    (a3 : PySem.W.nsIn K mainGlobals "is_wish" = some (some (.ref f3)))
    (l3 : K.lookup f3 = some ⟨oc3, od3, .func (PySem.W.fnOf "is_wish" "is_wish" (defArgs a_is_wish) (defBody a_is_wish) (defScope a_is_wish) .none kV3 dc3 pm3 an3 cd3 ct3), sl3⟩)
    (c3 : PySem.W.codeIn K cd3 "is_wish" = true) (k3 : PySem.W.keepIn K (.ref f3) = true)
    (a4 : PySem.W.nsIn K mainGlobals "is_letter" = some (some (.ref f4)))
    (l4 : K.lookup f4 = some ⟨oc4, od4, .func (PySem.W.fnOf "is_letter" "is_letter" (defArgs a_is_letter) (defBody a_is_letter) (defScope a_is_letter) .none kV4 dc4 pm4 an4 cd4 ct4), sl4⟩)
    (c4 : PySem.W.codeIn K cd4 "is_letter" = true) (k4 : PySem.W.keepIn K (.ref f4) = true)
    (a5 : PySem.W.nsIn K mainGlobals "_law_pot" = some (some (.ref f5)))
    (l5 : K.lookup f5 = some ⟨oc5, od5, .func (PySem.W.fnOf "_law_pot" "_law_pot" (defArgs sPot) (defBody sPot) (defScope sPot) .none kV5 dc5 pm5 an5 cd5 ct5), sl5⟩)
    (c5 : PySem.W.codeIn K cd5 "_law_pot" = true) (k5 : PySem.W.keepIn K (.ref f5) = true)
    (a6 : PySem.W.nsIn K mainGlobals "_law_take" = some (some (.ref f6)))
    (l6 : K.lookup f6 = some ⟨oc6, od6, .func (PySem.W.fnOf "_law_take" "_law_take" (defArgs sTake) (defBody sTake) (defScope sTake) .none kV6 dc6 pm6 an6 cd6 ct6), sl6⟩)
    (c6 : PySem.W.codeIn K cd6 "_law_take" = true) (k6 : PySem.W.keepIn K (.ref f6) = true)
    (a7 : PySem.W.nsIn K mainGlobals "_law_of" = some (some (.ref f7)))
    (l7 : K.lookup f7 = some ⟨oc7, od7, .func (PySem.W.fnOf "_law_of" "_law_of" (defArgs sOf) (defBody sOf) (defScope sOf) .none kV7 dc7 pm7 an7 cd7 ct7), sl7⟩)
    (c7 : PySem.W.codeIn K cd7 "_law_of" = true) (k7 : PySem.W.keepIn K (.ref f7) = true)
    (a8 : PySem.W.nsIn K mainGlobals "_law_is_whole" = some (some (.ref f8)))
    (l8 : K.lookup f8 = some ⟨oc8, od8, .func (PySem.W.fnOf "_law_is_whole" "_law_is_whole" (defArgs a__law_is_whole) (defBody a__law_is_whole) (defScope a__law_is_whole) .none kV8 dc8 pm8 an8 cd8 ct8), sl8⟩)
    (c8 : PySem.W.codeIn K cd8 "_law_is_whole" = true) (k8 : PySem.W.keepIn K (.ref f8) = true)
    (a9 : PySem.W.nsIn K mainGlobals "_law_number" = some (some (.ref f9)))
    (l9 : K.lookup f9 = some ⟨oc9, od9, .func (PySem.W.fnOf "_law_number" "_law_number" (defArgs a__law_number) (defBody a__law_number) (defScope a__law_number) .none kV9 dc9 pm9 an9 cd9 ct9), sl9⟩)
    (c9 : PySem.W.codeIn K cd9 "_law_number" = true) (k9 : PySem.W.keepIn K (.ref f9) = true)
    (a10 : PySem.W.nsIn K mainGlobals "_law_wish" = some (some (.ref f10)))
    (l10 : K.lookup f10 = some ⟨oc10, od10, .func (PySem.W.fnOf "_law_wish" "_law_wish" (defArgs a__law_wish) (defBody a__law_wish) (defScope a__law_wish) .none kV10 dc10 pm10 an10 cd10 ct10), sl10⟩)
    (c10 : PySem.W.codeIn K cd10 "_law_wish" = true) (k10 : PySem.W.keepIn K (.ref f10) = true)
    (a11 : PySem.W.nsIn K mainGlobals "_law_letter" = some (some (.ref f11)))
    (l11 : K.lookup f11 = some ⟨oc11, od11, .func (PySem.W.fnOf "_law_letter" "_law_letter" (defArgs a__law_letter) (defBody a__law_letter) (defScope a__law_letter) .none kV11 dc11 pm11 an11 cd11 ct11), sl11⟩)
    (c11 : PySem.W.codeIn K cd11 "_law_letter" = true) (k11 : PySem.W.keepIn K (.ref f11) = true)
    (a12 : PySem.W.nsIn K mainGlobals "_law_odd" = some (some (.ref f12)))
    (l12 : K.lookup f12 = some ⟨oc12, od12, .func (PySem.W.fnOf "_law_odd" "_law_odd" (defArgs a__law_odd) (defBody a__law_odd) (defScope a__law_odd) .none kV12 dc12 pm12 an12 cd12 ct12), sl12⟩)
    (c12 : PySem.W.codeIn K cd12 "_law_odd" = true) (k12 : PySem.W.keepIn K (.ref f12) = true)
    (a13 : PySem.W.nsIn K mainGlobals "_law_bent" = some (some (.ref f13)))
    (l13 : K.lookup f13 = some ⟨oc13, od13, .func (PySem.W.fnOf "_law_bent" "_law_bent" (defArgs a__law_bent) (defBody a__law_bent) (defScope a__law_bent) .none kV13 dc13 pm13 an13 cd13 ct13), sl13⟩)
    (c13 : PySem.W.codeIn K cd13 "_law_bent" = true) (k13 : PySem.W.keepIn K (.ref f13) = true)
    (a14 : PySem.W.nsIn K mainGlobals "_law_is_count" = some (some (.ref f14)))
    (l14 : K.lookup f14 = some ⟨oc14, od14, .func (PySem.W.fnOf "_law_is_count" "_law_is_count" (defArgs a__law_is_count) (defBody a__law_is_count) (defScope a__law_is_count) .none kV14 dc14 pm14 an14 cd14 ct14), sl14⟩)
    (c14 : PySem.W.codeIn K cd14 "_law_is_count" = true) (k14 : PySem.W.keepIn K (.ref f14) = true)
    (a15 : PySem.W.nsIn K mainGlobals "_law_is_wish" = some (some (.ref f15)))
    (l15 : K.lookup f15 = some ⟨oc15, od15, .func (PySem.W.fnOf "_law_is_wish" "_law_is_wish" (defArgs a__law_is_wish) (defBody a__law_is_wish) (defScope a__law_is_wish) .none kV15 dc15 pm15 an15 cd15 ct15), sl15⟩)
    (c15 : PySem.W.codeIn K cd15 "_law_is_wish" = true) (k15 : PySem.W.keepIn K (.ref f15) = true)
    (a16 : PySem.W.nsIn K mainGlobals "_law_due" = some (some (.ref f16)))
    (l16 : K.lookup f16 = some ⟨oc16, od16, .func (PySem.W.fnOf "_law_due" "_law_due" (defArgs a__law_due) (defBody a__law_due) (defScope a__law_due) .none kV16 dc16 pm16 an16 cd16 ct16), sl16⟩)
    (c16 : PySem.W.codeIn K cd16 "_law_due" = true) (k16 : PySem.W.keepIn K (.ref f16) = true)
    (a17 : PySem.W.nsIn K mainGlobals "law" = some (some (.ref f17)))
    (l17 : K.lookup f17 = some ⟨oc17, od17, .func (PySem.W.fnOf "law" "law" (defArgs a_law) (defBody a_law) (defScope a_law) .none kV17 dc17 pm17 an17 cd17 ct17), sl17⟩)
    (c17 : PySem.W.codeIn K cd17 "law" = true) (k17 : PySem.W.keepIn K (.ref f17) = true)
    {tk1 : Tok} (v1 : PySem.W.nsIn K mainGlobals "MOST_THINGS" = some (some (.int 12 tk1)))
    (z1 : PySem.W.nsIn K mainGlobals "abs" = some none)
    (z2 : PySem.W.nsIn K mainGlobals "all" = some none)
    (z3 : PySem.W.nsIn K mainGlobals "bool" = some none)
    (z4 : PySem.W.nsIn K mainGlobals "int" = some none)
    (z5 : PySem.W.nsIn K mainGlobals "isinstance" = some none)
    (z6 : PySem.W.nsIn K mainGlobals "len" = some none)
    (z7 : PySem.W.nsIn K mainGlobals "list" = some none)
    (z8 : PySem.W.nsIn K mainGlobals "max" = some none)
    (z9 : PySem.W.nsIn K mainGlobals "min" = some none)
    (z10 : PySem.W.nsIn K mainGlobals "range" = some none)
    (z11 : PySem.W.nsIn K mainGlobals "repr" = some none)
    (z12 : PySem.W.nsIn K mainGlobals "str" = some none)
    (z13 : PySem.W.nsIn K mainGlobals "tuple" = some none)
    : ∃ fd : FuncData, (∀ (s : Shared) (v : Value), BindsTo s fd ⟨[v], []⟩ [("_law_script", v)]) ∧ ∀ base : Heap, K.In base → base.Ns mainGlobals mg → FnG l.prog w K mg base 22 fa fd ["_law_script"] (spLaw K) := by
  have e := hfa.symm.trans (PySem.W.mg_of X G a17)
  cases e
  have F1 := fun_mk (st := a_is_whole) l1 c1 k1
  have b1 := F1.binds (ps := ["thing"]) fun _ _ _ _ _ _ us hl => match us, hl with | [_], _ => rfl
  have g1 := PySem.W.mg_of X G a1
  have F2 := fun_mk (st := a_is_count) l2 c2 k2
  have b2 := F2.binds (ps := ["thing"]) fun _ _ _ _ _ _ us hl => match us, hl with | [_], _ => rfl
  have g2 := PySem.W.mg_of X G a2
  have F3 := fun_mk (st := a_is_wish) l3 c3 k3
  have b3 := F3.binds (ps := ["thing"]) fun _ _ _ _ _ _ us hl => match us, hl with | [_], _ => rfl
  have g3 := PySem.W.mg_of X G a3
  have F4 := fun_mk (st := a_is_letter) l4 c4 k4
  have b4 := F4.binds (ps := ["thing"]) fun _ _ _ _ _ _ us hl => match us, hl with | [_], _ => rfl
  have g4 := PySem.W.mg_of X G a4
  have F5 := fun_mk (st := sPot) l5 c5 k5
  have b5 := F5.binds (ps := ["_law_script", "_law_k"]) fun _ _ _ _ _ _ us hl => match us, hl with | [_, _], _ => rfl
  have g5 := PySem.W.mg_of X G a5
  have F6 := fun_mk (st := sTake) l6 c6 k6
  have b6 := F6.binds (ps := ["_law_pot_here", "_law_many"]) fun _ _ _ _ _ _ us hl => match us, hl with | [_, _], _ => rfl
  have g6 := PySem.W.mg_of X G a6
  have F7 := fun_mk (st := sOf) l7 c7 k7
  have b7 := F7.binds (ps := ["_law_pot_here", "_law_some"]) fun _ _ _ _ _ _ us hl => match us, hl with | [_, _], _ => rfl
  have g7 := PySem.W.mg_of X G a7
  have F8 := fun_mk (st := a__law_is_whole) l8 c8 k8
  have b8 := F8.binds (ps := ["_law_thing"]) fun _ _ _ _ _ _ us hl => match us, hl with | [_], _ => rfl
  have g8 := PySem.W.mg_of X G a8
  have F9 := fun_mk (st := a__law_number) l9 c9 k9
  have b9 := F9.binds (ps := ["_law_pot_here"]) fun _ _ _ _ _ _ us hl => match us, hl with | [_], _ => rfl
  have g9 := PySem.W.mg_of X G a9
  have F10 := fun_mk (st := a__law_wish) l10 c10 k10
  have b10 := F10.binds (ps := ["_law_pot_here"]) fun _ _ _ _ _ _ us hl => match us, hl with | [_], _ => rfl
  have g10 := PySem.W.mg_of X G a10
  have F11 := fun_mk (st := a__law_letter) l11 c11 k11
  have b11 := F11.binds (ps := ["_law_pot_here"]) fun _ _ _ _ _ _ us hl => match us, hl with | [_], _ => rfl
  have g11 := PySem.W.mg_of X G a11
  have F12 := fun_mk (st := a__law_odd) l12 c12 k12
  have b12 := F12.binds (ps := ["_law_pot_here"]) fun _ _ _ _ _ _ us hl => match us, hl with | [_], _ => rfl
  have g12 := PySem.W.mg_of X G a12
  have F13 := fun_mk (st := a__law_bent) l13 c13 k13
  have b13 := F13.binds (ps := ["_law_pot_here", "_law_thing"]) fun _ _ _ _ _ _ us hl => match us, hl with | [_, _], _ => rfl
  have g13 := PySem.W.mg_of X G a13
  have F14 := fun_mk (st := a__law_is_count) l14 c14 k14
  have b14 := F14.binds (ps := ["_law_thing"]) fun _ _ _ _ _ _ us hl => match us, hl with | [_], _ => rfl
  have g14 := PySem.W.mg_of X G a14
  have F15 := fun_mk (st := a__law_is_wish) l15 c15 k15
  have b15 := F15.binds (ps := ["_law_thing"]) fun _ _ _ _ _ _ us hl => match us, hl with | [_], _ => rfl
  have g15 := PySem.W.mg_of X G a15
  have F16 := fun_mk (st := a__law_due) l16 c16 k16
  have b16 := F16.binds (ps := ["_law_thing"]) fun _ _ _ _ _ _ us hl => match us, hl with | [_], _ => rfl
  have g16 := PySem.W.mg_of X G a16
  have F17 := fun_mk (st := a_law) l17 c17 k17
  have m1 := PySem.W.mg_none_of X G z1
  have m2 := PySem.W.mg_none_of X G z2
  have m3 := PySem.W.mg_none_of X G z3
  have m4 := PySem.W.mg_none_of X G z4
  have m5 := PySem.W.mg_none_of X G z5
  have m6 := PySem.W.mg_none_of X G z6
  have m7 := PySem.W.mg_none_of X G z7
  have m8 := PySem.W.mg_none_of X G z8
  have m9 := PySem.W.mg_none_of X G z9
  have m10 := PySem.W.mg_none_of X G z10
  have m11 := PySem.W.mg_none_of X G z11
  have m12 := PySem.W.mg_none_of X G z12
  have m13 := PySem.W.mg_none_of X G z13
  have gv1 := PySem.W.mg_of X G v1
  refine ⟨PySem.W.fnOf "law" "law" (defArgs a_law) (defBody a_law) (defScope a_law) .none kV17 dc17 pm17 an17 cd17 ct17, fun s v => .of_eq rfl, fun base _ _ => ?_⟩
  have K_is_whole := Kn.mk (x := "is_whole") (base := base) (w := w) (P := l.prog) (ok_is_whole (k := 0) F1 m3 m4 m5) g1 F1.kp b1
  have K_is_count := Kn.mk (x := "is_count") (base := base) (w := w) (P := l.prog) (ok_is_count (k := 0) F2 K_is_whole) g2 F2.kp b2
  have K_is_wish := Kn.mk (x := "is_wish") (base := base) (w := w) (P := l.prog) (ok_is_wish (k := 0) F3 K_is_whole K_is_count gv1 m2 m5 m6 m13) g3 F3.kp b3
  have K_is_letter := Kn.mk (x := "is_letter") (base := base) (w := w) (P := l.prog) (ok_is_letter (k := 0) F4 K_is_count K_is_wish m5 m6 m12 m13) g4 F4.kp b4
  have Kpot := Kn.mk (x := "_law_pot") (base := base) (w := w) (P := l.prog) (ok_pot (k := 0) F5 m6 m1 m4) g5 F5.kp b5
  have K__law_pot := Kpot
  have Ktake := Kn.mk (x := "_law_take") (base := base) (w := w) (P := l.prog) (ok_take (k := 0) F6) g6 F6.kp b6
  have K__law_take := Ktake
  have Kof := Kn.mk (x := "_law_of") (base := base) (w := w) (P := l.prog) (ok_of (k := 0) F7 Ktake m6) g7 F7.kp b7
  have K__law_of := Kof
  have K__law_is_whole := Kn.mk (x := "_law_is_whole") (base := base) (w := w) (P := l.prog) (ok__law_is_whole (k := 0) F8 m3 m4 m5) g8 F8.kp b8
  have K__law_number := Kn.mk (x := "_law_number") (base := base) (w := w) (P := l.prog) (ok__law_number (k := 0) F9 K__law_of K__law_take) g9 F9.kp b9
  have K__law_wish := Kn.mk (x := "_law_wish") (base := base) (w := w) (P := l.prog) (ok__law_wish (k := 0) F10 K__law_of K__law_take K__law_number m10 m13) g10 F10.kp b10
  have K__law_letter := Kn.mk (x := "_law_letter") (base := base) (w := w) (P := l.prog) (ok__law_letter (k := 0) F11 K__law_of K__law_number K__law_wish) g11 F11.kp b11
  have K__law_odd := Kn.mk (x := "_law_odd") (base := base) (w := w) (P := l.prog) (ok__law_odd (k := 0) F12 K__law_of K__law_take m10) g12 F12.kp b12
  have K__law_bent := Kn.mk (x := "_law_bent") (base := base) (w := w) (P := l.prog) (ok_bentN F13 K__law_odd K__law_take g13 b13 m5 m6 m7 m13 17) g13 F13.kp b13
  have K__law_is_count := Kn.mk (x := "_law_is_count") (base := base) (w := w) (P := l.prog) (ok__law_is_count (k := 0) F14 K__law_is_whole) g14 F14.kp b14
  have K__law_is_wish := Kn.mk (x := "_law_is_wish") (base := base) (w := w) (P := l.prog) (ok__law_is_wish (k := 0) F15 K__law_is_count m2 m5 m6 m13) g15 F15.kp b15
  have K__law_due := Kn.mk (x := "_law_due") (base := base) (w := w) (P := l.prog) (ok__law_due (k := 0) F16 K__law_is_count K__law_is_wish m5 m6 m12 m13) g16 F16.kp b16
  exact ok_law F17 K__law_pot K__law_letter K__law_of K__law_bent K_is_letter K__law_due K__law_odd m6 m8 m9 m10 m11
end K58
open PySem PySem.W PyProof.Rows
set_option maxHeartbeats 0 in
theorem PySem.Challenge.cw_notbothout_k58_letters_of_anything_holds : PySem.Challenge.rw_notbothout_k58_letters_of_anything.Holds := by
  w_on; o_law; k_head; (case hw => w_witness2)
  k_fill
  refine NB.walkG (l := PySem.Challenge.rw_notbothout_k58_letters_of_anything) (n := 63) (k := 22) (x := "_law_script") (sp := fun w => K58.spLaw _) rfl (by decide) rfl ⟨rfl, by decide, by decide⟩ (fun w h Y => PySem.W.kIn_of Y) ?F (fun _ _ a ns hl hS => ⟨a, ns, rfl, hS, hl, fun _ => rfl⟩)
  case F =>
    intro w mg fa h KX G hmg
    refine' K58.all_mk KX G hmg ?a1 ?l1 ?c1 ?k1 ?a2 ?l2 ?c2 ?k2 ?a3 ?l3 ?c3 ?k3 ?a4 ?l4 ?c4 ?k4 ?a5 ?l5 ?c5 ?k5 ?a6 ?l6 ?c6 ?k6 ?a7 ?l7 ?c7 ?k7 ?a8 ?l8 ?c8 ?k8 ?a9 ?l9 ?c9 ?k9 ?a10 ?l10 ?c10 ?k10 ?a11 ?l11 ?c11 ?k11 ?a12 ?l12 ?c12 ?k12 ?a13 ?l13 ?c13 ?k13 ?a14 ?l14 ?c14 ?k14 ?a15 ?l15 ?c15 ?k15 ?a16 ?l16 ?c16 ?k16 ?a17 ?l17 ?c17 ?k17 ?v1 ?z1 ?z2 ?z3 ?z4 ?z5 ?z6 ?z7 ?z8 ?z9 ?z10 ?z11 ?z12 ?z13
    (case a1 => k_is)
    (case l1 => k_is)
    (case c1 => k_is)
    (case k1 => k_is)
    (case a2 => k_is)
    (case l2 => k_is)
    (case c2 => k_is)
    (case k2 => k_is)
    (case a3 => k_is)
    (case l3 => k_is)
    (case c3 => k_is)
    (case k3 => k_is)
    (case a4 => k_is)
    (case l4 => k_is)
    (case c4 => k_is)
    (case k4 => k_is)
    (case a5 => k_is)
    (case l5 => k_is)
    (case c5 => k_is)
    (case k5 => k_is)
    (case a6 => k_is)
    (case l6 => k_is)
    (case c6 => k_is)
    (case k6 => k_is)
    (case a7 => k_is)
    (case l7 => k_is)
    (case c7 => k_is)
    (case k7 => k_is)
    (case a8 => k_is)
    (case l8 => k_is)
    (case c8 => k_is)
    (case k8 => k_is)
    (case a9 => k_is)
    (case l9 => k_is)
    (case c9 => k_is)
    (case k9 => k_is)
    (case a10 => k_is)
    (case l10 => k_is)
    (case c10 => k_is)
    (case k10 => k_is)
    (case a11 => k_is)
    (case l11 => k_is)
    (case c11 => k_is)
    (case k11 => k_is)
    (case a12 => k_is)
    (case l12 => k_is)
    (case c12 => k_is)
    (case k12 => k_is)
    (case a13 => k_is)
    (case l13 => k_is)
    (case c13 => k_is)
    (case k13 => k_is)
    (case a14 => k_is)
    (case l14 => k_is)
    (case c14 => k_is)
    (case k14 => k_is)
    (case a15 => k_is)
    (case l15 => k_is)
    (case c15 => k_is)
    (case k15 => k_is)
    (case a16 => k_is)
    (case l16 => k_is)
    (case c16 => k_is)
    (case k16 => k_is)
    (case a17 => k_is)
    (case l17 => k_is)
    (case c17 => k_is)
    (case k17 => k_is)
    (case v1 => k_is)
    (case z1 => k_is)
    (case z2 => k_is)
    (case z3 => k_is)
    (case z4 => k_is)
    (case z5 => k_is)
    (case z6 => k_is)
    (case z7 => k_is)
    (case z8 => k_is)
    (case z9 => k_is)
    (case z10 => k_is)
    (case z11 => k_is)
    (case z12 => k_is)
    (case z13 => k_is)
