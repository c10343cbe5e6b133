import PyProof.Rows.All
import Wide.All
import OpenK.AllK
import Wide.FinOn
import HandS.Base
import HandS.Call
import HandS.List
import HandS.Comp
import HandS.Ends
import HandS.Dict
import HandS.Iter
import HandS.Text
import HandS.Words
import HandS.WordsList
import HandS.WordsDict
import HandS.Wide
import HandS.Zip
import HandS.Flow
import HandS.Flt
import KE.GoesMore
import KE.KDictZip
import PyProof.ReprRoads
import HandS.Walk
import PyProof.TupleOfSeq
import KE.GoesEnum
import HandS.Style
import PyProof.ReprLen
import HandS.IsInst
import HandS.TupAny
import PyProof.EqAt
import PyProof.NeKinds
import HandS.Codes
import HandS.Defaults
import HandS.TupMul
import PySem.Challenge.RW_notbothout_k02_sides_and_standings_of_an
set_option Elab.async false
set_option linter.all false
set_option maxRecDepth 100000
/-! Defs whose callers are known to show nothing (guards empty): what repr wants. -/
namespace NB
open PySem PySem.Spec PyProof.Rows L2

/-- a def's promise, wherever nothing is being shown around it -/
structure FnG (P : Program) (w : World) (K : PySem.W.Frag) (mg : Str → Option Value) (base : Heap) (k : Nat) (f : Addr) (fd : FuncData) (ps : List Str) (sp : Sp) : Prop where
  len : ∀ vs H Q E, sp vs H Q E → vs.length = ps.length
  go : ∀ (A : Around) (out : List Env) (s : Shared) (H : Hp) (ar : Args) (us : List Value) (vs : List V) (Q : VK) (E : XK),
    A.guards = some [] → Room k A → Env0 P w K mg base A out s H → BindsTo s fd ar (ps.zip us) → Vals vs us → sp vs H Q E →
    codeAny (model P w) A (.call (.ref f) ar) (CR CX0 out P w H s Q E) s

section
variable {P : Program} {w : World} {K : PySem.W.Frag} {mg : Str → Option Value} {base : Heap}

theorem FnG.of {k : Nat} {f : Addr} {fd : FuncData} {ps : List Str} {sp : Sp} (F : FnOk P w K mg base CX0 k f fd ps sp) : FnG P w K mg base k f fd ps sp :=
  ⟨F.len, fun A out s H ar us vs Q E _ => F.run A out s H ar us vs Q E⟩

theorem fnG {x qual : Str} {st : Stmt} {f : Addr} {fd : FuncData} {N ps : List Str} {k : Nat} {sp : Sp} (F : Fun K x qual st f fd)
    (S : FnScope N ps (defScope st)) (len : ∀ vs H Q E, sp vs H Q E → vs.length = ps.length)
    (body : ∀ (c : Value) (A : Around) (out : List Env) (s : Shared) (H : Hp) (vs : List V) (Q : VK) (E : XK),
      A.guards = some [] → Room k (A.deeper (envOfC qual (defScope st) s.heap.objs.size f c)) → sp vs H Q E →
      ∃ t, PSs (cxOf CX0 P w K mg base N qual (defScope st) f c A out s H E).nox (defBody st) t ∧
        t { nx := fun _ H' => Q .non H', rt := Q } (start N vs) H) :
    FnG P w K mg base (k + 1) f fd ps sp := by
  obtain ⟨oc, od, kV, doc, pm, an, c, ct, osl, rfl, lk, hc⟩ := F.ex
  refine ⟨len, fun A out s H ar us vs Q E hg hr e hb r h => ?_⟩
  have stays : ∀ b o, base.get? b = some o → s.heap.get? b = some o := fun b o q => (e.bs b o q).1
  have inH : K.In s.heap := e.mod.kin.keeps stays
  have noLim : s.heap.NoLimit := e.mod.nolimit.keeps stays
  have kinds : ∀ y ∈ ps.zip us, (defScope st).names.lookup y.1 = some .local ∨
      ((defScope st).names.lookup y.1 = some .cell ∧ ((cellsFrom (s.heap.objs.size + 1) (defScope st).names []).lookup y.1).isSome = true) := by
    intro y hy
    obtain ⟨n, v⟩ := y
    cases S.par n (List.of_mem_zip hy).1 with
    | inl q => exact .inl q
    | inr q => exact .inr ⟨q, PySem.W.cellsFrom_some _ _ _ (.inl q)⟩
  refine codeAny_call_function hr.depth (inH _ _ lk) rfl S.co S.gen rfl (PySem.W.codeRec_of inH hc) (hb _ _ _ _ ?_)
  refine wpAny_newFunctionEnv_cells S.kind kinds ?_
  rintro env rfl s1 x
  refine ⟨noLim.keeps x.toInCall.keep, codeAny_func ?_⟩
  obtain ⟨t, ht, hq⟩ := body c A out s H vs Q E hg (hr.deeper _) h
  have I := inv_start (CX := CX0) (E := E) S hr.hd e (len _ _ _ _ h) r x
  refine wpAny_mono (ht.nox.run [] s1 (start N vs) H _ I hq) ?_ fun _ _ z => z
  intro fl s' z
  cases fl with
  | ret u =>
    obtain ⟨v, σ', H', J, rv, q⟩ := z
    exact ⟨v, H', J.os, J.bare, J.base, J.hok, rv, q⟩
  | next =>
    obtain ⟨σ', H', J, q⟩ := z
    exact ⟨V.non, H', J.os, J.bare, J.base, J.hok, rfl, q⟩
  | brk => exact False.elim z.choose_spec.choose_spec.2
  | cont => exact False.elim z.choose_spec.choose_spec.2
end

section
variable {X : Cx} {k : Nat} {f : Addr} {fd : FuncData} {ps : List Str} {sp : Sp} {x : Str} {p pos : Pos} {e : Expr} {es : List Expr} {t : TA}
/-- f(..) of such a def, all arguments written -/
theorem pe_callG (hG : X.A.guards = some []) (F : FnG X.prog X.w X.K X.mg X.base k f fd ps sp) (hr : Room k X.A) (hg : Gl X x) (hm : X.mg x = some (.ref f))
    (hk : PySem.W.keepIn X.K (.ref f) = true) (hb : Binds X.K fd ps []) (ha : PA X (e :: es) t) (hdb : (x == ("__debug__" : Str)) = false := by decide)
    (he : starEach (e :: es) X.env = (false, eval e X.env) :: starEach es X.env := by rfl) (hpl : (backTo pos (starEach es X.env)).any (·.1) = false := by rfl) :
    PE X (.Call (.Name x p) (e :: es) [] pos) (tCall sp [] E0 t) := by
  refine ⟨fun pins s σ H Q I h => wpAny_Call_Name_kw (ld_glob I hg hm ?_ hdb)⟩
  refine PySem.W.callWith_K (h₀ := X.base) I.ok.mod.kin hk (thn (ha.run pos pins s σ H _ I h) ?_) he hpl
  rintro us s1 ⟨vs, H1, I1, r, q⟩
  refine ⟨I1.kIn, wpAny_call ?_⟩
  have q2 : sp vs H1 Q E0 := by
    have q' : sp (vs ++ []) H1 Q E0 := q
    rwa [List.append_nil] at q'
  have ln : us.length = ps.length := r.length.symm.trans (F.len _ _ _ _ q2)
  have bnd : BindsTo s1 fd ⟨us, []⟩ (ps.zip us) := by
    have b := hb s1 us I1.kIn (by rw [List.append_nil]; exact ln)
    rwa [List.append_nil] at b
  refine codeAny_mono (F.go X.A X.stack s1 H1 ⟨us, []⟩ us vs Q E0 hG hr I1.env0 bnd r q2) ?_
  intro rs s' z
  cases rs with
  | error e => exact False.elim z
  | ok fl =>
    cases fl with
    | ret u => exact I1.after z
    | next => exact False.elim z
    | brk => exact False.elim z
    | cont => exact False.elim z
end

section
variable {X : Cx}
/-- what repr asks of data -/
structure Showable (d : PyData) : Prop where
  sh : d.showable = true
  nd : d.hasDict = false
  dp : d.depth ≤ 60
  sz : d.shown.length ≤ sizeLine
/-- repr(x), x a list or a tuple of data -/
theorem call_reprD (hG : X.A.guards = some []) (hu : X.A.units + 64 < cLine) : CallR X (.builtin "repr") (fun xs H Q => ∃ a d, xs = [.ref a] ∧ Dp X.K H (.ref a) d ∧ Showable d ∧ Q (.str d.shown) H) := by
  intro pins s σ H xs us Q I r h
  obtain ⟨a, d, rfl, hd, S, q⟩ := h
  obtain ⟨u, rfl, ru⟩ := vals1 r
  obtain ⟨as, rd⟩ := Dp.reads I d _ u hd ru
  cases ru
  have hn := S.dp
  exact repr_of_reads' rd S.sh (PyData.noDict_hsm S.nd) hG (by omega) (fun _ _ z => z) (fun h' u tk hk => ⟨.str _, H, I.kept hk, ⟨_, rfl⟩, q⟩) S.sz
end
end NB

set_option Elab.async false
set_option linter.all false
set_option maxRecDepth 100000
set_option maxHeartbeats 1000000
/-! zip of three tuples of one length, its turns given to one name or to three. -/
namespace NB
open PySem PySem.Spec PyProof.Rows L2
open PySem.Sem (wp)

/-- a zip as it stands between two turns: a is None or the tuple given out last -/
abbrev Zat (h : Heap) (z ti to : Addr) (a b : Value) : Prop :=
  h.get? z = some { cls := .type "zip", dict := none, data := .fields #[a, b, .bool false, .ref ti, .ref to], slots := #[] }
def Out (a : Value) : Prop := a = .none ∨ ∃ T : Addr, a = rawInt T

section
variable {prog : Program} {w : World} {A : Around} {E : Value → Shared → Prop} {s : Shared} {z ti to i1 i2 i3 l1 l2 l3 : Addr} {a a1 a2 a3 : Value} {f : Bool} {xs ys zs : Array Value} {i : Nat}

theorem freeOr {Q : Bool → Shared → Prop} (ho : Out a) (hz : Zat s.heap z ti to a (.bool f))
    (h : ∀ (b : Bool) (h' : Heap) (g : Bool), Zat h' z ti to a (.bool g) → Heap.SameBut z s.heap h' → Q b { s with heap := h' }) :
    wpAny (model prog w) A (Builtin.SmallTypes.ownedTupleIsFree (.ref z)) Q E s := by
  unfold Builtin.SmallTypes.ownedTupleIsFree
  refine wpAny_bind (wpAny_field hz rfl (x := a) rfl ?_)
  rcases ho with e | ⟨T, e⟩
  · subst e
    exact wpAny_pure (h true s.heap f hz (Heap.SameBut.refl _ _))
  · subst e
    show wpAny _ _ (loadIfAlive ((T : Int).toNat) >>= _) _ _ _
    rw [Int.toNat_natCast]
    refine wpAny_bind ?_
    cases e : s.heap.get? T with
    | none =>
      have key : wpAny (model prog w) A (loadIfAlive T) (fun r s' => r = none ∧ s' = s) E s := fun _ _ _ => ⟨e, rfl⟩
      refine thn key fun r s' q => ?_
      obtain ⟨rfl, rfl⟩ := q
      exact wpAny_pure (h true _ f hz (Heap.SameBut.refl _ _))
    | some o =>
      refine PySem.W.kdx_alive e ?_
      simp only [Option.isNone_some, Bool.false_eq_true, if_false]
      refine wpAny_bind (wpAny_field hz rfl (x := .bool f) rfl ?_)
      cases f with
      | true =>
        rw [if_neg (show ¬ ((Value.bool true != Value.bool true) = true) by decide)]
        exact wpAny_pure (h false s.heap true hz (Heap.SameBut.refl _ _))
      | false =>
        rw [if_pos (show (Value.bool false != Value.bool true) = true by decide)]
        exact wpAny_bind (wpAny_setField_rec hz (by simp) fun h1 z1 s1 => wpAny_pure (h false h1 true z1 s1))

/-- the three iterators over their tuples at turn i, apart from the zip's own cells -/
abbrev St3 (h : Heap) (i1 i2 i3 l1 l2 l3 : Addr) (xs ys zs : Array Value) (i : Nat) : Prop :=
  (h.IsTupleIter i1 l1 i ∧ h.IsTuple l1 xs) ∧ (h.IsTupleIter i2 l2 i ∧ h.IsTuple l2 ys) ∧ (h.IsTupleIter i3 l3 i ∧ h.IsTuple l3 zs)

theorem keepIt {h h' : Heap} {it l : Addr} {k : Nat} {vs : Array Value} (st : h.IsTupleIter it l k ∧ h.IsTuple l vs) {x : Addr} (hs : Heap.SameBut x h h') (n1 : it ≠ x) (n2 : l ≠ x) : h'.IsTupleIter it l k ∧ h'.IsTuple l vs :=
  ⟨st.1.extBut hs.extBut n1, st.2.extBut hs.extBut n2⟩

structure Far3 (z ti to i1 i2 i3 l1 l2 l3 : Addr) : Prop where
  tiz : ti ≠ z
  toz : to ≠ z
  tito : ti ≠ to
  ti1 : ti ≠ i1
  ti2 : ti ≠ i2
  ti3 : ti ≠ i3
  to1 : to ≠ i1
  to2 : to ≠ i2
  to3 : to ≠ i3
  z1 : i1 ≠ z
  z2 : i2 ≠ z
  z3 : i3 ≠ z
  n12 : i1 ≠ i2
  n13 : i1 ≠ i3
  n23 : i2 ≠ i3
  l1n : l1 ≠ z ∧ l1 ≠ to ∧ l1 ≠ i1 ∧ l1 ≠ i2 ∧ l1 ≠ i3
  l2n : l2 ≠ z ∧ l2 ≠ to ∧ l2 ≠ i1 ∧ l2 ≠ i2 ∧ l2 ≠ i3
  l3n : l3 ≠ z ∧ l3 ≠ to ∧ l3 ≠ i1 ∧ l3 ≠ i2 ∧ l3 ≠ i3

theorem drawT {it l : Addr} {k : Nat} {vs : Array Value} {x : Value} {Q : Value → Shared → Prop} (st : s.heap.IsTupleIter it l k ∧ s.heap.IsTuple l vs) (ne : l ≠ it) (hx : vs[k]? = some x)
    (h : ∀ h', (h'.IsTupleIter it l (k + 1) ∧ h'.IsTuple l vs) → Heap.SameBut it s.heap h' → Q x { s with heap := h' }) :
    wpAny (model prog w) A (Builtin.SmallTypes.nextOf (.ref it)) Q E s :=
  RZ.nextOf_tuple_item st.1 st.2 hx fun h' q1 q2 => h h' ⟨q1, st.2.extBut q2.extBut ne⟩ q2

theorem next3 {x1 x2 x3 : Value} {Q : Value → Shared → Prop} (D : Far3 z ti to i1 i2 i3 l1 l2 l3) (ho : Out a) (hz : Zat s.heap z ti to a (.bool f))
    (hI : IsTupOf3 s.heap ti (.ref i1) (.ref i2) (.ref i3)) (hO : IsTupOf3 s.heap to a1 a2 a3) (st : St3 s.heap i1 i2 i3 l1 l2 l3 xs ys zs i)
    (hx : xs[i]? = some x1) (hy : ys[i]? = some x2) (hw : zs[i]? = some x3)
    (hQ : ∀ (h' : Heap) (a' : Value) (g : Bool) (b1 b2 b3 : Value), Out a' → Zat h' z ti to a' (.bool g) → IsTupOf3 h' to b1 b2 b3 → St3 h' i1 i2 i3 l1 l2 l3 xs ys zs (i + 1) → IsTupOf3 h' s.heap.objs.size x1 x2 x3 → h'.objs.size = s.heap.objs.size + 1 →
      (∀ c o, c ≠ z → c ≠ to → c ≠ i1 → c ≠ i2 → c ≠ i3 → s.heap.get? c = some o → h'.get? c = some o) → Q (.ref s.heap.objs.size) { s with heap := h' }) :
    wpAny (model prog w) A (Builtin.«zip.__next__» ⟨[.ref z], []⟩) (fun fin s' => ∃ v, fin = .done (.ret v) ∧ Q v s') E s := by
  obtain ⟨hp, gg, dd, tk, os⟩ := s
  show wpAny _ _ (field (.ref z) 2 >>= _) _ _ _
  refine wpAny_bind (wpAny_field hz rfl (x := .bool false) rfl ?_)
  show wpAny _ _ (field (.ref z) 3 >>= _) _ _ _
  refine wpAny_bind (wpAny_field hz rfl (x := .ref ti) rfl ?_)
  refine wpAny_bind (wpAny_seqItems hI rfl ?_)
  show wpAny _ _ (Builtin.SmallTypes.ownedTupleIsFree (.ref z) >>= _) _ _ _
  refine wpAny_bind (freeOr ho hz fun b h1 f1 hz1 hs1 => ?_)
  replace hs1 : Heap.SameBut z hp h1 := hs1
  obtain ⟨sa, sb, sc⟩ := st
  have sa1 := keepIt sa hs1 D.z1 D.l1n.1
  have sb1 := keepIt sb hs1 D.z2 D.l2n.1
  have sc1 := keepIt sc hs1 D.z3 D.l3n.1
  have hO1 : IsTupOf3 h1 to a1 a2 a3 := hs1.extBut _ _ D.toz hO
  cases b with
  | false =>
    simp only [Bool.false_eq_true, if_false]
    refine wpAny_bind ?_
    rw [← Array.forIn_toList]
    simp only [List.forIn_cons, List.forIn_nil]
    refine wpAny_bind (wpAny_bind (wpAny_holding ?_))
    show wpAny _ _ (Builtin.SmallTypes.nextOf (.ref i1) >>= _) _ _ ⟨h1, gg, dd, tk, os⟩
    refine wpAny_bind (drawT (s := ⟨h1, gg, dd, tk, os⟩) sa1 D.l1n.2.2.1 hx fun h2 sa2 hs2 => wpAny_pure (wpAny_pure ?_))
    replace hs2 : Heap.SameBut i1 h1 h2 := hs2
    have sb2 := keepIt sb1 hs2 D.n12.symm D.l2n.2.2.1
    have sc2 := keepIt sc1 hs2 D.n13.symm D.l3n.2.2.1
    refine wpAny_bind (wpAny_bind (wpAny_holding ?_))
    show wpAny _ _ (Builtin.SmallTypes.nextOf (.ref i2) >>= _) _ _ ⟨h2, gg, dd, tk, os⟩
    refine wpAny_bind (drawT (s := ⟨h2, gg, dd, tk, os⟩) sb2 D.l2n.2.2.2.1 hy fun h3 sb3 hs3 => wpAny_pure (wpAny_pure ?_))
    replace hs3 : Heap.SameBut i2 h2 h3 := hs3
    have sa3 := keepIt sa2 hs3 D.n12 D.l1n.2.2.2.1
    have sc3 := keepIt sc2 hs3 D.n23.symm D.l3n.2.2.2.1
    refine wpAny_bind (wpAny_bind (wpAny_holding ?_))
    show wpAny _ _ (Builtin.SmallTypes.nextOf (.ref i3) >>= _) _ _ ⟨h3, gg, dd, tk, os⟩
    refine wpAny_bind (drawT (s := ⟨h3, gg, dd, tk, os⟩) sc3 D.l3n.2.2.2.2 hw fun h4 sc4 hs4 => wpAny_pure (wpAny_pure (wpAny_pure ?_)))
    replace hs4 : Heap.SameBut i3 h3 h4 := hs4
    have sa4 := keepIt sa3 hs4 D.n13 D.l1n.2.2.2.2
    have sb4 := keepIt sb3 hs4 D.n23 D.l2n.2.2.2.2
    show wpAny _ _ (newTuple [x1, x2, x3] >>= _) _ _ ⟨h4, gg, dd, tk, os⟩
    refine wpAny_bind (wpAny_newTuple (wpAny_pure ⟨_, rfl, ?_⟩))
    have sz : h4.objs.size = hp.objs.size := by rw [hs4.1, hs3.1, hs2.1, hs1.1]
    have kk : ∀ c o, c ≠ z → c ≠ i1 → c ≠ i2 → c ≠ i3 → hp.get? c = some o → h4.get? c = some o := fun c o c0 c1 c2 c3 e =>
      hs4.extBut _ _ c3 (hs3.extBut _ _ c2 (hs2.extBut _ _ c1 (hs1.extBut _ _ c0 e)))
    have hz4 : Zat h4 z ti to a (.bool f1) := hs4.extBut _ _ D.z3.symm (hs3.extBut _ _ D.z2.symm (hs2.extBut _ _ D.z1.symm hz1))
    have hO4 : IsTupOf3 h4 to a1 a2 a3 := kk _ _ D.toz D.to1 D.to2 D.to3 hO
    have up : ∀ c o, h4.get? c = some o → (h4.push { cls := .type "tuple", data := .seq #[x1, x2, x3] }).get? c = some o := fun c o e => Heap.get?_push_of_some _ e
    have nw : IsTupOf3 (h4.push { cls := .type "tuple", data := .seq #[x1, x2, x3] }) h4.objs.size x1 x2 x3 := Heap.get?_push_size _ rfl
    have zw : (h4.push { cls := .type "tuple", data := .seq #[x1, x2, x3] }).objs.size = h4.objs.size + 1 := Heap.size_push ..
    show Q (.ref h4.objs.size) _
    rw [sz] at nw zw ⊢
    exact hQ _ a f1 a1 a2 a3 ho (up _ _ hz4) (up _ _ hO4)
      ⟨⟨sa4.1.at fun o e => up _ o e, sa4.2.push _⟩, ⟨sb4.1.at fun o e => up _ o e, sb4.2.push _⟩, ⟨sc4.1.at fun o e => up _ o e, sc4.2.push _⟩⟩ nw zw
      fun c o c0 _ c1 c2 c3 e => up c o (kk c o c0 c1 c2 c3 e)
  | true =>
    simp only [if_true]
    refine wpAny_bind (wpAny_rule ?_)
    refine wpAny_bind (wpAny_field (s := ⟨h1, gg, dd, tk, os⟩) hz1 rfl (x := .ref to) rfl ?_)
    refine wpAny_bind (wpAny_setField_rec (s := ⟨h1, gg, dd, tk, os⟩) hz1 (by simp) fun g0 z0 s0 => ?_)
    replace z0 : Zat g0 z ti to .ellipsis (.bool f1) := z0
    replace s0 : Heap.SameBut z h1 g0 := s0
    have ta0 := keepIt sa1 s0 D.z1 D.l1n.1
    have tb0 := keepIt sb1 s0 D.z2 D.l2n.1
    have tc0 := keepIt sc1 s0 D.z3 D.l3n.1
    have o0 : IsTupOf3 g0 to a1 a2 a3 := s0.extBut _ _ D.toz hO1
    refine wpAny_bind ?_
    simp only [List.zipIdx_cons, List.zipIdx_nil, List.forIn_cons, List.forIn_nil]
    refine wpAny_bind (wpAny_bind (wpAny_onRaise ?_))
    show wpAny _ _ (Builtin.SmallTypes.nextOf (.ref i1) >>= _) _ _ ⟨g0, gg, dd, tk, os⟩
    refine wpAny_bind (drawT (s := ⟨g0, gg, dd, tk, os⟩) ta0 D.l1n.2.2.1 hx fun p1 ta1 s1 => wpAny_pure ?_)
    replace s1 : Heap.SameBut i1 g0 p1 := s1
    have o1 : IsTupOf3 p1 to a1 a2 a3 := s1.extBut _ _ D.to1 o0
    refine wpAny_bind (wpAny_seqItems (s := ⟨p1, gg, dd, tk, os⟩) o1 rfl ?_)
    refine wpAny_bind (updateSeq_IsTupOf3 (s := ⟨p1, gg, dd, tk, os⟩) o1 fun q1 u1 r1 => wpAny_bind (wpAny_letGo (wpAny_pure ?_)))
    replace u1 : IsTupOf3 q1 to x1 a2 a3 := u1
    replace r1 : Heap.SameBut to p1 q1 := r1
    have ta2 := keepIt ta1 r1 D.to1.symm D.l1n.2.1
    have tb2 := keepIt (keepIt tb0 s1 D.n12.symm D.l2n.2.2.1) r1 D.to2.symm D.l2n.2.1
    have tc2 := keepIt (keepIt tc0 s1 D.n13.symm D.l3n.2.2.1) r1 D.to3.symm D.l3n.2.1
    refine wpAny_bind (wpAny_bind (wpAny_onRaise ?_))
    show wpAny _ _ (Builtin.SmallTypes.nextOf (.ref i2) >>= _) _ _ ⟨q1, gg, dd, tk, os⟩
    refine wpAny_bind (drawT (s := ⟨q1, gg, dd, tk, os⟩) tb2 D.l2n.2.2.2.1 hy fun p2 tb3 s2 => wpAny_pure ?_)
    replace s2 : Heap.SameBut i2 q1 p2 := s2
    have o2 : IsTupOf3 p2 to x1 a2 a3 := s2.extBut _ _ D.to2 u1
    refine wpAny_bind (wpAny_seqItems (s := ⟨p2, gg, dd, tk, os⟩) o2 rfl ?_)
    refine wpAny_bind (updateSeq_IsTupOf3 (s := ⟨p2, gg, dd, tk, os⟩) o2 fun q2 u2 r2 => wpAny_bind (wpAny_letGo (wpAny_pure ?_)))
    replace u2 : IsTupOf3 q2 to x1 x2 a3 := u2
    replace r2 : Heap.SameBut to p2 q2 := r2
    have ta4 := keepIt (keepIt ta2 s2 D.n12 D.l1n.2.2.2.1) r2 D.to1.symm D.l1n.2.1
    have tb4 := keepIt tb3 r2 D.to2.symm D.l2n.2.1
    have tc4 := keepIt (keepIt tc2 s2 D.n23.symm D.l3n.2.2.2.1) r2 D.to3.symm D.l3n.2.1
    refine wpAny_bind (wpAny_bind (wpAny_onRaise ?_))
    show wpAny _ _ (Builtin.SmallTypes.nextOf (.ref i3) >>= _) _ _ ⟨q2, gg, dd, tk, os⟩
    refine wpAny_bind (drawT (s := ⟨q2, gg, dd, tk, os⟩) tc4 D.l3n.2.2.2.2 hw fun p3 tc5 s3 => wpAny_pure ?_)
    replace s3 : Heap.SameBut i3 q2 p3 := s3
    have o3 : IsTupOf3 p3 to x1 x2 a3 := s3.extBut _ _ D.to3 u2
    refine wpAny_bind (wpAny_seqItems (s := ⟨p3, gg, dd, tk, os⟩) o3 rfl ?_)
    refine wpAny_bind (updateSeq_IsTupOf3 (s := ⟨p3, gg, dd, tk, os⟩) o3 fun q3 u3 r3 => wpAny_bind (wpAny_letGo (wpAny_pure (wpAny_pure ?_))))
    replace u3 : IsTupOf3 q3 to x1 x2 x3 := u3
    replace r3 : Heap.SameBut to p3 q3 := r3
    have ta6 := keepIt (keepIt ta4 s3 D.n13 D.l1n.2.2.2.2) r3 D.to1.symm D.l1n.2.1
    have tb6 := keepIt (keepIt tb4 s3 D.n23 D.l2n.2.2.2.2) r3 D.to2.symm D.l2n.2.1
    have tc6 := keepIt tc5 r3 D.to3.symm D.l3n.2.1
    refine wpAny_bind (wpAny_seqItems (s := ⟨q3, gg, dd, tk, os⟩) u3 rfl (wpAny_bind (wpAny_newTuple ?_)))
    have sz : q3.objs.size = hp.objs.size := by rw [r3.1, s3.1, r2.1, s2.1, r1.1, s1.1, s0.1, hs1.1]
    have hz3 : Zat q3 z ti to .ellipsis (.bool f1) := r3.extBut _ _ D.toz.symm (s3.extBut _ _ D.z3.symm (r2.extBut _ _ D.toz.symm (s2.extBut _ _ D.z2.symm (r1.extBut _ _ D.toz.symm (s1.extBut _ _ D.z1.symm z0)))))
    have kk : ∀ c o, c ≠ z → c ≠ to → c ≠ i1 → c ≠ i2 → c ≠ i3 → hp.get? c = some o → q3.get? c = some o := fun c o c0 ct c1 c2 c3 e =>
      r3.extBut _ _ ct (s3.extBut _ _ c3 (r2.extBut _ _ ct (s2.extBut _ _ c2 (r1.extBut _ _ ct (s1.extBut _ _ c1 (s0.extBut _ _ c0 (hs1.extBut _ _ c0 e)))))))
    have zlt : z < q3.objs.size := Heap.lt_size hz3
    show wpAny _ _ (Builtin.SmallTypes.ownedTupleHandOut (.ref z) (.ref q3.objs.size) >>= _) _ _ ⟨q3.push { cls := .type "tuple", data := .seq #[x1, x2, x3] }, gg, dd, tk, os⟩
    refine wpAny_bind ?_
    unfold Builtin.SmallTypes.ownedTupleHandOut
    have z5 : Zat (q3.push { cls := .type "tuple", data := .seq #[x1, x2, x3] }) z ti to .ellipsis (.bool f1) := Heap.get?_push_of_some _ hz3
    refine wpAny_bind (wpAny_setField_rec z5 (by simp) fun h7 z7 s7 => ?_)
    replace z7 : Zat h7 z ti to (rawInt q3.objs.size) (.bool f1) := z7
    replace s7 : Heap.SameBut z (q3.push { cls := .type "tuple", data := .seq #[x1, x2, x3] }) h7 := s7
    refine wpAny_setField_rec z7 (by simp) fun h8 z8 s8 => ?_
    replace z8 : Zat h8 z ti to (rawInt q3.objs.size) (.bool false) := z8
    replace s8 : Heap.SameBut z h7 h8 := s8
    have up : ∀ c o, c ≠ z → q3.get? c = some o → h8.get? c = some o := fun c o c1 e => s8.extBut _ _ c1 (s7.extBut _ _ c1 (Heap.get?_push_of_some _ e))
    have nw : IsTupOf3 h8 q3.objs.size x1 x2 x3 := s8.extBut _ _ (Nat.ne_of_gt zlt) (s7.extBut _ _ (Nat.ne_of_gt zlt) (Heap.get?_push_size _ rfl))
    have zw : h8.objs.size = q3.objs.size + 1 := by rw [s8.1, s7.1, Heap.size_push]
    have fin : ∀ {it l : Addr} {k : Nat} {vs : Array Value}, (q3.IsTupleIter it l k ∧ q3.IsTuple l vs) → it ≠ z → l ≠ z → h8.IsTupleIter it l k ∧ h8.IsTuple l vs := fun {it l k vs} st n1 n2 =>
      keepIt (keepIt ⟨st.1.at fun o e => Heap.get?_push_of_some _ e, st.2.push _⟩ s7 n1 n2) s8 n1 n2
    refine wpAny_pure ⟨_, rfl, ?_⟩
    show Q (.ref q3.objs.size) _
    rw [sz] at nw zw z8 ⊢
    exact hQ h8 _ false x1 x2 x3 (.inr ⟨_, rfl⟩) z8 (up _ _ D.toz u3) ⟨fin ta6 D.z1 D.l1n.1, fin tb6 D.z2 D.l2n.1, fin tc6 D.z3 D.l3n.1⟩ nw zw
      fun c o c0 ct c1 c2 c3 e => up c o c0 (kk c o c0 ct c1 c2 c3 e)

theorem end3 {Q : Fin → Shared → Prop} (hh : A.handled = none) (D : Far3 z ti to i1 i2 i3 l1 l2 l3) (ho : Out a) (hz : Zat s.heap z ti to a (.bool f))
    (hI : IsTupOf3 s.heap ti (.ref i1) (.ref i2) (.ref i3)) (st : s.heap.IsTupleIter i1 l1 i ∧ s.heap.IsTuple l1 xs) (hx : xs[i]? = none)
    (hE : ∀ h' e, (∀ c o, c ≠ z → c ≠ to → c ≠ i1 → c ≠ i2 → c ≠ i3 → s.heap.get? c = some o → h'.get? c = some o) → (∃ o, h'.get? e = some o ∧ o.cls = .type "StopIteration") → E (.ref e) { s with heap := h' }) :
    wpAny (model prog w) A (Builtin.«zip.__next__» ⟨[.ref z], []⟩) Q E s := by
  obtain ⟨hp, gg, dd, tk, os⟩ := s
  show wpAny _ _ (field (.ref z) 2 >>= _) _ _ _
  refine wpAny_bind (wpAny_field hz rfl (x := .bool false) rfl ?_)
  show wpAny _ _ (field (.ref z) 3 >>= _) _ _ _
  refine wpAny_bind (wpAny_field hz rfl (x := .ref ti) rfl ?_)
  refine wpAny_bind (wpAny_seqItems hI rfl ?_)
  show wpAny _ _ (Builtin.SmallTypes.ownedTupleIsFree (.ref z) >>= _) _ _ _
  refine wpAny_bind (freeOr ho hz fun b h1 f1 hz1 hs1 => ?_)
  replace hs1 : Heap.SameBut z hp h1 := hs1
  have sa1 := keepIt st hs1 D.z1 D.l1n.1
  cases b with
  | false =>
    simp only [Bool.false_eq_true, if_false]
    refine wpAny_bind ?_
    rw [← Array.forIn_toList]
    simp only [List.forIn_cons, List.forIn_nil]
    refine wpAny_bind (wpAny_bind (wpAny_holding ?_))
    show wpAny _ _ (Builtin.SmallTypes.nextOf (.ref i1) >>= _) _ _ ⟨h1, gg, dd, tk, os⟩
    refine wpAny_bind (RZ.nextOf_tuple_end (s := ⟨h1, gg, dd, tk, os⟩) hh sa1.1 sa1.2 hx fun h2 e hs2 he => ?_)
    exact hE h2 e (fun c o c0 _ c1 _ _ q => hs2 _ _ c1 (hs1.extBut _ _ c0 q)) he
  | true =>
    simp only [if_true]
    refine wpAny_bind (wpAny_rule ?_)
    refine wpAny_bind (wpAny_field (s := ⟨h1, gg, dd, tk, os⟩) hz1 rfl (x := .ref to) rfl ?_)
    refine wpAny_bind (wpAny_setField_rec (s := ⟨h1, gg, dd, tk, os⟩) hz1 (by simp) fun g0 z0 s0 => ?_)
    replace z0 : Zat g0 z ti to .ellipsis (.bool f1) := z0
    replace s0 : Heap.SameBut z h1 g0 := s0
    have ta0 := keepIt sa1 s0 D.z1 D.l1n.1
    refine wpAny_bind ?_
    simp only [List.zipIdx_cons, List.zipIdx_nil, List.forIn_cons, List.forIn_nil]
    refine wpAny_bind (wpAny_bind (wpAny_onRaise ?_))
    show wpAny _ _ (Builtin.SmallTypes.nextOf (.ref i1) >>= _) _ _ ⟨g0, gg, dd, tk, os⟩
    refine wpAny_bind (RZ.nextOf_tuple_end (s := ⟨g0, gg, dd, tk, os⟩) hh ta0.1 ta0.2 hx fun h2 e hs2 he => ?_)
    obtain ⟨oe, hoe, hce⟩ := he
    replace hs2 : Heap.ExtBut i1 g0 h2 := hs2
    replace hoe : h2.get? e = some oe := hoe
    have z2 : Zat h2 z ti to .ellipsis (.bool f1) := hs2 _ _ D.z1.symm z0
    have ne : e ≠ z := fun q => by subst q; rw [z2] at hoe; cases hoe; simp at hce
    refine wpAny_setField_rec (s := ⟨h2, gg, dd, tk, os⟩) z2 (by simp) fun h3 _ s3 => ?_
    replace s3 : Heap.SameBut z h2 h3 := s3
    exact hE h3 e (fun c o c0 _ c1 _ _ q => s3.extBut _ _ c0 (hs2 _ _ c1 (s0.extBut _ _ c0 (hs1.extBut _ _ c0 q)))) ⟨oe, s3.extBut _ _ ne hoe, hce⟩
end
end NB

set_option Elab.async false
set_option linter.all false
set_option maxRecDepth 100000
set_option maxHeartbeats 1000000
namespace NB
open PySem PySem.Spec PyProof.Rows L2

section
variable {prog : Program} {w : World} {A : Around} {E : Value → Shared → Prop} {s : Shared} {z ti to i1 i2 i3 l1 l2 l3 : Addr} {a a1 a2 a3 : Value} {f : Bool} {xs ys zs : Array Value} {i : Nat}

theorem pyNext3 {x1 x2 x3 : Value} {Q : Option Value → Shared → Prop} (D : Far3 z ti to i1 i2 i3 l1 l2 l3) (ho : Out a) (hz : Zat s.heap z ti to a (.bool f))
    (hI : IsTupOf3 s.heap ti (.ref i1) (.ref i2) (.ref i3)) (hO : IsTupOf3 s.heap to a1 a2 a3) (st : St3 s.heap i1 i2 i3 l1 l2 l3 xs ys zs i)
    (hx : xs[i]? = some x1) (hy : ys[i]? = some x2) (hw : zs[i]? = some x3)
    (hQ : ∀ (h' : Heap) (a' : Value) (g : Bool) (b1 b2 b3 : Value), Out a' → Zat h' z ti to a' (.bool g) → IsTupOf3 h' to b1 b2 b3 → St3 h' i1 i2 i3 l1 l2 l3 xs ys zs (i + 1) → IsTupOf3 h' s.heap.objs.size x1 x2 x3 → h'.objs.size = s.heap.objs.size + 1 →
      (∀ c o, c ≠ z → c ≠ to → c ≠ i1 → c ≠ i2 → c ≠ i3 → s.heap.get? c = some o → h'.get? c = some o) → Q (some (.ref s.heap.objs.size)) { s with heap := h' }) :
    wpAny (model prog w) A (pyNext (.ref z)) Q E s := by
  have ty : s.TypeIs (.ref z) "zip" := ⟨_, hz, rfl⟩
  unfold pyNext
  refine wpAny_bind (wpAny_attempt (wpAny_callSpecial?_slot (name := Str.ofString "__next__") ty F.slot_zip_next ?_))
  refine wpAny_call_entry F.slot_zip_next ty F.entry_zip_next ?_ (F.args_zip_next_1 _)
  exact next3 D ho hz hI hO st hx hy hw fun h' a' g b1 b2 b3 c1 c2 c3 c4 c5 c6 c7 => wpAny_pure (hQ h' a' g b1 b2 b3 c1 c2 c3 c4 c5 c6 c7)

theorem pyEnd3 {Q : Option Value → Shared → Prop} (hh : A.handled = none) (D : Far3 z ti to i1 i2 i3 l1 l2 l3) (ho : Out a) (hz : Zat s.heap z ti to a (.bool f))
    (hI : IsTupOf3 s.heap ti (.ref i1) (.ref i2) (.ref i3)) (st : s.heap.IsTupleIter i1 l1 i ∧ s.heap.IsTuple l1 xs) (hx : xs[i]? = none)
    (hQ : ∀ h', (∀ c o, c ≠ z → c ≠ to → c ≠ i1 → c ≠ i2 → c ≠ i3 → s.heap.get? c = some o → h'.get? c = some o) → Q none { s with heap := h' }) :
    wpAny (model prog w) A (pyNext (.ref z)) Q E s := by
  have ty : s.TypeIs (.ref z) "zip" := ⟨_, hz, rfl⟩
  unfold pyNext
  refine wpAny_bind (wpAny_attempt (wpAny_callSpecial?_slot (name := Str.ofString "__next__") ty F.slot_zip_next ?_))
  refine wpAny_call_entry F.slot_zip_next ty F.entry_zip_next (end3 hh D ho hz hI st hx fun h' e hk he => ?_) (F.args_zip_next_1 _)
  obtain ⟨o, h1, h2⟩ := he
  exact wpAny_bind (wpAny_isInstance (T := "StopIteration") (b := true) ⟨o, h1, h2⟩ isSubtype_stop (wpAny_pure (hQ _ hk)))

/-- ahead of the target's store: a target of several names lets the tuple go -/
theorem letGo3 {tg : Expr} {T : Addr} {Q : Unit → Shared → Prop} (ho : Out a) (hz : Zat s.heap z ti to a (.bool f))
    (h : ∀ (h' : Heap) (a' : Value), Out a' → Zat h' z ti to a' (.bool f) → Heap.SameBut z s.heap h' → Q () { s with heap := h' }) :
    wpAny (model prog w) A (letOwnedTupleGo tg (.ref z) (.ref T)) Q E s := by
  have same : Q () s := h s.heap a ho hz (Heap.SameBut.refl _ _)
  have main : wpAny (model prog w) A (do
      let o ← load z
      match o.cls, o.data with
      | .type n, .fields vs =>
        if ["enumerate", "zip", "dict_itemiterator", "dict_reverseitemiterator", "odict_iterator", "itertools.zip_longest", "itertools.pairwise"].contains n && vs[0]? == some (rawInt T) then
          rule "for.unpacks-the-owned-tuple"
          updateField z 0 .none
      | _, _ => pure ()) Q E s := by
    refine wpAny_bind (wpAny_load hz ?_)
    dsimp only
    split
    · refine wpAny_bind (wpAny_rule ?_)
      show wpAny _ _ (setField (.ref z) 0 .none) Q E s
      exact wpAny_setField_rec hz (by simp) fun h' z' s' => h h' .none (.inl rfl) z' s'
    · exact wpAny_pure same
  unfold letOwnedTupleGo
  cases tg <;> first
    | exact wpAny_pure same
    | exact main

theorem iter3 {Q : Value → Shared → Prop} (hz : Zat s.heap z ti to a (.bool f)) (h : Q (.ref z) s) : wpAny (model prog w) A (pyIter (.ref z)) Q E s := by
  have ty : s.TypeIs (.ref z) "zip" := ⟨_, hz, rfl⟩
  refine wpAny_pyIter_slot ty F.slot_zip_iter (wpAny_call_entry F.slot_zip_iter ty F.entry_zip_iter ?_ (F.args_zip_iter_1 _))
  show wpAny _ _ (ret (.ref z)) _ _ s
  exact wpAny_pure ⟨_, rfl, "zip", _, ty, F.slot_zip_next.lookup, h⟩
end

/-- three tuples of one length, turn by turn: a new tuple of the three items -/
def It3 (K : PySem.W.Frag) (a b c : Addr) : It :=
  ⟨fun i H => ∃ (xs ys zs : List V) (x y z : V), SqT K H a xs ∧ SqT K H b ys ∧ SqT K H c zs ∧ xs[i]? = some x ∧ ys[i]? = some y ∧ zs[i]? = some z,
    fun i H v H' => ∃ T x y z, v = .ref T ∧ H T = none ∧ H' = upd H T (.tup [x, y, z]) ∧ (∀ xs, SqT K H a xs → xs[i]? = some x) ∧ (∀ ys, SqT K H b ys → ys[i]? = some y) ∧ ∀ zs, SqT K H c zs → zs[i]? = some z,
    fun i H => ∃ xs : List V, SqT K H a xs ∧ xs.length ≤ i⟩

theorem turn3 {P : Program} {w : World} {K : PySem.W.Frag} {tg : Expr} {a b c z ti to i1 i2 i3 : Addr} (D : Far3 z ti to i1 i2 i3 a b c) :
    Turn P w K tg (It3 K a b c) [z, ti, to, i1, i2, i3] z (fun i h => (∃ v f, Out v ∧ Zat h z ti to v (.bool f)) ∧ IsTupOf3 h ti (.ref i1) (.ref i2) (.ref i3) ∧ (∃ b1 b2 b3, IsTupOf3 h to b1 b2 b3) ∧
      h.IsTupleIter i1 a i ∧ h.IsTupleIter i2 b i ∧ h.IsTupleIter i3 c i) where
  mem := by simp
  obj := fun i h st q hq => by
    obtain ⟨⟨v, f, _, hz⟩, hI, ⟨b1, b2, b3, hO⟩, ⟨o1, e1, _, d1⟩, ⟨o2, e2, _, d2⟩, ⟨o3, e3, _, d3⟩⟩ := st
    have e' : q = z ∨ q = ti ∨ q = to ∨ q = i1 ∨ q = i2 ∨ q = i3 := by simpa using hq
    rcases e' with r | r | r | r | r | r
    · rw [r]; exact ⟨_, hz, fun v q => nomatch q⟩
    · rw [r]; exact ⟨_, hI, fun v q => nomatch q⟩
    · rw [r]; exact ⟨_, hO, fun v q => nomatch q⟩
    · rw [r]; exact ⟨o1, e1, fun v q => by rw [d1] at q; cases q⟩
    · rw [r]; exact ⟨o2, e2, fun v q => by rw [d2] at q; cases q⟩
    · rw [r]; exact ⟨o3, e3, fun v q => by rw [d3] at q; cases q⟩
  keep := fun i h h' st k => by
    obtain ⟨⟨v, f, ho, hz⟩, hI, ⟨b1, b2, b3, hO⟩, h1, h2, h3⟩ := st
    exact ⟨⟨v, f, ho, k z (by simp) _ hz⟩, k ti (by simp) _ hI, ⟨b1, b2, b3, k to (by simp) _ hO⟩, h1.at fun o q => k i1 (by simp) o q, h2.at fun o q => k i2 (by simp) o q, h3.at fun o q => k i3 (by simp) o q⟩
  item := by
    intro X hP hw hK hc i pins s σ H E I hf st hg
    subst hP hw hK
    obtain ⟨⟨v, f, ho, hz⟩, hI, ⟨b1, b2, b3, hO⟩, h1, h2, h3⟩ := st
    obtain ⟨xs, ys, zs, x, y, u, qx, qy, qu, hx, hy, hu⟩ := hg
    obtain ⟨t1, r1, p1, _⟩ := I.tuple qx
    obtain ⟨t2, r2, p2, _⟩ := I.tuple qy
    obtain ⟨t3, r3, p3, _⟩ := I.tuple qu
    obtain ⟨v1, g1, rv1⟩ := r1.get hx
    obtain ⟨v2, g2, rv2⟩ := r2.get hy
    obtain ⟨v3, g3, rv3⟩ := r3.get hu
    have zl : z < s.heap.objs.size := Heap.lt_size hz
    refine pyNext3 D ho hz hI hO ⟨⟨h1, p1⟩, ⟨h2, p2⟩, ⟨h3, p3⟩⟩ (x1 := v1) (x2 := v2) (x3 := v3) (by simpa using g1) (by simpa using g2) (by simpa using g3) fun h' v' f' c1 c2 c3 ho' hz' hO' st' hT hsz hk => ?_
    refine ⟨_, rfl, letGo3 (s := { s with heap := h' }) ho' hz' fun h'' v'' ho'' hz'' sb => ?_⟩
    have hT2 : h''.get? s.heap.objs.size = some { cls := .type "tuple", data := .seq #[v1, v2, v3] } := (sb.2 _ (Nat.ne_of_gt zl)).trans hT
    have new : ObjOk X.prog X.w (upd H s.heap.objs.size (.tup [x, y, u])) h'' s.heap.objs.size (.tup [x, y, u]) :=
      ⟨by show 3 ≤ sizeLine; decide, [v1, v2, v3], .cons rv1 (.cons rv2 (.cons rv3 .nil)), ⟨_, hT2, rfl, _, rfl⟩⟩
    have I1 : Inv X pins σ (upd H s.heap.objs.size (.tup [x, y, u])) { s with heap := h'' } :=
      I.turnedNew (t' := s.toks) (ch := [z, ti, to, i1, i2, i3]) (fun q o hb e => (sb.2 q (fun q' => hb (by simp [q']))).trans
        (hk q o (fun q' => hb (by simp [q'])) (fun q' => hb (by simp [q'])) (fun q' => hb (by simp [q'])) (fun q' => hb (by simp [q'])) (fun q' => hb (by simp [q'])) e)) hf (Nat.le_refl _) new
    refine ⟨.ref s.heap.objs.size, _, I1, rfl, ⟨_, x, y, u, rfl, I.hok.fresh (Nat.le_refl _), rfl, fun l hl => by rw [I.tuple_inj hl qx]; exact hx, fun l hl => by rw [I.tuple_inj hl qy]; exact hy, fun l hl => by rw [I.tuple_inj hl qu]; exact hu⟩,
      ⟨⟨v'', f', ho'', hz''⟩, ?_, ⟨c1, c2, c3, (sb.2 _ D.toz).trans hO'⟩, st'.1.1.at fun o q => (sb.2 _ D.z1).trans q, st'.2.1.1.at fun o q => (sb.2 _ D.z2).trans q, st'.2.2.1.at fun o q => (sb.2 _ D.z3).trans q⟩, fun q hq => ?_⟩
    · exact (sb.2 _ D.tiz).trans (hk _ _ D.tiz D.tito D.ti1 D.ti2 D.ti3 hI)
    · have lt : q < s.heap.objs.size := by
        have e' : q = z ∨ q = ti ∨ q = to ∨ q = i1 ∨ q = i2 ∨ q = i3 := by simpa using hq
        rcases e' with r | r | r | r | r | r
        · rw [r]; exact zl
        · rw [r]; exact Heap.lt_size hI
        · rw [r]; exact Heap.lt_size hO
        · rw [r]; obtain ⟨_, e1, _⟩ := h1; exact Heap.lt_size e1
        · rw [r]; obtain ⟨_, e1, _⟩ := h2; exact Heap.lt_size e1
        · rw [r]; obtain ⟨_, e1, _⟩ := h3; exact Heap.lt_size e1
      rw [upd_ne (Nat.ne_of_lt lt)]
      exact (hf q hq).1
  done := by
    intro X hP hw hK hc i pins s σ H E I hf st hg
    subst hP hw hK
    obtain ⟨⟨v, f, ho, hz⟩, hI, ⟨b1, b2, b3, hO⟩, h1, h2, h3⟩ := st
    obtain ⟨xs, qx, hlen⟩ := hg
    obtain ⟨t1, r1, p1, _⟩ := I.tuple qx
    have le := r1.length
    refine pyEnd3 (I.ok.hd hc) D ho hz hI ⟨h1, p1⟩ (by simp; omega) fun h' hk => ⟨rfl, I.turnedL (t' := s.toks) (ch := [z, ti, to, i1, i2, i3]) (fun q o hb e => ?_) hf⟩
    exact hk q o (fun q' => hb (by simp [q'])) (fun q' => hb (by simp [q'])) (fun q' => hb (by simp [q'])) (fun q' => hb (by simp [q'])) (fun q' => hb (by simp [q'])) e
  self := fun A i s Q E st h => by
    obtain ⟨⟨v, f, _, hz⟩, _⟩ := st
    exact iter3 hz h

theorem far_at (n a b c : Nat) (ha : a < n) (hb : b < n) (hc : c < n) : Far3 (n + 5) (n + 3) (n + 4) n (n + 1) (n + 2) a b c := by
  constructor <;> first | (show (_ : Nat) ≠ _; omega) | (refine ⟨?_, ?_, ?_, ?_, ?_⟩ <;> (show (_ : Nat) ≠ _; omega))

def iZip3 (K : PySem.W.Frag) (ta : TA) : TI := fun σ H R => ta σ H fun vs H1 => ∃ a b c xs ys zs, vs = [.ref a, .ref b, .ref c] ∧ SqT K H1 a xs ∧ SqT K H1 b ys ∧ SqT K H1 c zs ∧ R (It3 K a b c) H1
/-- zip(e, e2, e3), tuples of one length; any target -/
theorem pi_zip3 {X : Cx} {tg e e2 e3 : Expr} {ta : TA} {p pos : Pos} (hg : Gl X "zip") (hm : X.mg "zip" = none) (ha : PA X [e, e2, e3] ta)
    (hs : starEach [e, e2, e3] X.env = (false, eval e X.env) :: starEach [e2, e3] X.env := by rfl) (hpl : (backTo pos (starEach [e2, e3] X.env)).any (·.1) = false := by rfl) :
    PI X tg (.Call (.Name "zip" p) [e, e2, e3] [] pos) (iZip3 X.K ta) := by
  refine ⟨fun pins s σ H R I h => ?_⟩
  refine Call_ (ld_blt I hg hm PyProof.Rows.boot_zip (PyProof.Rows.callWith_type1 (thn (ha.run pos pins s σ H _ I h) fun us s1 q => ?_) hs hpl))
  obtain ⟨vs, H1, I1, r1, a, b, c, xs, ys, zs, ex, q1, q2, q3, q⟩ := q
  subst ex
  cases r1 with
  | cons ra rr =>
    cases rr with
    | cons rb rr =>
      cases rr with
      | cons rc rr =>
        cases rr
        cases ra
        cases rb
        cases rc
        obtain ⟨t1, r1, p1, _⟩ := I1.tuple q1
        obtain ⟨t2, r2, p2, _⟩ := I1.tuple q2
        obtain ⟨t3, r3, p3, _⟩ := I1.tuple q3
        obtain ⟨o1, g1, _⟩ := id p1
        obtain ⟨o2, g2, _⟩ := id p2
        obtain ⟨o3, g3, _⟩ := id p3
        refine zip_begins3 (begins_tuple a t1.toArray) (begins_tuple b t2.toArray) (begins_tuple c t3.toArray) p1 p2 p3 fun h' hz hI hO e1 e2 e3 hsz hk => iter3 hz ?_
        have I2 : Inv X pins σ H1 { s1 with heap := h' } := I1.kept (t' := s1.toks) hk
        refine ⟨s1.heap.objs.size + 5, [s1.heap.objs.size + 5, s1.heap.objs.size + 3, s1.heap.objs.size + 4, s1.heap.objs.size, s1.heap.objs.size + 1, s1.heap.objs.size + 2], _, _, H1, rfl, I2, turn3 (far_at s1.heap.objs.size a b c (Heap.lt_size g1) (Heap.lt_size g2) (Heap.lt_size g3)),
          ⟨⟨.none, false, .inl rfl, hz⟩, hI, ⟨_, _, _, hO⟩, ⟨_, e1, rfl, rfl⟩, ⟨_, e2, rfl, rfl⟩, ⟨_, e3, rfl, rfl⟩⟩, fun q hq => ?_, q⟩
        have le : s1.heap.objs.size ≤ q := by
          have e' : q = s1.heap.objs.size + 5 ∨ q = s1.heap.objs.size + 3 ∨ q = s1.heap.objs.size + 4 ∨ q = s1.heap.objs.size ∨ q = s1.heap.objs.size + 1 ∨ q = s1.heap.objs.size + 2 := by simpa using hq
          rcases e' with r | r | r | r | r | r <;> rw [r] <;> first | exact Nat.le_add_right _ _ | exact Nat.le_refl _
        exact I1.fpOk le (I1.hok.fresh le)

/-- a new triple of the i-th ones -/
def Y3 (xs ys zs : List V) : Nat → Hp → V → Hp → Prop := fun i H v H' => ∃ T x y z, v = .ref T ∧ H T = none ∧ H' = upd H T (.tup [x, y, z]) ∧ xs[i]? = some x ∧ ys[i]? = some y ∧ zs[i]? = some z
theorem walk_zip3 {K : PySem.W.Frag} {a b c : Addr} {xs ys zs : List V} (h2 : ys.length = xs.length) (h3 : zs.length = xs.length) :
    Walk (It3 K a b c) xs.length (fun H => SqT K H a xs ∧ SqT K H b ys ∧ SqT K H c zs) (Y3 xs ys zs) := by
  refine ⟨fun i _ hi q => ?_, fun _ q => ⟨xs, q.1, Nat.le_refl _⟩, fun i H v H' _ q y => ?_⟩
  · exact ⟨xs, ys, zs, xs[i], ys[i]'(by omega), zs[i]'(by omega), q.1, q.2.1, q.2.2, by simp [hi], by simp [show i < ys.length by omega], by simp [show i < zs.length by omega]⟩
  · obtain ⟨T, x, y, z, e1, e2, e3, f1, f2, f3⟩ := y
    exact ⟨T, x, y, z, e1, e2, e3, f1 xs q.1, f2 ys q.2.1, f3 zs q.2.2⟩
theorem walk_zipT {K : PySem.W.Frag} {a b : Addr} {xs ys : List V} (h2 : ys.length = xs.length) :
    Walk (RZ.ItzT K a b) xs.length (fun H => SqT K H a xs ∧ SqT K H b ys) (YPair (fun i => xs[i]?) (fun i => ys[i]?)) := by
  refine ⟨fun i _ hi q => ?_, fun _ q => ⟨xs, ys, q.1, q.2, by omega⟩, fun i H v H' _ q y => ?_⟩
  · exact ⟨xs, ys, xs[i], ys[i]'(by omega), q.1, q.2, by simp [hi], by simp [show i < ys.length by omega]⟩
  · obtain ⟨T, x, u, e1, e2, e3, f1, f2⟩ := y
    exact ⟨T, x, u, e1, e2, e3, f1 xs q.1, f2 ys q.2⟩
end NB

set_option Elab.async false
set_option linter.all false
set_option maxRecDepth 100000
set_option maxHeartbeats 1000000
namespace NB
open PySem PySem.Spec PyProof.Rows L2

/-- the law's own call, its def kept to its promise where nothing is being shown -/
theorem law_end {P : Program} {w : World} {K : PySem.W.Frag} {mg mb : Str → Option Value} {k : Nat} {fa a : Addr} {fd : FuncData} {x : Str} {sp : Sp} {s : Shared} {vs : List Value} {ns : List Int}
    (hK : K.In s.heap) (hN : s.heap.Ns mainGlobals mg) (hB : s.heap.Ns builtinsNs mb) (hbb : ∀ x : Str, x ≠ "__name__" → mb x = bootBuiltins x) (lim : s.heap.NoLimit) (hg : s.gens = #[])
    (ha : s.heap.get? a = some { cls := .type "list", data := .seq vs.toArray }) (hi : IntsAre vs ns) (hl : ns.length ≤ sizeLine) (hr : Room k callerA)
    (F : ∀ base : Heap, K.In base → base.Ns mainGlobals mg → FnG P w K mg base k fa fd [x] sp) (hb : ∀ (s : Shared) (u : Value), BindsTo s fd ⟨[u], []⟩ [(x, u)])
    (hsp : ∀ H : Hp, SqL K H a (ns.map V.int) → sp [.ref a] H (fun v _ => v = .bl true) E0) :
    codeAny (model P w) callerA (.call (.ref fa) ⟨[.ref a], []⟩) (fun r s' => r = .ok (.ret (.bool true)) ∧ OldK s.heap s'.heap ∧ s'.os = s.os ∧ AllBare s'.gens) s := by
  have rv := vals_ints hi
  have lv := hi.length
  -- H: the script alone is tracked, or nothing
  suffices go : ∀ H : Hp, (∀ b, H b ≠ none → b = a ∧ K.lookup a = none ∧ ∃ o xs, H b = some (.frz o (.lst xs))) → SqL K H a (ns.map V.int) → HOk P w H s.heap →
      codeAny (model P w) callerA (.call (.ref fa) ⟨[.ref a], []⟩) (fun r s' => r = .ok (.ret (.bool true)) ∧ OldK s.heap s'.heap ∧ s'.os = s.os ∧ AllBare s'.gens) s by
    cases hk : K.lookup a with
    | some o =>
      have e := hK a o hk
      rw [ha] at e
      cases e
      refine go (fun _ => none) (fun b q => absurd rfl q) (.inr ⟨_, vs.toArray, _, hk, rfl, rfl, rfl, ?_, by simpa using rv⟩) (fun b u q => by cases (show (none : Option HO) = some u from q))
      rw [List.size_toArray, lv]
      exact hl
    | none =>
      refine go (fun b => if b = a then some (.frz { cls := .type "list", data := .seq vs.toArray } (.lst (ns.map V.int))) else none) (fun b q => ?_) (.inl (.inr ⟨_, if_pos rfl⟩)) (fun b u q => ?_)
      · by_cases h : b = a
        · exact ⟨h, hk, _, _, if_pos h⟩
        · exact absurd (if_neg h) q
      · by_cases h : b = a
        · have q' := (if_pos h).symm.trans q
          cases q'
          subst h
          exact ⟨ha, by rw [List.length_map]; exact hl, vs, _, rv, ha⟩
        · have q' := (if_neg h).symm.trans q
          cases q'
  intro H hO hS ok
  have dictFree : ∀ {b : Addr} {o : Obj} {es : Array DictEntry} {ep : Nat}, s.heap.get? b = some o → o.data = .dict es ep → H b = none := by
    intro b o es ep e d
    cases q : H b with
    | none => rfl
    | some u =>
      obtain ⟨e', _⟩ := hO b (by rw [q]; simp)
      subst e'
      rw [ha] at e
      cases e
      cases (show Data.seq vs.toArray _ = Data.dict es ep from d)
  have ns' : ∀ {b : Addr} {m : Str → Option Value}, s.heap.Ns b m → (hidT s.heap H).Ns b m := by
    rintro b m ⟨o, es, ep, e, d, r⟩
    exact ⟨o, es, ep, hidT_get e (dictFree e d), d, r⟩
  have kB : K.In (hidT s.heap H) := by
    intro b o e
    refine hidT_get (hK b o e) ?_
    cases q : H b with
    | none => rfl
    | some u =>
      obtain ⟨e', n, _⟩ := hO b (by rw [q]; simp)
      subst e'
      rw [n] at e
      cases e
  have md : Mod K mg (hidT s.heap H) := by
    obtain ⟨mc, h1, h2⟩ := lim
    exact ⟨kB, ns' hN, ⟨mb, ns' hB, hbb⟩, ⟨mc, ns' h1, h2⟩⟩
  have e0 : Env0 P w K mg (hidT s.heap H) callerA [] s H :=
    ⟨rfl, md, fun b o e => of_hidT e, Nat.le_of_eq (hidT_size _ _), trivial, fun b q => absurd (show b ∈ ([] : List Addr) from q) (by simp), ok, .of_eq hg⟩
  refine codeAny_mono ((F _ kB (ns' hN)).go callerA [] s H ⟨[.ref a], []⟩ [.ref a] [.ref a] _ _ rfl hr e0 (hb s (.ref a)) (.cons rfl .nil) (hsp H hS)) ?_
  intro r s' q
  cases r with
  | error e => exact False.elim q
  | ok fl =>
    cases fl with
    | next => exact False.elim q
    | brk => exact False.elim q
    | cont => exact False.elim q
    | ret u =>
      obtain ⟨v, H', os, bare, un, ok', r', q'⟩ := q
      have q2 : v = .bl true := q'
      subst q2
      obtain rfl : u = Value.bool true := r'
      refine ⟨rfl, OldK.of_keep fun b o e => ?_, os, bare⟩
      cases q : H b with
      | none => exact un.keep b o e q (fun z => absurd (show b ∈ ([] : List Addr) from z) (by simp)) (by simp)
      | some u =>
        obtain ⟨_, _, ob, xs, z⟩ := hO b (by rw [q]; simp)
        obtain ⟨e1, _⟩ := ok b _ z
        obtain ⟨e2, _⟩ := ok' b _ (un.frzs b ob _ z)
        rw [e] at e1
        cases e1
        exact e2

/-- what k_head leaves, from the promise of the law's def -/
theorem walkG {l : PySem.W.OpenLaw} {n k : Nat} {q : Program} {loose : List Str} {XP : (Str → Option Value) → Heap → Prop} {YP : World → Heap → Prop} {d : DefRec} {K : Params → PySem.W.Frag} {sp : World → Sp} {x : Str}
    (hn : l.most = some n) (hn2 : n ≤ sizeLine) (hdf : d.params.defaults = []) (hr : Room k callerA) (hY : ∀ (w : World) (h : Heap), YP w h → (K w.params).In h)
    (F : ∀ (w : World) (mg : Str → Option Value) (fa : Addr) (h : Heap), (K w.params).In h → h.Ns mainGlobals mg → mg d.name = some (.ref fa) →
      ∃ fd : FuncData, (∀ (s : Shared) (u : Value), BindsTo s fd ⟨[u], []⟩ [(x, u)]) ∧
        ∀ base : Heap, (K w.params).In base → base.Ns mainGlobals mg → FnG l.prog w (K w.params) mg base k fa fd [x] (sp w))
    (hsp : ∀ (w : World) (H : Hp) (a : Addr) (ns : List Int), ns.length ≤ n → SqL (K w.params) H a (ns.map V.int) → sp w [.ref a] H (fun v _ => v = .bl true) E0) :
    PySem.W.WalkO q loose XP YP l.row.toRowW d [] (fun f vs => PySem.call f vs) := by
  refine Att.attach_call hn hdf ?_
  intro w s₀ s₁ mg mb fa o pm cd doc a vs ns G Y ho hd hcd hmg hobj hints hlen hg
  have kX := hY w _ Y
  obtain ⟨fd, hb, hF⟩ := F w mg fa _ kX G.T.g hmg
  exact law_end kX G.T.g G.T.b G.T.builtins G.T.nolimit hg hobj hints (Nat.le_trans hlen hn2) hr hF hb fun H hS => hsp w H a ns hlen hS
end NB

set_option Elab.async false
set_option linter.all false
set_option maxRecDepth 100000
set_option maxHeartbeats 1000000
namespace NB
open PySem PySem.Spec PyProof.Rows L2
section
variable {prog : Program} {w : World} {A : Around} {E : Value → Shared → Prop} {s : Shared}
theorem sortedTuple {t : Addr} {vs : List Value} {ns : List Int} {Q : Value → Shared → Prop} (hl : s.heap.IsTuple t vs.toArray) (hI : IntsAre vs ns) (h64 : vs.length < 64)
    (h : ∀ (h1 h' : Heap) (p : Addr) (out : Array Value) (ep : Nat) (ns' : List Int), IntsAre out.toList ns' → ns'.Perm ns → ns'.Pairwise (· ≤ ·) → (∀ b o, s.heap.get? b = some o → h1.get? b = some o) → (∀ b o, h1.get? b = some o → h'.get? b = some o) → h1.objs.size ≤ p →
      h'.get? p = some (seqObj "list" out ep) → Q (.ref p) { s with heap := h' }) :
    wpAny (model prog w) A (call (.builtin "sorted") [.ref t]) Q E s := by
  obtain ⟨o, ho, hc, n, hd⟩ := hl
  refine Calls.call_function_entry kind_sorted plain_sorted entry_sorted (args_sorted1 _) ?_
  unfold Builtin.«sorted»
  refine wpAny_bind (m := checkCount "sorted" 1 1 _) (wpAny_pure ?_)
  refine wpAny_bind (wpAny_collect_seq t (.inr rfl) ho hc hd (fun h1 hk => ?_) (by rw [List.size_toArray, sizeLine_eq]; omega))
  refine wpAny_bind (wpAny_newList ?_)
  have e0 : (vs.toArray.toList) = vs := rfl
  have hoL : (h1.push (seqObj "list" vs.toArray 0)).get? h1.objs.size = some (seqObj "list" vs.toArray 0) := Heap.get?_push_size _ rfl
  show wpAny _ _ _ _ _ { s with heap := h1.push (seqObj "list" vs.toArray 0) }
  refine wpAny_bind (wpAny_holding (wpAny_call_entry slot_list_sort ⟨_, hoL, rfl⟩ entry_list_sort (list_sort_tree hoL hI h64 fun out ns' q1 q2 q3 => ⟨_, rfl, ?_⟩) (args_list_sort _)))
  refine wpAny_pure ⟨_, rfl, ?_⟩
  obtain ⟨ep, hat⟩ := sortedHeap_at (vs := vs) (out := out) hoL
  refine h h1 _ h1.objs.size out ep ns' q1 q2 q3 hk (fun b o q => ?_) (Nat.le_refl _) hat
  have lt := Heap.lt_size q
  rw [sortedHeap_old (Nat.ne_of_lt lt) (by rw [size_push']; exact Nat.lt_succ_of_lt lt)]
  exact Heap.get?_push_of_some _ q
end
section
variable {X : Cx}
/-- sorted(t), t a tuple of few ints -/
def rSortT (K : PySem.W.Frag) : List V → Hp → VK → Prop := fun vs H Q => ∃ (a : Addr) (ns : List Int), vs = [V.ref a] ∧ SqT K H a (ns.map V.int) ∧ ns.length < 64 ∧
  ∀ (ns' : List Int) (p : Addr), ns'.Perm ns → ns'.Pairwise (· ≤ ·) → H p = none → Q (.ref p) (upd H p (.lst (ns'.map V.int)))
theorem cr_sortT : CallR X (.builtin "sorted") (rSortT X.K) := by
  intro pins s σ H vs us Q I r h
  obtain ⟨a, ns, rfl, hs, h64, q⟩ := h
  obtain ⟨its, rv, hl, _⟩ := I.tuple hs
  rw [Vals.ref1 r]
  have hi := rv.ints
  refine sortedTuple hl hi (by rw [hi.length]; exact h64) fun h1 h' p out ep ns' q1 q2 q3 k1 k2 hp hat => ?_
  have I1 : Inv X pins σ H { s with heap := h1 } := I.kept (t' := s.toks) k1
  have hlen : (ns'.map V.int).length ≤ sizeLine := by rw [List.length_map, q2.length_eq]; exact small64 h64
  exact ⟨.ref p, upd H p (.lst (ns'.map V.int)), I1.laid (t' := s.toks) k2 hp ⟨hlen, out.toList, ep, vals_of_ints q1, hat⟩, rfl, q ns' p q2 q3 (I1.hok.fresh hp)⟩

theorem perm_sum {l l' : List Int} (h : l.Perm l') : l.sum = l'.sum := by
  induction h with
  | nil => rfl
  | cons x _ ih => simp only [List.sum_cons, ih]
  | swap x y l => simp only [List.sum_cons]; omega
  | trans _ _ i1 i2 => exact i1.trans i2
/-- the middle one of three -/
def mid3 (a b c : Int) : Int := if a ≤ b then (if b ≤ c then b else if a ≤ c then c else a) else (if a ≤ c then a else if b ≤ c then c else b)
theorem mid_of_sorted {a b c x y z : Int} (p : [x, y, z].Perm [a, b, c]) (s : [x, y, z].Pairwise (· ≤ ·)) : y = mid3 a b c := by
  have h1 : x ≤ y ∧ y ≤ z := by
    rw [List.pairwise_cons, List.pairwise_cons] at s
    exact ⟨s.1 y (by simp), s.2.1 z (by simp)⟩
  have ha : a ∈ [x, y, z] := p.symm.subset (by simp)
  have hb : b ∈ [x, y, z] := p.symm.subset (by simp)
  have hc : c ∈ [x, y, z] := p.symm.subset (by simp)
  have hs : x + y + z = a + b + c := by
    have e := perm_sum p
    simp only [List.sum_cons, List.sum_nil] at e
    omega
  simp only [List.mem_cons, List.not_mem_nil, or_false] at ha hb hc
  unfold mid3
  rcases ha with e | e | e <;> rcases hb with f | f | f <;> rcases hc with g | g | g <;> split <;> split <;> (try split) <;> omega
theorem max3 (hc : X.calm = true) : CallR X (.builtin "max") (fun xs H Q => ∃ i j k : Int, xs = [.int i, .int j, .int k] ∧ Q (.int (max (max i j) k)) H) := by
  intro pins s σ H xs us Q I r h
  obtain ⟨i, j, k, rfl, q⟩ := h
  refine call_max3Nu hc pins s σ H _ us Q I r ⟨_, _, _, _, rfl, ?_, q⟩
  have two : ∀ a b : Int, nuMax2 (.int a) (.int b) = some (.int (max a b)) := fun a b => by
    show some (if decide (a < b) = true then V.int b else V.int a) = _
    by_cases h : a < b
    · rw [if_pos (decide_eq_true h), Int.max_eq_right (Int.le_of_lt h)]
    · rw [if_neg (by simpa using h), Int.max_eq_left (by omega)]
  show (nuMax2 (.int i) (.int j)).bind (fun m => nuMax2 m (.int k)) = _
  rw [two]
  exact two _ _
theorem min3 (hc : X.calm = true) : CallR X (.builtin "min") (fun xs H Q => ∃ i j k : Int, xs = [.int i, .int j, .int k] ∧ Q (.int (min (min i j) k)) H) := by
  intro pins s σ H xs us Q I r h
  obtain ⟨i, j, k, rfl, q⟩ := h
  refine call_min3Nu hc pins s σ H _ us Q I r ⟨_, _, _, _, rfl, ?_, q⟩
  have two : ∀ a b : Int, nuMin2 (.int a) (.int b) = some (.int (min a b)) := fun a b => by
    show some (if decide (b < a) = true then V.int b else V.int a) = _
    by_cases h : b < a
    · rw [if_pos (decide_eq_true h), Int.min_eq_right (Int.le_of_lt h)]
    · rw [if_neg (by simpa using h), Int.min_eq_left (by omega)]
  show (nuMin2 (.int i) (.int j)).bind (fun m => nuMin2 m (.int k)) = _
  rw [two]
  exact two _ _
/-- a ** b: the result within 2 ^ 27 bits -/
def CPowW (i j : Int) : Prop := 0 ≤ j ∧ (Builtin.Int.intBits i : Int) * j ≤ 2 ^ 27
theorem op_powW : OpR X (binaryOp .Pow) (rI CPowW fun i j => .int (i ^ j.toNat)) := opI fun _ _ _ _ _ _ _ hc q => pow_int hc.1 hc.2 q
end
end NB

set_option Elab.async false
set_option linter.all false
set_option maxRecDepth 100000
set_option maxHeartbeats 1000000
/-! enumerate of a tuple -/
namespace NB
open PySem PySem.Spec PyProof.Rows L2

theorem enumNewT (l : Addr) (items : Array Value) : Meets (Builtin.«enumerate.__new__» ⟨[.type "enumerate", .ref l], []⟩) (fun _ R s => s.heap.IsTuple l items ∧
      R (.ok (.ret (.ref (s.heap.push { cls := .type "tuple_iterator", data := .fields #[.ref l, .int 0 0] }).objs.size)))
        { s with heap := (s.heap.push { cls := .type "tuple_iterator", data := .fields #[.ref l, .int 0 0] }).push { cls := .type "enumerate", data := .fields #[.none, .bool false, .ref s.heap.objs.size, rawInt 0, .none, .none] } }) :=
  .of_wp fun prog w A R s h => by
    obtain ⟨hp, g, d, tk, os⟩ := s
    obtain ⟨hl, h⟩ := h
    have hsub := sub_enumerate
    have hL : Heap.IsTuple (Shared.heap ⟨hp, g, d, tk, os⟩) l items := hl
    wp_walk
    refine wpAny_stack_any fun st => wpAny_pure ?_
    split
    · rename_i c _ _ _ _ _
      cases (c == Value.type "enumerate")
      · wp_walk using wpAny_pyIter_tuple hL
        exact ⟨_, rfl, h⟩
      · wp_walk using wpAny_pyIter_tuple hL
        exact ⟨_, rfl, h⟩
    · wp_walk using wpAny_pyIter_tuple hL
      exact ⟨_, rfl, h⟩
section
variable {prog : Program} {w : World} {A : Around} {E : Value → Shared → Prop} {s : Shared}
theorem enumT {l : Addr} {items : Array Value} {Q : Value → Shared → Prop} (hL : s.heap.IsTuple l items)
    (h : ∀ h', IsEnum h' (s.heap.objs.size + 1) s.heap.objs.size 0 .none → h'.IsTupleIter s.heap.objs.size l 0 → (∀ b o, s.heap.get? b = some o → h'.get? b = some o) → Q (.ref (s.heap.objs.size + 1)) { s with heap := h' }) :
    wpAny (model prog w) A (call (.type "enumerate") [.ref l]) Q E s := by
  refine callType_new F.called_enumerate (by decide) (F.typeCall_enumerate_1 _) (F.newCall_enumerate_1 _) (fun obj => F.args_object_init_2 obj _) F.entry_enumerate_new (enumNewT l items) ⟨hL, ?_⟩
  have z : (s.heap.push { cls := .type "tuple_iterator", data := .fields #[.ref l, .int 0 0] }).objs.size = s.heap.objs.size + 1 := Heap.size_push ..
  have he := Heap.get?_push_size (s.heap.push { cls := .type "tuple_iterator", data := .fields #[.ref l, .int 0 0] }) (o := { cls := .type "enumerate", data := .fields #[.none, .bool false, .ref s.heap.objs.size, rawInt 0, .none, .none] }) rfl
  show _ ∧ _
  rw [z] at he ⊢
  exact ⟨⟨_, he, rfl⟩, h _ he ⟨_, Heap.get?_push_of_some _ (Heap.get?_push_size _ rfl), rfl, rfl⟩ fun b o x => Heap.get?_push_of_some _ (Heap.get?_push_of_some _ x)⟩
end
/-- a tuple's items with their numbers, in new pairs -/
def ItE (K : PySem.W.Frag) (a : Addr) : It :=
  ⟨fun i H => ∃ (xs : List V) (x : V), SqT K H a xs ∧ xs[i]? = some x,
    fun i H v H' => ∃ T x, v = .ref T ∧ H T = none ∧ H' = upd H T (.tup [.int (i : Nat), x]) ∧ ∀ xs, SqT K H a xs → xs[i]? = some x,
    fun i H => ∃ xs : List V, SqT K H a xs ∧ xs.length = i⟩
theorem turnE {P : Program} {w : World} {K : PySem.W.Frag} {elts : List Expr} {kk : Nat} {tpos : Pos} (a e it : Addr) (n1 : e ≠ it) (n2 : a ≠ it) (n3 : e ≠ a) :
    Turn P w K (.Tuple elts kk tpos) (ItE K a) [e, it] e (fun i h => (∃ old, IsEnum h e it ((i : Nat) : Int) old) ∧ h.IsTupleIter it a i) where
  mem := by simp
  obj := fun i h st b hb => by
    obtain ⟨⟨old, he⟩, ⟨o, ho, hc, hd⟩⟩ := st
    have e' : b = e ∨ b = it := by simpa using hb
    rcases e' with z | z
    · rw [z]; exact ⟨_, he, fun v q => nomatch q⟩
    · rw [z]; exact ⟨o, ho, fun v q => by rw [hd] at q; cases q⟩
  keep := fun i h h' st k => by
    obtain ⟨⟨old, he⟩, hi⟩ := st
    exact ⟨⟨old, k e (by simp) _ he⟩, hi.at fun o q => k it (by simp) o q⟩
  item := by
    intro X hP hw hK hc i pins s σ H E I hf st hg
    subst hP hw hK
    obtain ⟨⟨old, he⟩, hit⟩ := st
    obtain ⟨xs, x, hq, hx⟩ := hg
    obtain ⟨its, rv, p, hz⟩ := I.tuple hq
    obtain ⟨u, hu, ru⟩ := rv.get hx
    have hel : e < s.heap.objs.size := Heap.lt_size he
    have hil : it < s.heap.objs.size := by obtain ⟨_, q, _⟩ := hit; exact Heap.lt_size q
    have lt : i < its.toArray.size := by
      have : i < its.length := by
        rcases Nat.lt_or_ge i its.length with q | q
        · exact q
        · rw [List.getElem?_eq_none q] at hu
          cases hu
      simpa using this
    have hD := I.ok.hd hc
    refine wpAny_pyNext_enum_itemD (Draws.tuple (A := X.A.in1) hD it a n2 its.toArray) he ⟨hit, p⟩ lt n1 (by simp; exact ⟨n1, n3⟩) fun y h' tk hy ho st' hT hsz hk => ?_
    have ey : y = u := by
      have q : its.toArray[i]? = some u := by simpa using hu
      exact Option.some.inj (hy.symm.trans q)
    subst ey
    refine ⟨_, rfl, wpAny_letOwnedTupleGo_enum (s := { s with heap := h', toks := tk + 1 }) ho fun h'' he' sb => ?_⟩
    have hT2 : h''.get? s.heap.objs.size = some { cls := .type "tuple", data := .seq #[.int i tk, y] } := (sb.2 _ (Nat.ne_of_gt hel)).trans hT
    have new : ObjOk X.prog X.w (upd H s.heap.objs.size (.tup [.int (i : Nat), x])) h'' s.heap.objs.size (.tup [.int (i : Nat), x]) :=
      ⟨by show 2 ≤ sizeLine; decide, [.int i tk, y], .cons ⟨_, rfl⟩ (.cons ru .nil), ⟨_, hT2, rfl, _, rfl⟩⟩
    have I1 : Inv X pins σ (upd H s.heap.objs.size (.tup [.int (i : Nat), x])) { s with heap := h'', toks := tk + 1 } :=
      I.turnedNew (ch := [e, it]) (fun b ob hb q => (sb.2 b (fun z => hb (by simp [z]))).trans (hk b ob (fun z => hb (by simp [z])) (fun z => hb (by simp [z])) q)) hf (Nat.le_refl _) new
    refine ⟨.ref s.heap.objs.size, _, I1, rfl, ⟨_, x, rfl, I.hok.fresh (Nat.le_refl _), rfl, fun ys hy => by rw [I.tuple_inj hy hq]; exact hx⟩, ⟨⟨y, ?_⟩, st'.1.at fun o q => (sb.2 it n1.symm).trans q⟩, fun b hb => ?_⟩
    · rw [show ((i + 1 : Nat) : Int) = (i : Int) + 1 by omega]
      exact he'
    · have hb' : b < s.heap.objs.size := by
        have e' : b = e ∨ b = it := by simpa using hb
        rcases e' with z | z
        · rw [z]; exact hel
        · rw [z]; exact hil
      rw [upd_ne (Nat.ne_of_lt hb')]
      exact (hf b hb).1
  done := by
    intro X hP hw hK hc i pins s σ H E I hf st hg
    subst hP hw hK
    obtain ⟨⟨old, he⟩, hit⟩ := st
    obtain ⟨xs, hq, hx⟩ := hg
    obtain ⟨its, rv, p, hz⟩ := I.tuple hq
    obtain ⟨f0, f1, f2, f3, f4, f5⟩ := hf it (by simp)
    have le : i = its.toArray.size := by
      have := rv.length
      simp
      omega
    subst le
    exact wpAny_pyNext_enum_endD (Draws.tuple (A := X.A.in1) (I.ok.hd hc) it a n2 its.toArray) he ⟨hit, p⟩ fun h' eb => ⟨rfl, I.turned (t' := s.toks) (fun b o hb q => eb b o hb q) f0 f1 f3 f4 f5⟩
  self := fun A i s Q E st h => by
    obtain ⟨⟨_, he⟩, _⟩ := st
    exact wpAny_pyIter_enum he h
def iEnumT (K : PySem.W.Frag) (ta : TA) : TI := fun σ H R => ta σ H fun vs H1 => ∃ a xs, vs = [.ref a] ∧ SqT K H1 a xs ∧ R (ItE K a) H1
theorem pi_enumT {X : Cx} {e : Expr} {ta : TA} {p pos tpos : Pos} {elts : List Expr} {kk : Nat} (hg : Gl X "enumerate") (hm : X.mg "enumerate" = none) (ha : PA X [e] ta) (hs : starEach [e] X.env = [(false, eval e X.env)] := by rfl) :
    PI X (.Tuple elts kk tpos) (.Call (.Name "enumerate" p) [e] [] pos) (iEnumT X.K ta) := by
  refine ⟨fun pins s σ H R I h => ?_⟩
  refine Call_ (ld_blt I hg hm boot_enumerate (PyProof.Rows.callWith_type1 (thn (ha.run pos pins s σ H _ I h) ?_) hs rfl))
  rintro us s1 ⟨vs, H1, I1, r1, a, xs, ex, hq, q⟩
  subst ex
  cases r1 with
  | cons r rr =>
    cases rr
    cases r
    obtain ⟨its, rv, p', hz⟩ := I1.tuple hq
    obtain ⟨o, g, _⟩ := id p'
    have la : a < s1.heap.objs.size := Heap.lt_size g
    refine enumT (items := its.toArray) p' fun h' he hit hk => wpAny_pyIter_enum he ?_
    have I2 : Inv X pins σ H1 { s1 with heap := h' } := I1.kept (t' := s1.toks) hk
    refine ⟨s1.heap.objs.size + 1, [s1.heap.objs.size + 1, s1.heap.objs.size], _, _, H1, rfl, I2, turnE a (s1.heap.objs.size + 1) s1.heap.objs.size (Nat.succ_ne_self _) (Nat.ne_of_lt la) (Nat.ne_of_gt (Nat.lt_succ_of_lt la)), ⟨⟨.none, he⟩, hit⟩, fun b hb => ?_, q⟩
    have e' : b = s1.heap.objs.size + 1 ∨ b = s1.heap.objs.size := by simpa using hb
    have hle : s1.heap.objs.size ≤ b := by
      rcases e' with z | z
      · rw [z]; exact Nat.le_add_right _ _
      · rw [z]; exact Nat.le_refl _
    exact I1.fpOk hle (I1.hok.fresh hle)
theorem walk_enumT {K : PySem.W.Frag} {a : Addr} {xs : List V} : Walk (ItE K a) xs.length (fun H => SqT K H a xs) (YPair (fun i => some (.int (i : Nat))) (fun i => xs[i]?)) := by
  refine ⟨fun i _ hi q => ⟨xs, xs[i], q, by simp [hi]⟩, fun _ q => ⟨xs, q, rfl⟩, fun i H v H' _ q y => ?_⟩
  obtain ⟨T, x, h1, h2, h3, h4⟩ := y
  exact ⟨T, .int (i : Nat), x, h1, h2, h3, rfl, h4 xs q⟩
end NB

set_option Elab.async false
set_option linter.all false
set_option maxRecDepth 100000
/-! t[::-1] of a tuple; repr of a truth. -/
namespace NB
open PySem PySem.Spec PyProof.Rows L2 HT

section
variable {prog : Program} {w : World} {A : Around} {E : Value → Shared → Prop} {s : Shared}
theorem adjust_back (n : Nat) : Builtin.Slice.sliceAdjust none none (-1) (n : Int) = ((n : Int) - 1, -1) := by
  unfold Builtin.Slice.sliceAdjust
  first
  | rfl
  | simp
theorem places_back (n : Nat) : Builtin.Slice.slicePlaces ((n : Int) - 1) (-1) (-1) = n := by
  unfold Builtin.Slice.slicePlaces
  have h1 : ¬ ((-1 : Int) > 0) := by decide
  simp only [h1, if_false]
  split <;> simp <;> omega
theorem sliceBack {sl : Addr} {vl vu vk : Value} {n : Nat} {Q : Int × Int × Nat → Shared → Prop} (hs : s.heap.IsSliceOf sl vl vu vk) (pl : IsPart vl none) (pu : IsPart vu none) (pk : IsPart vk (some (-1)))
    (h : Q ((n : Int) - 1, -1, n) s) : wpAny (model prog w) A (Builtin.Slice.sliceApplied (.ref sl) (pure (n : Int))) Q E s := by
  obtain ⟨os, hos, hcs, hds⟩ := id hs
  unfold Builtin.Slice.sliceApplied Builtin.Slice.sliceFields
  refine wpAny_bind (wpAny_bind (wpAny_field hos hds (x := vl) rfl (wpAny_bind (wpAny_field hos hds (x := vu) rfl (wpAny_bind (wpAny_field hos hds (x := vk) rfl (wpAny_pure ?_)))))))
  refine wpAny_bind (slicePart_ pk ?_)
  show wpAny _ _ (if ((-1 : Int) == 0) = true then _ else _) _ _ s
  rw [if_neg (by decide)]
  refine wpAny_bind (slicePart_ pl (wpAny_bind (slicePart_ pu (wpAny_bind (wpAny_pure ?_)))))
  show wpAny _ _ (match Builtin.Slice.sliceAdjust none none (-1) (n : Int) with | (lo, hi) => pure (lo, (-1 : Int), Builtin.Slice.slicePlaces lo hi (-1))) _ _ s
  rw [adjust_back n]
  show wpAny _ _ (pure ((n : Int) - 1, (-1 : Int), Builtin.Slice.slicePlaces ((n : Int) - 1) (-1) (-1))) _ _ s
  rw [places_back]
  exact wpAny_pure h
theorem pick_back (xs : Array Value) : ((List.range xs.size).filterMap fun (m : Nat) => xs[(((xs.size : Int) - 1) + (m : Int) * -1).toNat]?).toArray = xs.toList.reverse.toArray := by
  have e : ((List.range xs.size).filterMap fun (m : Nat) => xs[(((xs.size : Int) - 1) + (m : Int) * -1).toNat]?) = ((List.range xs.size).map fun k => xs.size - 1 - k).filterMap (xs[·]?) := by
    rw [List.filterMap_map]
    congr 1
    funext m
    have : (((xs.size : Int) - 1) + (m : Int) * -1).toNat = xs.size - 1 - m := by omega
    rw [this]
    rfl
  rw [e, PySem.W.krv_range, List.filterMap_reverse, PySem.W.krv_all]
theorem getItem_tuple_back {t sl : Addr} {items : Array Value} {vl vu vk : Value} {Q : Value → Shared → Prop} (ht : IsTup s.heap t items) (hs : s.heap.IsSliceOf sl vl vu vk) (pl : IsPart vl none) (pu : IsPart vu none) (pk : IsPart vk (some (-1)))
    (h : Q (.ref s.heap.objs.size) { s with heap := s.heap.push { cls := .type "tuple", data := .seq items.toList.reverse.toArray } })
    (hsz : items.size ≤ sizeLine) : wpAny (model prog w) A (getItem (.ref t) (.ref sl)) Q E s := by
  have htake : sizeOk (.seq items.toList.reverse.toArray) := by
    show items.toList.reverse.toArray.size ≤ sizeLine
    rw [List.size_toArray, List.length_reverse, Array.length_toList]
    exact hsz
  obtain ⟨os, hos, hcs, hds⟩ := id hs
  have hTs : s.TypeIs (.ref sl) "slice" := ⟨os, hos, hcs⟩
  unfold getItem
  try with_reducible refine wpAny_holding ?_
  first | refine wpAny_bind (wpAny_pure ?_) | skip
  refine wpAny_bind (wpAny_sequenceKey ht.typeIs (by decide) ?_)
  refine wpAny_bind (wpAny_callSpecial?_slot (name := Str.ofString "__getitem__") ht.typeIs PyProof.Rows.slot_tuple_getitem
    (wpAny_call_entry PyProof.Rows.slot_tuple_getitem ht.typeIs entry_tuple_getitem ?_ (args_tuple_getitem _ _)))
  show wpAny _ _ (Builtin.Tuple.tupleItemsOf (.ref t) >>= _) _ _ s
  refine wpAny_bind (tupleItemsOf_ ht ?_)
  refine wpAny_bind (wpAny_typeOf hTs ?_)
  rw [if_pos (by decide)]
  refine wpAny_bind (sliceBack hs pl pu pk ?_)
  have hno : ¬ ((((items.size : Int) - 1) == 0 && (-1 : Int) == 1 && items.size == items.size) = true) := by
    intro q
    rw [Bool.and_eq_true, Bool.and_eq_true] at q
    exact absurd q.1.2 (by decide)
  show wpAny _ _ (if (((items.size : Int) - 1) == 0 && (-1 : Int) == 1 && items.size == items.size) = true then _ else _) _ _ s
  rw [if_neg hno, pick_back]
  first
    | exact wpAny_bind (m := Builtin.Tuple.tupleExact _) (wpAny_newObj_type (wpAny_pure ⟨_, rfl, wpAny_pure h⟩) htake)
    | exact wpAny_bind (m := Builtin.Tuple.tupleExact _) (wpAny_newObj_type (wpAny_bind (wpAny_pure (wpAny_pure ⟨_, rfl, wpAny_pure h⟩))) htake)
    | exact wpAny_bind (wpAny_bind (m := Builtin.Tuple.tupleExact _) (wpAny_newObj_type (wpAny_pure (wpAny_pure ⟨_, rfl, wpAny_pure h⟩)) htake))
    | exact wpAny_bind (wpAny_bind (m := Builtin.Tuple.tupleExact _) (wpAny_newObj_type (wpAny_pure ⟨_, rfl, wpAny_pure h⟩) htake))
end

section
variable {X : Cx}
def tRevT (K : PySem.W.Frag) (te : TE) : TE := fun σ H Q => te σ H fun x H1 => ∃ a xs, x = .ref a ∧ SqT K H1 a xs ∧ ∀ p, H1 p = none → Q (.ref p) (upd H1 p (.tup xs.reverse))
theorem pe_revT {e : Expr} {te : TE} {k : Nat} {p1 p2 p3 pos : Pos} (he : PE X e te) : PE X (.Subscript e (.Slice none none (some (.UnaryOp .USub (.Constant (.int 1) k p1) p2)) p3) pos) (tRevT X.K te) := by
  refine ⟨fun pins s σ H Q I h => ?_⟩
  refine Subscript_ (thn (he.run pins s σ H _ I h) fun v s1 ⟨x, H1, I1, r1, q1⟩ => ?_)
  obtain ⟨a, xs, ex, hx, q⟩ := q1
  subst ex
  cases r1
  have hst : PO X (some (.UnaryOp .USub (.Constant (.int 1) k p1) p2)) (tPart (tUn (rU fun i => .int (-i)) (tC (.int 1)))) := po_some (pe_un un_neg pe_int)
  refine wpAny_Slice (thn (po_none.run pins s1 σ H1 (fun o H2 => o = none ∧ H2 = H1) I1 ⟨rfl, rfl⟩) fun vl s2 ⟨l, H2, I2, pl, el, e2⟩ => ?_)
  subst el e2
  refine thn (po_none.run pins s2 σ H2 (fun o H3 => o = none ∧ H3 = H2) I2 ⟨rfl, rfl⟩) fun vu s3 ⟨u, H3, I3, pu, eu, e3⟩ => ?_
  subst eu e3
  refine thn (hst.run pins s3 σ H3 (fun o H4 => o = some (-1) ∧ H4 = H3) I3 ⟨1, rfl, -1, rfl, rfl, rfl⟩) fun vs s4 ⟨o, H4, I4, ps, eo, e4⟩ => ?_
  subst eo e4
  have I5 : Inv X pins σ H4 { s4 with heap := s4.heap.push { cls := .type "slice", data := .fields #[vl, vu, vs] } } := I4.kept (t' := s4.toks) fun b ob q => Heap.get?_push_of_some _ q
  obtain ⟨its, r, ht, hz⟩ := I5.tuple hx
  have hlen := r.length
  show wpAny (model X.prog X.w) X.A (subscriptTail e (.Slice none none (some (.UnaryOp .USub (.Constant (.int 1) k p1) p2)) p3) (.ref a) (.ref s4.heap.objs.size)) (EP X pins σ Q) X.xe { s4 with heap := s4.heap.push { cls := .type "slice", data := .fields #[vl, vu, vs] } }
  refine tail_any (ops := [.ref a, .ref s4.heap.objs.size]) ht.typeIs (PyProof.Rows.slot_tuple_getitem.lookup) ?_ (by with_unfolding_all rfl)
  refine getItem_tuple_back ht (Heap.IsSliceOf.new _ vl vu vs) pl pu ps ?_ (by rw [List.size_toArray]; omega)
  refine ⟨.ref _, _, I5.laid (t' := s4.toks) (o := .tup xs.reverse) (fun b ob q => Heap.get?_push_of_some _ q) (Nat.le_refl _) ?_, rfl, q _ (I5.hok.fresh (Nat.le_refl _))⟩
  exact ⟨by rw [List.length_reverse]; exact hz, _, r.reverse, IsTup.new _ _⟩

/-- how a truth is written -/
def shB (b : Bool) : Str := if b then "True" else "False"
/-- repr(b), b a truth -/
theorem call_reprB : CallR X (.builtin "repr") (fun xs H Q => ∃ b, xs = [.bl b] ∧ Q (.str (shB b)) H) := by
  intro pins s σ H xs us Q I r h
  obtain ⟨b, rfl, q⟩ := h
  obtain ⟨u, rfl, r1⟩ := vals1 r
  cases r1
  exact P.repr_of_bool ⟨.str (shB b), H, I.tok _, ⟨_, rfl⟩, q⟩
end
end NB

set_option Elab.async false
set_option linter.all false
set_option maxRecDepth 100000
namespace NB
open PySem PySem.Spec PyProof.Rows L2
/-- data that repr writes: at most w by weight, nested at most n deep -/
structure Small (d : PyData) (w n : Nat) : Prop where
  sh : d.showable = true
  nd : d.hasDict = false
  dp : d.depth ≤ n
  lv : d.leavesShort 100 = true
  wt : d.weight ≤ w
structure SmallAll (ds : List PyData) (w n : Nat) : Prop where
  sh : PyData.showableAll ds = true
  nd : PyData.hasDictAll ds = false
  dp : PyData.depthAll ds ≤ n
  lv : PyData.leavesShortAll 100 ds = true
  wt : PyData.weightAll ds ≤ w
theorem Small.int {i : Int} (h : i.natAbs < 10 ^ 90) : Small (.int i) 310 0 := by
  have lg : i.natAbs.log2 < 300 := by
    have h2 : i.natAbs < 2 ^ 300 := Nat.lt_of_lt_of_le h (by decide)
    by_cases e : i.natAbs = 0
    · rw [e]; decide
    · exact (Nat.log2_lt e).mpr h2
  refine ⟨?_, rfl, Nat.le_refl _, ?_, ?_⟩
  · simp only [PyData.showable, decide_eq_true_eq]
    omega
  · simp only [PyData.leavesShort, decide_eq_true_eq]
    have e := int_text_length_le10 (k := 90) (by decide) h
    show (Str.ofString (toString i)).length ≤ 100
    rw [PySem.ofString_length]
    omega
  · show (if i == 0 then 0 else i.natAbs.log2 + 1) ≤ 310
    split <;> omega
theorem Small.bool (b : Bool) : Small (.bool b) 0 0 := ⟨rfl, rfl, Nat.le_refl _, rfl, Nat.le_refl _⟩
theorem Small.none : Small .none 0 0 := ⟨rfl, rfl, Nat.le_refl _, rfl, Nat.le_refl _⟩
theorem SmallAll.nil : SmallAll [] 0 0 := ⟨rfl, rfl, Nat.le_refl _, rfl, Nat.le_refl _⟩
theorem SmallAll.cons {d : PyData} {ds : List PyData} {w v n m : Nat} (h : Small d w n) (h' : SmallAll ds v m) : SmallAll (d :: ds) (w + 1 + v) (max n m) := by
  obtain ⟨a1, a2, a3, a4, a5⟩ := h
  obtain ⟨b1, b2, b3, b4, b5⟩ := h'
  refine ⟨?_, ?_, ?_, ?_, ?_⟩
  · simp only [PyData.showableAll, a1, b1, Bool.and_self]
  · simp only [PyData.hasDictAll, a2, b2, Bool.or_self]
  · simp only [PyData.depthAll]
    omega
  · simp only [PyData.leavesShortAll, a4, b4, Bool.and_self]
  · simp only [PyData.weightAll]
    omega
theorem Small.list {ds : List PyData} {w n : Nat} (h : SmallAll ds w n) : Small (.list ds) w (n + 1) := by
  obtain ⟨a1, a2, a3, a4, a5⟩ := h
  refine ⟨?_, ?_, ?_, ?_, ?_⟩
  · simpa only [PyData.showable] using a1
  · simpa only [PyData.hasDict] using a2
  · simp only [PyData.depth]
    omega
  · simpa only [PyData.leavesShort] using a4
  · simpa only [PyData.weight] using a5
theorem Small.tuple {ds : List PyData} {w n : Nat} (h : SmallAll ds w n) : Small (.tuple ds) w (n + 1) := by
  obtain ⟨a1, a2, a3, a4, a5⟩ := h
  refine ⟨?_, ?_, ?_, ?_, ?_⟩
  · simpa only [PyData.showable] using a1
  · simpa only [PyData.hasDict] using a2
  · simp only [PyData.depth]
    omega
  · simpa only [PyData.leavesShort] using a4
  · simpa only [PyData.weight] using a5
theorem SmallAll.ints : ∀ {xs : List Int}, (∀ x ∈ xs, x.natAbs < 10 ^ 90) → SmallAll (xs.map PyData.int) (311 * xs.length) 0
  | [], _ => .nil
  | x :: xs, h => by
    have c := SmallAll.cons (Small.int (h x List.mem_cons_self)) (SmallAll.ints fun y hy => h y (List.mem_cons_of_mem _ hy))
    refine ⟨c.sh, c.nd, c.dp, c.lv, Nat.le_trans c.wt ?_⟩
    rw [List.length_cons]
    omega
theorem Small.ok {d : PyData} {w n : Nat} (h : Small d w n) (hw : w ≤ 150000) (hn : n ≤ 60) : Showable d := by
  refine ⟨h.sh, h.nd, Nat.le_trans h.dp hn, ?_⟩
  have e := PyData.shown_le 100 (by decide) d h.lv
  have := h.wt
  rw [sizeLine_eq]
  have : (100 + 2) * d.weight ≤ (100 + 2) * 150000 := Nat.mul_le_mul_left _ (Nat.le_trans h.wt hw)
  omega
/-- what Dp reads of a tuple of ints -/
theorem dp_ints {K : PySem.W.Frag} {H : Hp} : ∀ xs : List Int, DpAll K H (xs.map V.int) (xs.map PyData.int)
  | [] => .nil
  | x :: xs => .cons (.int x) (dp_ints xs)
theorem dp_tup {K : PySem.W.Frag} {H : Hp} {p : Addr} {xs : List Int} (h : SqT K H p (xs.map V.int)) : Dp K H (.ref p) (.tuple (xs.map PyData.int)) := .tup h (dp_ints xs)
end NB

set_option Elab.async false
set_option linter.all false
set_option maxRecDepth 100000
set_option maxHeartbeats 1000000
/-! Data of any kind: None, truths, whole numbers, texts, lists, tuples, dicts. -/
namespace NB
open PySem PySem.Spec PyProof.Rows L2

def kD : Key → PyData
  | .inl i => .int i
  | .inr x => .str x
mutual
/-- the value v is the data d; its lists stand apart from n -/
inductive Da (n : Addr) (H : Hp) : V → PyData → Prop
  | non : Da n H .non .none
  | bl (b : Bool) : Da n H (.bl b) (.bool b)
  | int (i : Int) : Da n H (.int i) (.int i)
  | str (x : Str) : Da n H (.str x) (.str x)
  | lst {a : Addr} {xs : List V} {ds : List PyData} : H a = some (.lst xs) → a ≠ sysModules → a ≠ n → DaAll n H xs ds → Da n H (.ref a) (.list ds)
  | tup {a : Addr} {xs : List V} {ds : List PyData} : H a = some (.tup xs) → DaAll n H xs ds → Da n H (.ref a) (.tuple ds)
  | dct {a : Addr} {kvs : List (Key × V)} {ds : List (PyData × PyData)} : H a = some (.dK kvs) → DaKv n H kvs ds → Da n H (.ref a) (.dict ds)
inductive DaAll (n : Addr) (H : Hp) : List V → List PyData → Prop
  | nil : DaAll n H [] []
  | cons {v : V} {vs : List V} {d : PyData} {ds : List PyData} : Da n H v d → DaAll n H vs ds → DaAll n H (v :: vs) (d :: ds)
inductive DaKv (n : Addr) (H : Hp) : List (Key × V) → List (PyData × PyData) → Prop
  | nil : DaKv n H [] []
  | cons {k : Key} {v : V} {kvs : List (Key × V)} {d : PyData} {ds : List (PyData × PyData)} : Da n H v d → DaKv n H kvs ds → DaKv n H ((k, v) :: kvs) ((kD k, d) :: ds)
end
mutual
theorem Da.keep {n : Addr} {H H' : Hp} (hn : ∃ zs, H n = some (.lst zs)) (k : ∀ b o, b ≠ n → H b = some o → H' b = some o) : ∀ (d : PyData) (v : V), Da n H v d → Da n H' v d
  | .none, _, h => by cases h; exact .non
  | .bool b, _, h => by cases h; exact .bl b
  | .int i, _, h => by cases h; exact .int i
  | .str x, _, h => by cases h; exact .str x
  | .list ds, _, h => by
    cases h with
    | lst e n1 n2 ha => exact .lst (k _ _ n2 e) n1 n2 (DaAll.keep hn k ds _ ha)
  | .tuple ds, _, h => by
    cases h with
    | tup e ha =>
      refine .tup (k _ _ (fun z => ?_) e) (DaAll.keep hn k ds _ ha)
      obtain ⟨zs, q⟩ := hn
      rw [z, q] at e
      cases e
  | .dict ds, _, h => by
    cases h with
    | dct e ha =>
      refine .dct (k _ _ (fun z => ?_) e) (DaKv.keep hn k ds _ ha)
      obtain ⟨zs, q⟩ := hn
      rw [z, q] at e
      cases e
theorem DaAll.keep {n : Addr} {H H' : Hp} (hn : ∃ zs, H n = some (.lst zs)) (k : ∀ b o, b ≠ n → H b = some o → H' b = some o) : ∀ (ds : List PyData) (vs : List V), DaAll n H vs ds → DaAll n H' vs ds
  | [], _, h => by cases h; exact .nil
  | d :: ds, _, h => by
    cases h with
    | cons h1 h2 => exact .cons (Da.keep hn k d _ h1) (DaAll.keep hn k ds _ h2)
theorem DaKv.keep {n : Addr} {H H' : Hp} (hn : ∃ zs, H n = some (.lst zs)) (k : ∀ b o, b ≠ n → H b = some o → H' b = some o) : ∀ (ds : List (PyData × PyData)) (kvs : List (Key × V)), DaKv n H kvs ds → DaKv n H' kvs ds
  | [], _, h => by cases h; exact .nil
  | (_, d) :: ds, _, h => by
    cases h with
    | cons h1 h2 => exact .cons (Da.keep hn k d _ h1) (DaKv.keep hn k ds _ h2)
end
mutual
theorem Da.sameD {n : Addr} {H H' : Hp} (k : Same H H') : ∀ (d : PyData) (v : V), Da n H v d → Da n H' v d
  | .none, _, h => by cases h; exact .non
  | .bool b, _, h => by cases h; exact .bl b
  | .int i, _, h => by cases h; exact .int i
  | .str x, _, h => by cases h; exact .str x
  | .list ds, _, h => by
    cases h with
    | lst e n1 n2 ha => exact .lst (k _ _ e) n1 n2 (DaAll.sameD k ds _ ha)
  | .tuple ds, _, h => by
    cases h with
    | tup e ha => exact .tup (k _ _ e) (DaAll.sameD k ds _ ha)
  | .dict ds, _, h => by
    cases h with
    | dct e ha => exact .dct (k _ _ e) (DaKv.sameD k ds _ ha)
theorem DaAll.sameD {n : Addr} {H H' : Hp} (k : Same H H') : ∀ (ds : List PyData) (vs : List V), DaAll n H vs ds → DaAll n H' vs ds
  | [], _, h => by cases h; exact .nil
  | d :: ds, _, h => by
    cases h with
    | cons h1 h2 => exact .cons (Da.sameD k d _ h1) (DaAll.sameD k ds _ h2)
theorem DaKv.sameD {n : Addr} {H H' : Hp} (k : Same H H') : ∀ (ds : List (PyData × PyData)) (kvs : List (Key × V)), DaKv n H kvs ds → DaKv n H' kvs ds
  | [], _, h => by cases h; exact .nil
  | (_, d) :: ds, _, h => by
    cases h with
    | cons h1 h2 => exact .cons (Da.sameD k d _ h1) (DaKv.sameD k ds _ h2)
end
theorem Da.same {n : Addr} {H H' : Hp} {v : V} {d : PyData} (h : Da n H v d) (k : Same H H') : Da n H' v d := Da.sameD k d v h
theorem DaAll.same {n : Addr} {H H' : Hp} {vs : List V} {ds : List PyData} (h : DaAll n H vs ds) (k : Same H H') : DaAll n H' vs ds := DaAll.sameD k ds vs h
theorem DaAll.len {n : Addr} {H : Hp} {vs : List V} {ds : List PyData} (h : DaAll n H vs ds) : vs.length = ds.length := by
  induction ds generalizing vs with
  | nil => cases h; rfl
  | cons d ds ih =>
    cases h with
    | cons h1 h2 => rw [List.length_cons, List.length_cons, ih h2]
theorem DaAll.get {n : Addr} {H : Hp} {vs : List V} {ds : List PyData} (h : DaAll n H vs ds) (i : Nat) (v : V) (e : vs[i]? = some v) : ∃ d, ds[i]? = some d ∧ Da n H v d := by
  induction ds generalizing vs i with
  | nil => cases h; simp at e
  | cons d ds ih =>
    cases h with
    | cons h1 h2 =>
      cases i with
      | zero => exact ⟨d, rfl, by cases e; exact h1⟩
      | succ i => exact ih h2 i e
theorem DaAll.mem {n : Addr} {H : Hp} {vs : List V} {ds : List PyData} (h : DaAll n H vs ds) {v : V} (hv : v ∈ vs) : ∃ d ∈ ds, Da n H v d := by
  obtain ⟨i, hi, e⟩ := List.getElem_of_mem hv
  obtain ⟨d, e1, e2⟩ := h.get i v (by rw [List.getElem?_eq_getElem hi, e])
  exact ⟨d, List.mem_of_getElem? e1, e2⟩
theorem DaAll.app {n : Addr} {H : Hp} {vs us : List V} {ds es : List PyData} (h : DaAll n H vs ds) (h' : DaAll n H us es) : DaAll n H (vs ++ us) (ds ++ es) := by
  induction ds generalizing vs with
  | nil => cases h; exact h'
  | cons d ds ih =>
    cases h with
    | cons h1 h2 => exact .cons h1 (ih h2)
theorem DaAll.take {n : Addr} {H : Hp} {vs : List V} {ds : List PyData} (h : DaAll n H vs ds) (i : Nat) : DaAll n H (vs.take i) (ds.take i) := by
  induction ds generalizing vs i with
  | nil => cases h; simp only [List.take_nil]; exact .nil
  | cons d ds ih =>
    cases h with
    | cons h1 h2 =>
      cases i with
      | zero => simp only [List.take_zero]; exact .nil
      | succ i => simp only [List.take_succ_cons]; exact .cons h1 (ih h2 i)
theorem DaAll.drop {n : Addr} {H : Hp} {vs : List V} {ds : List PyData} (h : DaAll n H vs ds) (i : Nat) : DaAll n H (vs.drop i) (ds.drop i) := by
  induction ds generalizing vs i with
  | nil => cases h; simp only [List.drop_nil]; exact .nil
  | cons d ds ih =>
    cases h with
    | cons h1 h2 =>
      cases i with
      | zero => simp only [List.drop_zero]; exact .cons h1 h2
      | succ i => simp only [List.drop_succ_cons]; exact ih h2 i
theorem DaAll.ints {n : Addr} {H : Hp} : ∀ xs : List Int, DaAll n H (xs.map V.int) (xs.map PyData.int)
  | [] => .nil
  | x :: xs => .cons (.int x) (DaAll.ints xs)
/-- of which kind it is -/
def tyD : PyData → String
  | .none => "NoneType"
  | .bool _ => "bool"
  | .int _ => "int"
  | .str _ => "str"
  | .list _ => "list"
  | .tuple _ => "tuple"
  | .dict _ => "dict"
theorem Da.ty {K : PySem.W.Frag} {n : Addr} {H : Hp} {v : V} {d : PyData} (h : Da n H v d) : TyX K H v (.type (tyD d)) := by
  cases h with
  | non => exact .base .non
  | bl b => exact .base (.bl b)
  | int i => exact .base (.int i)
  | str x => exact .base (.str x)
  | lst e _ _ _ => exact .base (.lst e)
  | tup e _ => exact .base (.tup e)
  | dct e _ => exact .base (.dK e)
def isTupD : PyData → Bool
  | .tuple _ => true
  | _ => false
def isIntD : PyData → Bool
  | .int _ => true
  | .bool _ => true
  | _ => false
def isBoolD : PyData → Bool
  | .bool _ => true
  | _ => false
def isStrD : PyData → Bool
  | .str _ => true
  | _ => false
theorem kit_tup (d : PyData) : kitB (tyD d) "tuple" = some (isTupD d) := by cases d <;> (simp only [tyD, isTupD, isIntD, isBoolD, isStrD]; decide +kernel)
theorem kit_int (d : PyData) : kitB (tyD d) "int" = some (isIntD d) := by cases d <;> (simp only [tyD, isTupD, isIntD, isBoolD, isStrD]; decide +kernel)
theorem kit_bool (d : PyData) : kitB (tyD d) "bool" = some (isBoolD d) := by cases d <;> (simp only [tyD, isTupD, isIntD, isBoolD, isStrD]; decide +kernel)
theorem kit_str (d : PyData) : kitB (tyD d) "str" = some (isStrD d) := by cases d <;> (simp only [tyD, isTupD, isIntD, isBoolD, isStrD]; decide +kernel)
section
variable {X : Cx} {pins : List (Addr × Obj)} {σ : L2.St} {H : Hp} {s : Shared}
theorem key_reads {h : Heap} {k : Key} {u : Value} (e : keyIs k u = true) : Reads h u (kD k) [] := by
  rcases keyIs_shape e with ⟨i, t, rfl, rfl⟩ | ⟨x, t, rfl, rfl⟩
  · exact .int i t
  · exact .str x t
mutual
theorem Da.reads {n : Addr} (I : Inv X pins σ H s) : ∀ (d : PyData) (v : V) (u : Value), Da n H v d → RelV v u → ∃ as, Reads s.heap u d as ∧ sysModules ∉ as
  | .none, _, _, h, r => by
    cases h
    cases r
    exact ⟨_, Reads.none, List.not_mem_nil⟩
  | .bool b, _, _, h, r => by
    cases h
    cases r
    exact ⟨_, Reads.bool b, List.not_mem_nil⟩
  | .int i, _, _, h, r => by
    cases h
    obtain ⟨t, rfl⟩ := r
    exact ⟨_, Reads.int i t, List.not_mem_nil⟩
  | .str x, _, _, h, r => by
    cases h
    obtain ⟨t, rfl⟩ := r
    exact ⟨_, Reads.str x t, List.not_mem_nil⟩
  | .list ds, _, _, h, r => by
    cases h with
    | lst e n1 n2 ha =>
      cases r
      obtain ⟨its, rv, ⟨o, m, ho, hc, _, hd⟩, _⟩ := I.list (.inl (.inl e))
      obtain ⟨as, hr, hm⟩ := Da.readsAll I ds _ its ha rv
      refine ⟨_, Reads.list ho hc hd hr, fun z => ?_⟩
      rcases List.mem_cons.mp z with q | q
      · exact n1 q.symm
      · exact hm q
  | .tuple ds, _, _, h, r => by
    cases h with
    | tup e ha =>
      cases r
      obtain ⟨its, rv, ⟨o, ho, hc, m, hd⟩, _⟩ := I.tuple (.inl (.inl e))
      obtain ⟨as, hr, hm⟩ := Da.readsAll I ds _ its ha rv
      exact ⟨_, Reads.tuple ho hc hd hr, hm⟩
  | .dict ds, _, _, h, r => by
    cases h with
    | dct e ha =>
      rename_i a kvs
      cases r
      obtain ⟨_, hsys, vs, rel, o, es, ep, h1, h2, h3, _, pr, _⟩ := (show ObjOk X.prog X.w H s.heap a (.dK kvs) from I.hok a _ e)
      obtain ⟨as, bs, q1, m1, q2, m2⟩ := Da.readsKv I ds kvs vs es.toList ha rel pr
      refine ⟨_, Reads.dict h1 h2.1 h3 q1 q2, fun z => ?_⟩
      rw [List.cons_append] at z
      rcases List.mem_cons.mp z with q | q
      · exact beq_eq_false_iff_ne.mp hsys q.symm
      · rcases List.mem_append.mp q with q | q
        · exact m1 q
        · exact m2 q
theorem Da.readsAll {n : Addr} (I : Inv X pins σ H s) : ∀ (ds : List PyData) (vs : List V) (us : List Value), DaAll n H vs ds → Vals vs us → ∃ as, ReadsAll s.heap us ds as ∧ sysModules ∉ as
  | [], _, _, h, r => by
    cases h
    cases r
    exact ⟨_, ReadsAll.nil, List.not_mem_nil⟩
  | d :: ds, _, _, h, r => by
    cases h with
    | cons h1 h2 =>
      cases r with
      | cons r1 r2 =>
        obtain ⟨as, q1, m1⟩ := Da.reads I d _ _ h1 r1
        obtain ⟨bs, q2, m2⟩ := Da.readsAll I ds _ _ h2 r2
        refine ⟨_, ReadsAll.cons q1 q2, fun z => ?_⟩
        rcases List.mem_append.mp z with q | q
        · exact m1 q
        · exact m2 q
theorem Da.readsKv {n : Addr} (I : Inv X pins σ H s) : ∀ (ds : List (PyData × PyData)) (kvs : List (Key × V)) (vs : List (Key × Value)) (es : List DictEntry), DaKv n H kvs ds → KV kvs vs → Pairs (mixKind X.prog X.w) es vs →
    ∃ as bs, ReadsAll s.heap (es.map (·.key)) (ds.map (·.1)) as ∧ sysModules ∉ as ∧ ReadsAll s.heap (es.map (·.val)) (ds.map (·.2)) bs ∧ sysModules ∉ bs
  | [], _, _, _, h, r, p => by
    cases h
    cases r
    cases p
    exact ⟨_, _, ReadsAll.nil, List.not_mem_nil, ReadsAll.nil, List.not_mem_nil⟩
  | (_, d) :: ds, _, _, _, h, r, p => by
    cases h with
    | cons h1 h2 =>
      cases r with
      | cons r1 r2 =>
        cases p with
        | cons p1 p2 p3 =>
          obtain ⟨as, bs, q1, m1, q2, m2⟩ := Da.readsKv I ds _ _ _ h2 r2 p3
          obtain ⟨cs, q3, m3⟩ := Da.reads I d _ _ h1 r1.2
          refine ⟨_, _, ReadsAll.cons (key_reads (by have e := r1.1; simp only at e; show keyIs _ _ = true; rw [e]; exact p1)) q1, ?_, ReadsAll.cons (by show Reads s.heap (DictEntry.val _) d _; rw [p2]; exact q3) q2, fun z => ?_⟩
          · rw [List.nil_append]
            exact m1
          · rcases List.mem_append.mp z with q | q
            · exact m3 q
            · exact m2 q
end
end
/-- data that repr writes: at most w by weight, nested at most k deep -/
structure Sm (d : PyData) (w k : Nat) : Prop where
  sh : d.showable = true
  dp : d.depth ≤ k
  lv : d.leavesShort 100 = true
  wt : d.weight ≤ w
theorem Sm.mono {d : PyData} {w v k m : Nat} (h : Sm d w k) (hw : w ≤ v) (hk : k ≤ m) : Sm d v m := ⟨h.sh, Nat.le_trans h.dp hk, h.lv, Nat.le_trans h.wt hw⟩
/-- each of them -/
def SmE (ds : List PyData) (k : Nat) : Prop := ∀ d ∈ ds, d.showable = true ∧ d.depth ≤ k ∧ d.leavesShort 100 = true
theorem smE_iff : ∀ (ds : List PyData) (k : Nat), SmE ds k ↔ PyData.showableAll ds = true ∧ PyData.depthAll ds ≤ k ∧ PyData.leavesShortAll 100 ds = true
  | [], k => by
    refine ⟨fun _ => ⟨rfl, Nat.zero_le _, rfl⟩, fun _ d h => absurd h List.not_mem_nil⟩
  | d :: ds, k => by
    have ih := smE_iff ds k
    constructor
    · intro h
      have h1 := h d List.mem_cons_self
      have h2 := ih.mp fun e he => h e (List.mem_cons_of_mem _ he)
      refine ⟨?_, ?_, ?_⟩
      · simp only [PyData.showableAll, h1.1, h2.1, Bool.and_self]
      · simp only [PyData.depthAll]
        omega
      · simp only [PyData.leavesShortAll, h1.2.2, h2.2.2, Bool.and_self]
    · rintro ⟨h1, h2, h3⟩ e he
      simp only [PyData.showableAll, Bool.and_eq_true] at h1
      simp only [PyData.depthAll] at h2
      simp only [PyData.leavesShortAll, Bool.and_eq_true] at h3
      rcases List.mem_cons.mp he with rfl | he
      · exact ⟨h1.1, by omega, h3.1⟩
      · exact ih.mpr ⟨h1.2, by omega, h3.2⟩ e he
theorem smE_iff_depth : ∀ (ds : List PyData) (k : Nat), PyData.depthAll ds ≤ k ↔ ∀ d ∈ ds, d.depth ≤ k
  | [], k => ⟨fun _ d h => absurd h List.not_mem_nil, fun _ => Nat.zero_le _⟩
  | d :: ds, k => by
    have ih := smE_iff_depth ds k
    simp only [PyData.depthAll]
    constructor
    · intro h e he
      rcases List.mem_cons.mp he with rfl | he
      · omega
      · exact ih.mp (by omega) e he
    · intro h
      have h1 := h d List.mem_cons_self
      have h2 := ih.mpr fun e he => h e (List.mem_cons_of_mem _ he)
      omega
theorem wt_app : ∀ xs ys : List PyData, PyData.weightAll (xs ++ ys) = PyData.weightAll xs + PyData.weightAll ys
  | [], ys => by simp [PyData.weightAll]
  | x :: xs, ys => by
    rw [List.cons_append]
    simp only [PyData.weightAll, wt_app xs ys]
    omega
theorem wt_len : ∀ xs : List PyData, xs.length ≤ PyData.weightAll xs
  | [] => by simp [PyData.weightAll]
  | x :: xs => by
    have := wt_len xs
    simp only [PyData.weightAll, List.length_cons]
    omega
theorem wt_mem : ∀ {xs : List PyData} {d : PyData}, d ∈ xs → d.weight + 1 ≤ PyData.weightAll xs
  | [], d, h => absurd h List.not_mem_nil
  | x :: xs, d, h => by
    simp only [PyData.weightAll]
    rcases List.mem_cons.mp h with rfl | h
    · omega
    · have := wt_mem h
      omega
theorem Sm.tup {ds : List PyData} {w k : Nat} (h : SmE ds k) (hw : PyData.weightAll ds ≤ w) : Sm (.tuple ds) w (k + 1) := by
  obtain ⟨a, b, c⟩ := (smE_iff ds k).mp h
  refine ⟨?_, ?_, ?_, ?_⟩
  · simpa only [PyData.showable] using a
  · simp only [PyData.depth]
    omega
  · simpa only [PyData.leavesShort] using c
  · simpa only [PyData.weight] using hw
theorem Sm.lst {ds : List PyData} {w k : Nat} (h : SmE ds k) (hw : PyData.weightAll ds ≤ w) : Sm (.list ds) w (k + 1) := by
  obtain ⟨a, b, c⟩ := (smE_iff ds k).mp h
  refine ⟨?_, ?_, ?_, ?_⟩
  · simpa only [PyData.showable] using a
  · simp only [PyData.depth]
    omega
  · simpa only [PyData.leavesShort] using c
  · simpa only [PyData.weight] using hw
theorem Sm.of_tup {ds : List PyData} {w k : Nat} (h : Sm (.tuple ds) w k) : ∃ j, k = j + 1 ∧ SmE ds j ∧ PyData.weightAll ds ≤ w := by
  obtain ⟨a, b, c, e⟩ := h
  simp only [PyData.showable] at a
  simp only [PyData.depth] at b
  simp only [PyData.leavesShort] at c
  simp only [PyData.weight] at e
  refine ⟨k - 1, by omega, (smE_iff ds _).mpr ⟨a, by omega, c⟩, e⟩
theorem Sm.int {i : Int} (h : i.natAbs < 10 ^ 90) : Sm (.int i) 310 0 := by
  have s := Small.int h
  exact ⟨s.sh, s.dp, s.lv, s.wt⟩
theorem Sm.bool (b : Bool) : Sm (.bool b) 0 0 := ⟨rfl, Nat.le_refl _, rfl, Nat.le_refl _⟩
theorem Sm.none : Sm .none 0 0 := ⟨rfl, Nat.le_refl _, rfl, Nat.le_refl _⟩
theorem Sm.e {d : PyData} {w k : Nat} (h : Sm d w k) : d.showable = true ∧ d.depth ≤ k ∧ d.leavesShort 100 = true := ⟨h.sh, h.dp, h.lv⟩
theorem Sm.dict0 : Sm (.dict []) 0 1 := ⟨rfl, by decide, rfl, Nat.le_refl _⟩
theorem Sm.dict1 {x : Str} {d : PyData} {w v k : Nat} (hx : Sm (.str x) v k) (h : Sm d w k) : Sm (.dict [(.str x, d)]) (v + w + 2) (k + 1) := by
  have a := hx.wt
  have b := h.wt
  have c := hx.dp
  have e := h.dp
  refine ⟨?_, ?_, ?_, ?_⟩
  · simp only [PyData.showable, PyData.showableKv, h.sh, Bool.and_self]
  · simp only [PyData.depth, PyData.depthKv]
    omega
  · have e1 := hx.lv
    simp only [PyData.leavesShort, PyData.leavesShortKv] at e1 ⊢
    rw [e1, h.lv]
    rfl
  · simp only [PyData.weight, PyData.weightKv] at a ⊢
    omega
theorem Sm.long {d : PyData} {w k : Nat} (h : Sm d w k) (hw : w ≤ 150000) : d.shown.length ≤ sizeLine := by
  have e := PyData.shown_le 100 (by decide) d h.lv
  have := h.wt
  rw [sizeLine_eq]
  have : (100 + 2) * d.weight ≤ (100 + 2) * 150000 := Nat.mul_le_mul_left _ (Nat.le_trans h.wt hw)
  omega
section
variable {X : Cx}
/-- isinstance(x, T), x data -/
theorem call_isiD : CallR X (.builtin "isinstance") (fun xs H Q => ∃ n v d T b, xs = [v, .ty T] ∧ Da n H v d ∧ kitB (tyD d) T = some b ∧ Q (.bl b) H) := by
  intro pins s σ H xs us Q I r h
  obtain ⟨n, v, d, T, b, rfl, hd, hk, q⟩ := h
  exact call_isi pins s σ H _ us Q I r ⟨v, .ty T, _, _, b, rfl, .ty T, hd.ty, kit_ty hk, q⟩
/-- repr(x), x data -/
theorem call_reprA (hG : X.A.guards = some []) (hu : X.A.units + 64 < cLine) : CallR X (.builtin "repr") (fun xs H Q => ∃ n v d w k, xs = [v] ∧ Da n H v d ∧ Sm d w k ∧ w ≤ 150000 ∧ k ≤ 60 ∧ Q (.str d.shown) H) := by
  intro pins s σ H xs us Q I r h
  obtain ⟨n, v, d, w, k, rfl, hd, S, hw, hk, q⟩ := h
  obtain ⟨u, rfl, ru⟩ := vals1 r
  have hz := S.long hw
  have hsh := S.sh
  cases v with
  | ref a =>
    obtain ⟨as, rd, nm⟩ := Da.reads I d _ u hd ru
    cases ru
    have hn := S.dp
    exact repr_of_reads' rd S.sh (fun _ => nm) hG (by omega) (fun _ _ z => z) (fun h' u tk hk => ⟨.str _, H, I.kept hk, ⟨_, rfl⟩, q⟩) hz
  | non =>
    cases hd
    cases ru
    exact P.repr_of_none ⟨.str "None", H, I.tok _, ⟨_, rfl⟩, q⟩
  | bl b =>
    cases hd
    cases ru
    exact P.repr_of_bool ⟨.str (if b then "True" else "False"), H, I.tok _, ⟨_, rfl⟩, q⟩
  | int i =>
    cases hd
    obtain ⟨t, rfl⟩ := ru
    simp only [PyData.showable, decide_eq_true_eq] at hsh
    exact P.repr_of_int hsh ⟨.str (toString i), H, I.tok _, ⟨_, rfl⟩, q⟩
  | str x =>
    cases hd
    obtain ⟨t, rfl⟩ := ru
    exact P.repr_of_str ⟨.str (reprText x), H, I.tok _, ⟨_, rfl⟩, q⟩ hz
  | _ => cases hd
/-- t == (), t any tuple -/
theorem op_eq0 (hu : X.A.units < cLine) : OpR X (compareOp .Eq) (fun x y H Q => ∃ a b xs, x = .ref a ∧ y = .ref b ∧ SqT X.K H a xs ∧ SqT X.K H b [] ∧ Q (.bl xs.isEmpty) H) := by
  intro pins s σ H x y v u Q I rx ry h
  obtain ⟨a, b, xs, rfl, rfl, ha, hb, q⟩ := h
  cases rx
  cases ry
  obtain ⟨i1, r1, p1, _⟩ := I.tuple ha
  obtain ⟨i2, r2, p2, _⟩ := I.tuple hb
  cases r2
  refine SeqAt.eq_tupleAt (e := fun _ => true) p1 p2 hu (fun j h1 h2 => absurd h2 (by simp)) ?_
  refine ⟨.bl xs.isEmpty, H, I, ?_, q⟩
  have e := r1.length
  cases xs with
  | nil =>
    cases r1
    rfl
  | cons z zs =>
    cases r1
    simp [L2.RelV]
/-- x is y, x is not y, of truths -/
theorem op_isB : OpR X (compareOp .Is) (fun x y H Q => ∃ a b, x = .bl a ∧ y = .bl b ∧ Q (.bl (a == b)) H) := by
  intro pins s σ H x y v u Q I rx ry h
  obtain ⟨a, b, rfl, rfl, q⟩ := h
  cases rx
  cases ry
  exact wpAny_pure ⟨.bl (a == b), H, I, by cases a <;> cases b <;> rfl, q⟩
theorem op_isnotB : OpR X (compareOp .IsNot) (fun x y H Q => ∃ a b, x = .bl a ∧ y = .bl b ∧ Q (.bl (!(a == b))) H) := by
  intro pins s σ H x y v u Q I rx ry h
  obtain ⟨a, b, rfl, rfl, q⟩ := h
  cases rx
  cases ry
  exact wpAny_pure ⟨.bl (!(a == b)), H, I, by cases a <;> cases b <;> rfl, q⟩
/-- t != (), t any tuple -/
theorem op_ne0 (hu : X.A.units < cLine) : OpR X (compareOp .NotEq) (fun x y H Q => ∃ a b xs, x = .ref a ∧ y = .ref b ∧ SqT X.K H a xs ∧ SqT X.K H b [] ∧ Q (.bl (!xs.isEmpty)) H) := by
  intro pins s σ H x y v u Q I rx ry h
  obtain ⟨a, b, xs, rfl, rfl, ha, hb, q⟩ := h
  cases rx
  cases ry
  obtain ⟨i1, r1, p1, _⟩ := I.tuple ha
  obtain ⟨i2, r2, p2, _⟩ := I.tuple hb
  cases r2
  refine SeqAt.RcNeAt.tuples (e := fun _ => true) p1 p2 hu (fun j h1 h2 => absurd h2 (by simp)) X.prog X.w X.xe _ ?_
  refine ⟨.bl (!xs.isEmpty), H, I, ?_, q⟩
  cases xs with
  | nil =>
    cases r1
    rfl
  | cons z zs =>
    cases r1
    simp [L2.RelV]
/-- a written list stands apart from what the machine keeps by itself -/
def tLstN (t : TA) : TE := fun σ H Q => t σ H fun xs H1 => xs.length ≤ sizeLine ∧ ∀ p, H1 p = none → p ≠ sysModules → Q (.ref p) (upd H1 p (.lst xs))
theorem pe_lstN {es : List Expr} {pos : Pos} {t : TA} (h : PA X es t) : PE X (.List es pos) (tLstN t) := by
  refine ⟨fun pins s σ H Q I hq => ?_⟩
  refine wpAny_List_spliced (thn (h.run pos pins s σ H _ I hq) fun us s1 ⟨xs, H1, I1, r, z, q⟩ => ⟨by rw [← r.length]; exact z, ?_⟩)
  have hf : H1 s1.heap.objs.size = none := I1.hok.fresh (Nat.le_refl _)
  refine ⟨.ref s1.heap.objs.size, upd H1 s1.heap.objs.size (.lst xs), I1.laid (t' := s1.toks) (fun b u e => Heap.get?_push_of_some _ e) (Nat.le_refl _) ?_, rfl, q _ hf (Nat.ne_of_gt I1.big)⟩
  exact ⟨z, us, 0, r, Heap.get?_push_size _ rfl⟩
/-- list(t), t a tuple -/
theorem call_list_ofN : CallR X (.type "list") (fun xs H Q => ∃ p ys, xs = [.ref p] ∧ SqT X.K H p ys ∧ ∀ l, H l = none → l ≠ sysModules → Q (.ref l) (upd H l (.lst ys))) := by
  intro pins s σ H xs us Q I r h
  obtain ⟨p, ys, rfl, hq, q⟩ := h
  obtain ⟨u, rfl, rx⟩ := vals1 r
  cases rx
  have fin : ∀ (its : List Value), Vals ys its → ys.length ≤ sizeLine → ∀ (h' : Heap) (c' : Nat), (∀ b o', s.heap.get? b = some o' → h'.get? b = some o') →
      h'.get? s.heap.objs.size = some { cls := .type "list", dict := none, data := .seq its.toArray c', slots := #[] } → EP X pins σ Q (.ref s.heap.objs.size) { s with heap := h' } := fun its r' hz h' c' kp e =>
    ⟨.ref s.heap.objs.size, _, I.laid (t' := s.toks) kp (Nat.le_refl _) (show ObjOk X.prog X.w _ h' _ (.lst ys) from ⟨hz, its, c', r', e⟩), rfl, q _ (I.hok.fresh (Nat.le_refl _)) (Nat.ne_of_gt I.big)⟩
  obtain ⟨its, r', pl, hz⟩ := I.tuple hq
  have hlen := r'.length
  obtain ⟨o, ho, hc, n, hd⟩ := pl
  exact call_list_seq p (.inr rfl) ho hc hd (fun h' c' kp e => fin its r' hz h' c' kp e) (by simp only [List.size_toArray] <;> omega)
end
/-- two ways that come to the same -/
theorem join2 {c : Bool} {A B : VK → Prop} {Q : VK} (R : V → Hp → Prop) (hA : ∀ Q' : VK, (∀ v H, R v H → Q' v H) → A Q') (hB : ∀ Q' : VK, (∀ v H, R v H → Q' v H) → B Q') (hQ : ∀ v H, R v H → Q v H) : if c = true then A Q else B Q := by
  cases c
  · exact iteF (hB Q hQ)
  · exact iteT (hA Q hQ)
theorem inV_int2 (i j k : Int) : inV (V.int i) [V.int j, V.int k] = (decide (i = j) || decide (i = k)) := by
  rw [Bool.eq_iff_iff]
  simp only [inV, eqV, List.any_cons, List.any_nil, Bool.or_false, Bool.or_eq_true, beq_iff_eq, decide_eq_true_eq]
  constructor
  · rintro (h | h)
    · exact .inl h.symm
    · exact .inr h.symm
  · rintro (h | h)
    · exact .inl h.symm
    · exact .inr h.symm
theorem inV_str2 (z x y : Str) : inV (V.str z) [V.str x, V.str y] = (decide (z = x) || decide (z = y)) := by
  rw [Bool.eq_iff_iff]
  simp only [inV, eqV, List.any_cons, List.any_nil, Bool.or_false, Bool.or_eq_true, beq_iff_eq, decide_eq_true_eq]
  constructor
  · rintro (h | h)
    · exact .inl h.symm
    · exact .inr h.symm
  · rintro (h | h)
    · exact .inl h.symm
    · exact .inr h.symm
theorem wipe1 {σ : L2.St} {k : Nat} {v : Option V} {n : Str} : wipe ((wipe σ ([(n, k)].map (·.2))).set k v) ([(n, k)].map (·.2)) = wipe σ ([(n, k)].map (·.2)) := by
  show ((σ.set k none).set k v).set k none = σ.set k none
  rw [List.set_set, List.set_set]
end NB

set_option Elab.async false
set_option linter.all false
set_option maxRecDepth 100000
namespace K02
open PySem PySem.Spec PyProof.Rows L2 NB
def topS (i : Nat) : Stmt := PySem.Challenge.pw_notbothout_k02_sides_and_standings_of_an.main.body.getD i (.Pass ⟨0, 0, 0, 0⟩)

/-- all that was tracked stands, but for what is at a -/
def But (a : Addr) (H H' : Hp) : Prop := ∀ b o, b ≠ a → H b = some o → H' b = some o
theorem But.of {a : Addr} {H H' : Hp} (h : Same H H') : But a H H' := fun b o _ e => h b o e
theorem But.trans {a : Addr} {H H1 H2 : Hp} (h : But a H H1) (h' : But a H1 H2) : But a H H2 := fun b o n e => h' b o n (h b o n e)
theorem But.seq {K : PySem.W.Frag} {a l : Addr} {H H' : Hp} {xs : List V} (h : But a H H') (n : l ≠ a) (q : SqL K H l xs) : SqL K H' l xs := by
  rcases q with (q | ⟨o, q⟩) | q
  · exact .inl (.inl (h _ _ n q))
  · exact .inl (.inr ⟨o, h _ _ n q⟩)
  · exact .inr q
theorem But.tup {K : PySem.W.Frag} {a l : Addr} {H H' : Hp} {xs : List V} (h : But a H H') (n : l ≠ a) (q : SqT K H l xs) : SqT K H' l xs := by
  rcases q with (q | ⟨o, q⟩) | q
  · exact .inl (.inl (h _ _ n q))
  · exact .inl (.inr ⟨o, h _ _ n q⟩)
  · exact .inr q
theorem sameT {K : PySem.W.Frag} {l : Addr} {H H' : Hp} {xs : List V} (h : Same H H') (q : SqT K H l xs) : SqT K H' l xs := by
  rcases q with (q | ⟨o, q⟩) | q
  · exact .inl (.inl (h _ _ q))
  · exact .inl (.inr ⟨o, h _ _ q⟩)
  · exact .inr q
theorem same_new {H : Hp} {p : Addr} {o : HO} (h : H p = none) : Same H (upd H p o) := fun b x e => by
  rw [upd_ne (ne_of_none e h)]
  exact e
/-- a cell that was free and is written stands apart from what was -/
theorem same_over {H H' : Hp} {p : Addr} {o : HO} (h : Same H H') (n : H p = none) : Same H (upd H' p o) := fun b x e => by
  rw [upd_ne (ne_of_none e n)]
  exact h b x e

theorem mapGet {α β : Type} {f : α → β} {xs : List α} {i : Nat} {y : β} (h : (xs.map f)[i]? = some y) : ∃ x, xs[i]? = some x ∧ y = f x := by
  rw [List.getElem?_map] at h
  cases e : xs[i]? with
  | none => rw [e] at h; cases h
  | some x => rw [e] at h; exact ⟨x, rfl, (Option.some.inj h).symm⟩

theorem take_map {α β : Type} (f : α → β) (xs : List α) (i : Nat) (y : α) (h : xs[i]? = some y) : (xs.take (i + 1)).map f = (xs.take i).map f ++ [f y] := by
  rw [List.take_add_one, h, List.map_append]
  rfl
theorem take_small {α : Type} {xs : List α} {i : Nat} (h : xs.length ≤ 1000) {β : Type} (f : α → β) : ((xs.take i).map f).length < sizeLine := by
  rw [List.length_map, List.length_take]
  exact Nat.lt_of_le_of_lt (Nat.min_le_right _ _) (small1000 h)

abbrev sPot : Stmt := topS 26
abbrev sTake : Stmt := topS 27
abbrev sOf : Stmt := topS 28
abbrev sStand : Stmt := topS 29
abbrev sWide : Stmt := topS 31
theorem scPot : FnScope ["_law_script", "_law_k", "_law_cell", "_law_great"] ["_law_script", "_law_k"] (defScope sPot) := ⟨rfl, rfl, rfl, by decide +kernel, rfl, by decide +kernel, by decide +kernel⟩
theorem scTake : FnScope ["_law_pot_here", "_law_many", "_law_digit", "_law_prime", "_law_mixed"] ["_law_pot_here", "_law_many"] (defScope sTake) := ⟨rfl, rfl, rfl, by decide +kernel, rfl, by decide +kernel, by decide +kernel⟩
theorem scOf : FnScope ["_law_pot_here", "_law_some"] ["_law_pot_here", "_law_some"] (defScope sOf) := ⟨rfl, rfl, rfl, by decide +kernel, rfl, by decide +kernel, by decide +kernel⟩
theorem scStand : FnScope ["_law_pot_here", "_law_tops_here", "_law_top"] ["_law_pot_here", "_law_tops_here"] (defScope sStand) := ⟨rfl, rfl, rfl, by decide +kernel, rfl, by decide +kernel, by decide +kernel⟩
theorem scWide : FnScope ["_law_pot_here", "_law_found", "_law_thing", "_law_great"] ["_law_pot_here"] (defScope sWide) := ⟨rfl, rfl, rfl, by decide +kernel, rfl, by decide +kernel, by decide +kernel⟩

/-- a pot out of which at most c numbers were taken by reckoning -/
def PotAt (H : Hp) (a : Addr) (c : Nat) : Prop := ∃ p q r : Int, H a = some (.lst [.int p, .int q, .int r]) ∧ 0 ≤ p ∧ 0 ≤ r ∧ r ≤ c
theorem PotAt.mono {H : Hp} {a : Addr} {c d : Nat} (h : PotAt H a c) (le : c ≤ d) : PotAt H a d := by
  obtain ⟨p, q, r, e, h1, h2, h3⟩ := h
  exact ⟨p, q, r, e, h1, h2, by omega⟩
theorem PotAt.keep {H H' : Hp} {a : Addr} {c : Nat} (h : PotAt H a c) (s : Same H H') : PotAt H' a c := by
  obtain ⟨p, q, r, e, h1, h2, h3⟩ := h
  exact ⟨p, q, r, s _ _ e, h1, h2, h3⟩
theorem PotAt.ne {H : Hp} {a b : Addr} {c : Nat} (h : PotAt H a c) (n : H b = none) : b ≠ a := by
  obtain ⟨p, q, r, e, _⟩ := h
  exact (ne_of_none e n).symm
theorem But.free {a b : Addr} {H H' : Hp} (h : But a H H') (ne : b ≠ a) (n : H' b = none) : H b = none := by
  cases e : H b with
  | none => rfl
  | some o =>
    rw [h b o ne e] at n
    cases n
theorem but_new {a p : Addr} {H H' : Hp} {o : HO} (h : But a H H') (n : H p = none) : But a H (upd H' p o) := fun b x ne e => by
  rw [upd_ne (ne_of_none e n)]
  exact h b x ne e
theorem but_at {a : Addr} {H H' : Hp} {o : HO} (h : But a H H') : But a H (upd H' a o) := fun b x ne e => by
  rw [upd_ne ne]
  exact h b x ne e

theorem prime_at (j : Int) (h0 : 0 ≤ j) (h4 : j < 4) : ∃ pr : Int, atI [V.int 2305843009213693951, V.int 999999999989, V.int 1000000000039, V.int 67280421310721] j = some (.int pr) ∧ 0 < pr ∧ pr < 2 ^ 62 := by
  have : j = 0 ∨ j = 1 ∨ j = 2 ∨ j = 3 := by omega
  rcases this with rfl | rfl | rfl | rfl
  · exact ⟨_, atI_nat (j := 0) rfl, by decide, by decide⟩
  · exact ⟨_, atI_nat (j := 1) rfl, by decide, by decide⟩
  · exact ⟨_, atI_nat (j := 2) rfl, by decide, by decide⟩
  · exact ⟨_, atI_nat (j := 3) rfl, by decide, by decide⟩

section
variable {P : Program} {w : World} {K : PySem.W.Frag} {mg : Str → Option Value} {base : Heap}

def spPot (K : PySem.W.Frag) : Sp := fun vs H Q _ => ∃ (a : Addr) (ns : List Int) (k : Nat), vs = [.ref a, .int k] ∧ SqL K H a (ns.map V.int) ∧ k ≤ 1000 ∧
  ∀ H' p, Same H H' → H p = none → PotAt H' p 0 → Q (.ref p) H'
theorem ok_pot {f : Addr} {fd : FuncData} {k : Nat} (F : Fun K "_law_pot" "_law_pot" sPot f fd) (ml : mg "len" = none) (ma : mg "abs" = none) (mi : mg "int" = none) : FnOk P w K mg base CX0 (k + 1) f fd ["_law_script", "_law_k"] (spPot K) := by
  refine F.ok scPot (fun vs H Q E h => ?_) (fun cdv A outer s H vs Q E hr h => ?_)
  · obtain ⟨a, ns, k, rfl, _⟩ := h
    rfl
  · obtain ⟨a, ns, k, rfl, hS, hk, q⟩ := h
    refine ⟨_, pss_cons (ps_set (i := 2) scPot.nd rfl (.inl rfl) (pe_ifExp (pt_cmpR op_lt (pv 1) (pe_callB call_len_seq (by rfl) ml PySem.boot_len (pa_cons (pv 0) pa_nil)) (nomark _)) (pe_ix ix_list (pv 0) (pv 1) (fun _ _ => rfl)) (pe_op op_add (pe_op op_mul pe_int (pv 1)) pe_int)))
      (pss_cons (ps_set (i := 3) scPot.nd rfl (.inl rfl) (pe_op op_mul (pe_op op_mod (pe_callB call_abs (by rfl) ma (by decide +kernel) (pa_cons (pv 2) pa_nil)) (pe_op op_powW (pe_op op_pow pe_int pe_int) pe_int))
          (pe_callTy call_int1 (by rfl) mi (by decide +kernel) (pa_cons (pe_cmpR op_ge (pe_callB call_abs (by rfl) ma (by decide +kernel) (pa_cons (pv 2) pa_nil)) (pe_op op_pow pe_int pe_int) (nomark _)) pa_nil))))
      (pss_one (ps_ret (pe_lst (pa_cons (pv 3) (pa_cons (pe_op op_mod (pe_op op_mul (pe_op op_add (pe_op op_add (pe_op op_mod (pv 2) pe_int) (pe_op op_mul (pe_op op_mul pe_int (pv 1)) (pv 1))) pe_int) pe_int) pe_int) (pa_cons pe_int pa_nil))))))), ?_⟩
    have k1 : -(2 ^ 64) < (k : Int) ∧ (k : Int) < 2 ^ 64 := by omega
    have big : (0 : Int) < (10 ^ (60 : Int).toNat) ^ (5 : Int).toNat := by decide +kernel
    have one : ∀ b : Bool, -(2 ^ 64) < (if b = true then (1 : Int) else 0) ∧ (if b = true then (1 : Int) else 0) < 2 ^ 64 := fun b => by cases b <;> decide
    have nn : ∀ (x : Int) (b : Bool), 0 ≤ x % (10 ^ (60 : Int).toNat) ^ (5 : Int).toNat * (if b = true then (1 : Int) else 0) := fun x b => Int.mul_nonneg (Int.emod_nonneg _ (Int.ne_of_gt big)) (by cases b <;> decide)
    refine ⟨.int k, rfl, .ref a, rfl, a, _, rfl, .inl hS, _, _, rfl, rfl, _, rfl, ite2 (fun c => ?_) (fun c => ?_)⟩
    · have c' := of_decide_eq_true c
      rw [List.length_map] at c'
      have lt : k < ns.length := by omega
      refine ⟨.ref a, rfl, .int k, rfl, a, _, k, .int ns[k], rfl, rfl, hS, atI_nat (by rw [List.getElem?_map, List.getElem?_eq_getElem lt]; rfl), ?_⟩
      refine ⟨.int ns[k], rfl, _, rfl, 10, 60, rfl, rfl, ⟨by decide, by decide, by decide⟩, _, 5, rfl, rfl, ⟨by decide, by decide +kernel⟩, _, _, rfl, rfl, big, .int ns[k], rfl, _, rfl, 10, 18, rfl, rfl, ⟨by decide, by decide, by decide⟩, _, _, rfl, rfl, .inr ⟨_, rfl, _, _, rfl, rfl, .inr (one _), ?_⟩⟩
      refine ⟨_, rfl, .int ns[k], rfl, _, 2305843009213693951, rfl, rfl, (show (0 : Int) < 2305843009213693951 by decide), .int k, rfl, 7919, k, rfl, rfl, .inl ⟨by decide, by decide⟩, .int k, rfl, _, k, rfl, rfl, .inr k1, _, _, rfl, rfl, _, 17, rfl, rfl, _, 48271, rfl, rfl, .inr ⟨by decide, by decide⟩, _, 2305843009213693921, rfl, rfl, (show (0 : Int) < 2305843009213693921 by decide), (show 3 ≤ sizeLine by decide), fun p np => ?_⟩
      exact q _ p (same_new np) np ⟨_, _, 0, upd_same, nn _ _, Int.le_refl _, Int.le_refl _⟩
    · refine ⟨.int k, rfl, 7, _, rfl, rfl, .inl ⟨by decide, by decide⟩, _, 3, rfl, rfl, ?_⟩
      refine ⟨_, rfl, _, rfl, 10, 60, rfl, rfl, ⟨by decide, by decide, by decide⟩, _, 5, rfl, rfl, ⟨by decide, by decide +kernel⟩, _, _, rfl, rfl, big, _, rfl, _, rfl, 10, 18, rfl, rfl, ⟨by decide, by decide, by decide⟩, _, _, rfl, rfl, .inr ⟨_, rfl, _, _, rfl, rfl, .inr (one _), ?_⟩⟩
      refine ⟨_, rfl, _, rfl, _, 2305843009213693951, rfl, rfl, (show (0 : Int) < 2305843009213693951 by decide), .int k, rfl, 7919, k, rfl, rfl, .inl ⟨by decide, by decide⟩, .int k, rfl, _, k, rfl, rfl, .inr k1, _, _, rfl, rfl, _, 17, rfl, rfl, _, 48271, rfl, rfl, .inr ⟨by decide, by decide⟩, _, 2305843009213693921, rfl, rfl, (show (0 : Int) < 2305843009213693921 by decide), (show 3 ≤ sizeLine by decide), fun p np => ?_⟩
      exact q _ p (same_new np) np ⟨_, _, 0, upd_same, nn _ _, Int.le_refl _, Int.le_refl _⟩

/-- a drawn number -/
def spTake : Sp := fun vs H Q _ => ∃ (a : Addr) (m : Int) (c : Nat), vs = [.ref a, .int m] ∧ PotAt H a c ∧ 1 ≤ m ∧ m < 2 ^ 200 ∧ c < 1000000 ∧
  ∀ (d : Int) H', But a H H' → PotAt H' a (c + 1) → 0 ≤ d → d < m → Q (.int d) H'
theorem ok_take {f : Addr} {fd : FuncData} {k : Nat} (F : Fun K "_law_take" "_law_take" sTake f fd) : FnOk P w K mg base CX0 (k + 1) f fd ["_law_pot_here", "_law_many"] spTake := by
  refine F.ok scTake (fun vs H Q E h => ?_) (fun cdv A outer s H vs Q E hr h => ?_)
  · obtain ⟨a, m, c, rfl, _⟩ := h
    rfl
  · obtain ⟨a, m, c, rfl, ⟨p0, p1, p2, ea, n0, n2, l2⟩, m1, m2, hc, q⟩ := h
    refine ⟨_, pss_cons (ps_if (pt_cmpR op_gt (pe_ix ix_list (pv 0) pe_int (fun _ _ => rfl)) pe_int (nomark _))
        (pss_cons (ps_set (i := 2) scTake.nd rfl (.inl rfl) (pe_op op_mod (pe_ix ix_list (pv 0) pe_int (fun _ _ => rfl)) (pv 1)))
        (pss_cons (ps_asg (pe_op op_fdivW (pe_ix ix_list (pv 0) pe_int (fun _ _ => rfl)) (pv 1)) (pg_sub (pv 0) pe_int set_list))
        (pss_one (ps_ret (pv 2))))) pss_nil)
      (pss_cons (ps_asg (pe_op op_add (pe_ix ix_list (pv 0) pe_int (fun _ _ => rfl)) pe_int) (pg_sub (pv 0) pe_int set_list))
      (pss_cons (ps_set (i := 3) scTake.nd rfl (.inl rfl) (pe_ix ix_list (pe_lst (pa_cons pe_int (pa_cons pe_int (pa_cons pe_int (pa_cons pe_int pa_nil))))) (pe_op op_mod (pe_ix ix_list (pv 0) pe_int (fun _ _ => rfl)) pe_int) (fun _ _ => rfl)))
      (pss_cons (ps_set (i := 4) scTake.nd rfl (.inl rfl) (pe_op op_mod (pe_op op_add (pe_op op_add (pe_ix ix_list (pv 0) pe_int (fun _ _ => rfl)) (pe_op op_mul (pe_op op_mul pe_int (pe_ix ix_list (pv 0) pe_int (fun _ _ => rfl))) (pe_ix ix_list (pv 0) pe_int (fun _ _ => rfl)))) (pe_op op_mul pe_int (pe_ix ix_list (pv 0) pe_int (fun _ _ => rfl)))) (pv 3)))
      (pss_cons (ps_set (i := 4) scTake.nd rfl (.inl rfl) (pe_op op_mod (pe_op op_pow (pv 4) pe_int) (pv 3)))
      (pss_one (ps_ret (pe_op op_mod (pe_op op_add (pe_op op_fdiv (pv 4) pe_int) (pe_op op_mul (pe_op op_fdiv (pv 4) pe_int) pe_int)) (pv 1)))))))), ?_⟩
    have mpos : (0 : Int) < m := by omega
    refine ⟨.ref a, rfl, a, _, 0, .int p0, rfl, rfl, .inl (.inl ea), atI_nat (j := 0) rfl, _, 0, rfl, rfl, _, rfl, ite2 (fun _ => ?_) (fun _ => ?_)⟩
    · refine ⟨.ref a, rfl, a, _, 0, .int p0, rfl, rfl, .inl (.inl ea), atI_nat (j := 0) rfl, .int m, rfl, p0, m, rfl, rfl, mpos, ?_⟩
      refine ⟨.ref a, rfl, a, _, 0, .int p0, rfl, rfl, .inl (.inl ea), atI_nat (j := 0) rfl, .int m, rfl, p0, m, rfl, rfl, wide_div (b := 200) mpos (by omega) (by decide) (by decide), ?_⟩
      refine ⟨.ref a, rfl, a, _, 0, 0, rfl, rfl, ea, rfl, ?_⟩
      refine ⟨.int (p0 % m), rfl, ?_⟩
      refine q _ _ (but_at (fun _ _ _ e => e)) ⟨p0 / m, p1, p2, upd_same, Int.ediv_nonneg n0 (by omega), n2, by omega⟩ (Int.emod_nonneg _ (by omega)) (Int.emod_lt_of_pos _ mpos)
    · refine ⟨.ref a, rfl, a, _, 2, .int p2, rfl, rfl, .inl (.inl ea), atI_nat (j := 2) rfl, p2, 1, rfl, rfl, ?_⟩
      refine ⟨.ref a, rfl, a, _, 2, 2, rfl, rfl, ea, rfl, ?_⟩
      obtain ⟨pr, epr, pp, pl⟩ := prime_at ((p2 + 1) % 4) (Int.emod_nonneg _ (by decide)) (Int.emod_lt_of_pos _ (by decide))
      have ea2 : (upd H a (.lst [.int p0, .int p1, .int (p2 + 1)])) a = some (.lst [.int p0, .int p1, .int (p2 + 1)]) := upd_same
      refine ⟨(show 4 ≤ sizeLine by decide), fun l nl => ?_⟩
      have nla : a ≠ l := ne_of_none ea2 nl
      have ea3 : (upd (upd H a (.lst [.int p0, .int p1, .int (p2 + 1)])) l (.lst [V.int 2305843009213693951, V.int 999999999989, V.int 1000000000039, V.int 67280421310721])) a = some (.lst [.int p0, .int p1, .int (p2 + 1)]) := (upd_ne nla).trans ea2
      refine ⟨.ref a, rfl, a, _, 2, .int (p2 + 1), rfl, rfl, .inl (.inl ea3), atI_nat (j := 2) rfl, p2 + 1, 4, rfl, rfl, (show (0 : Int) < 4 by decide), l, _, (p2 + 1) % 4, .int pr, rfl, rfl, .inl (.inl upd_same), epr, ?_⟩
      have b2 : -(2 ^ 64) < p2 + 1 ∧ p2 + 1 < 2 ^ 64 := by omega
      refine ⟨.ref a, rfl, a, _, 1, .int p1, rfl, rfl, .inl (.inl ea3), atI_nat (j := 1) rfl, .ref a, rfl, a, _, 2, .int (p2 + 1), rfl, rfl, .inl (.inl ea3), atI_nat (j := 2) rfl, 7919, p2 + 1, rfl, rfl, .inl ⟨by decide, by decide⟩, .ref a, rfl, a, _, 2, .int (p2 + 1), rfl, rfl, .inl (.inl ea3), atI_nat (j := 2) rfl, _, p2 + 1, rfl, rfl, .inr b2, _, _, rfl, rfl,
        .ref a, rfl, a, _, 2, .int (p2 + 1), rfl, rfl, .inl (.inl ea3), atI_nat (j := 2) rfl, 65537, p2 + 1, rfl, rfl, .inl ⟨by decide, by decide⟩, _, _, rfl, rfl, .int pr, rfl, _, pr, rfl, rfl, pp, ?_⟩
      have mx : ∀ e : Int, (e % pr).natAbs < 2 ^ 64 := fun e => by
        have h1 := Int.emod_nonneg e (Int.ne_of_gt pp)
        have h2 := Int.emod_lt_of_pos e pp
        omega
      refine ⟨_, rfl, _, 5, rfl, rfl, ⟨by decide, by decide, mx _⟩, .int pr, rfl, _, pr, rfl, rfl, pp, ?_⟩
      refine ⟨_, rfl, _, 4099, rfl, rfl, ⟨by decide, by decide⟩, _, rfl, _, 1000003, rfl, rfl, ⟨by decide, by decide⟩, _, 7, rfl, rfl, .inr ⟨by decide, by decide⟩, _, _, rfl, rfl, .int m, rfl, _, m, rfl, rfl, mpos, ?_⟩
      refine q _ _ ?_ ⟨p0, p1, p2 + 1, ea3, n0, by omega, by omega⟩ (Int.emod_nonneg _ (by omega)) (Int.emod_lt_of_pos _ mpos)
      exact but_new (but_at (fun _ _ _ e => e)) (by rw [upd_ne nla.symm] at nl; exact nl)
end

/-- a def that is known by its promise -/
structure Kn (P : Program) (w : World) (K : PySem.W.Frag) (mg : Str → Option Value) (base : Heap) (k : Nat) (x : Str) (ps : List Str) (sp : Sp) (f : Addr) (fd : FuncData) : Prop where
  ok : FnOk P w K mg base CX0 k f fd ps sp
  gl : mg x = some (.ref f)
  kp : PySem.W.keepIn K (.ref f) = true
  bi : Binds K fd ps []
theorem pe_kn {X : Cx} {k j : Nat} {x : Str} {ps : List Str} {sp : Sp} {f : Addr} {fd : FuncData} {p pos : Pos} {e : Expr} {es : List Expr} {t : TA} (C : Kn X.prog X.w X.K X.mg X.base k x ps sp f fd) (hr : Room j X.A) (hj : k ≤ j) (ha : PA X (e :: es) t) (hg : Gl X x := by rfl) (hdb : (x == ("__debug__" : Str)) = false := by decide)
    (he : starEach (e :: es) X.env = (false, eval e X.env) :: starEach es X.env := by rfl) (hpl : (backTo pos (starEach es X.env)).any (·.1) = false := by rfl) :
    PE X (.Call (.Name x p) (e :: es) [] pos) (tCall sp [] E0 t) := pe_call C.ok (hr.mono hj) hg C.gl C.kp C.bi .nil pass0 ha hdb he hpl

theorem But.tupP {K : PySem.W.Frag} {a t : Addr} {H H' : Hp} {c : Nat} {xs : List V} (b : But a H H') (p : PotAt H a c) (q : SqT K H t xs) : SqT K H' t xs := by
  obtain ⟨_, _, _, e, _⟩ := p
  rcases q with (q | ⟨o, q⟩) | q
  · exact .inl (.inl (b _ _ (ne_of q e (by intro z; cases z)) q))
  · exact .inl (.inr ⟨o, b _ _ (ne_of q e (by intro z; cases z)) q⟩)
  · exact .inr q
/-- places, or tops -/
def Pl (xs : List Int) : Prop := ∀ x ∈ xs, 0 ≤ x ∧ x < 10 ^ 30
theorem Pl.snoc {xs : List Int} {x : Int} (h : Pl xs) (h0 : 0 ≤ x) (h1 : x < 10 ^ 30) : Pl (xs ++ [x]) := fun y hy => by
  rcases List.mem_append.mp hy with q | q
  · exact h y q
  · rw [List.mem_singleton.mp q]
    exact ⟨h0, h1⟩

section
variable {P : Program} {w : World} {K : PySem.W.Frag} {mg : Str → Option Value} {base : Heap}

/-- one of some -/
def spOf (K : PySem.W.Frag) : Sp := fun vs H Q _ => ∃ (a l : Addr) (xs : List V) (c : Nat), vs = [.ref a, .ref l] ∧ PotAt H a c ∧ l ≠ a ∧ (SqL K H l xs ∨ SqT K H l xs) ∧ 1 ≤ xs.length ∧ xs.length ≤ 1000000 ∧ c < 1000000 ∧
  ∀ x H', x ∈ xs → But a H H' → PotAt H' a (c + 1) → Q x H'
theorem ok_of {f fT : Addr} {fd fdT : FuncData} {k : Nat} (F : Fun K "_law_of" "_law_of" sOf f fd) (T : Kn P w K mg base 1 "_law_take" ["_law_pot_here", "_law_many"] spTake fT fdT) (ml : mg "len" = none) : FnOk P w K mg base CX0 (k + 2) f fd ["_law_pot_here", "_law_some"] (spOf K) := by
  refine F.ok scOf (fun vs H Q E h => ?_) (fun cdv A outer s H vs Q E hr h => ?_)
  · obtain ⟨a, l, xs, c, rfl, _⟩ := h
    rfl
  · obtain ⟨a, l, xs, c, rfl, pa, ne, hl, l1, l2, hc, q⟩ := h
    refine ⟨_, pss_one (ps_ret (pe_ix ix_seq (pv 1) (pe_kn T hr (Nat.le_add_left 1 k) (pa_cons (pv 0) (pa_cons (pe_callB call_len_seq (by rfl) ml PySem.boot_len (pa_cons (pv 1) pa_nil)) pa_nil))) (fun _ _ => rfl))), ?_⟩
    refine ⟨.ref l, rfl, .ref a, rfl, .ref l, rfl, l, xs, rfl, hl, a, _, c, rfl, pa, by omega, ?_, hc, fun d H' b p' d0 dm => ?_⟩
    · have : (xs.length : Int) ≤ 1000000 := by omega
      exact Int.lt_of_le_of_lt this (by decide)
    have lt : d.toNat < xs.length := by omega
    have ei : atI xs d = some xs[d.toNat] := by
      have := atI_nat (xs := xs) (j := d.toNat) (List.getElem?_eq_getElem lt)
      rwa [Int.toNat_of_nonneg d0] at this
    have fin := q xs[d.toNat] H' (List.getElem_mem lt) b p'
    rcases hl with h | h
    · exact .inl ⟨l, xs, d, _, rfl, rfl, b.seq ne h, ei, fin⟩
    · exact .inr (.inl ⟨l, xs, d, _, rfl, rfl, b.tup ne h, ei, fin⟩)

/-- none beyond its top -/
def Le (st tops : List Int) : Prop := ∀ (i : Nat) (x t : Int), st[i]? = some x → tops[i]? = some t → x ≤ t
theorem Le.snoc {st tops : List Int} {x t : Int} (h : Le st tops) (e : tops[st.length]? = some t) (l : x ≤ t) : Le (st ++ [x]) tops := fun i y u h1 h2 => by
  rcases Nat.lt_or_ge i st.length with q | q
  · rw [List.getElem?_append_left q] at h1
    exact h i y u h1 h2
  · rw [List.getElem?_append_right q] at h1
    have e0 : i - st.length = 0 := by
      rcases Nat.eq_zero_or_pos (i - st.length) with z | z
      · exact z
      · rw [List.getElem?_eq_none (by simp only [List.length_cons, List.length_nil]; omega)] at h1
        cases h1
    have ei : i = st.length := by omega
    subst ei
    rw [e0] at h1
    cases h1
    rw [e] at h2
    cases h2
    exact l
/-- a standing -/
def spStand (K : PySem.W.Frag) : Sp := fun vs H Q _ => ∃ (a t : Addr) (tops : List Int) (c : Nat), vs = [.ref a, .ref t] ∧ PotAt H a c ∧ SqT K H t (tops.map V.int) ∧ Pl tops ∧ tops.length ≤ 12 ∧ c < 900000 ∧
  ∀ H' p st, But a H H' → PotAt H' a (c + 12) → H p = none → H' p = some (.tup (st.map V.int)) → st.length = tops.length → Pl st → Le st tops → Q (.ref p) H'
theorem ok_stand {f fT : Addr} {fd fdT : FuncData} {k : Nat} (F : Fun K "_law_standing" "_law_standing" sStand f fd) (T : Kn P w K mg base 1 "_law_take" ["_law_pot_here", "_law_many"] spTake fT fdT) (mt : mg "tuple" = none) : FnOk P w K mg base CX0 (k + 2) f fd ["_law_pot_here", "_law_tops_here"] (spStand K) := by
  refine F.ok scStand (fun vs H Q E h => ?_) (fun cdv A outer s H vs Q E hr h => ?_)
  · obtain ⟨a, t, tops, c, rfl, _⟩ := h
    rfl
  · obtain ⟨a, t, tops, c, rfl, pa, ht, pl, l12, hc, q⟩ := h
    refine ⟨_, pss_one (ps_ret (pe_callTy call_tuple_of (by rfl) mt (by decide +kernel) (pa_cons
      (pe_lc (own := [("_law_top", 2)]) (g := gName 2) (tt := tYes) rfl scStand.nd (pi_tup (pv 1)) (blkOk_by (N := ["_law_pot_here", "_law_tops_here", "_law_top"]) (sc := defScope sStand) (by decide +kernel))
        (fun _ _ _ _ _ => pg_name (i := 2) scStand.nd rfl (.inl rfl) (hf := .inr rfl)) (fun _ _ _ _ _ => pts_nil)
        (fun _ _ _ _ _ => pe_kn T hr (Nat.le_add_left 1 k) (pa_cons (pv 0) (pa_cons (pe_op op_add (pv 2) pe_int) pa_nil)))) pa_nil))), ?_⟩
    refine ⟨.ref t, rfl, t, rfl, ⟨_, ht⟩, fun D nD => lc_it (walk_tup (xs := tops.map V.int)) (fun i H' => But a H H' ∧ PotAt H' a (c + i) ∧ ∃ st : List Int, H' D = some (.lst (st.map V.int)) ∧ st.length = i ∧ Pl st ∧ Le st tops)
      ⟨but_new (fun _ _ _ e => e) nD, pa.keep (same_new nD), [], upd_same, rfl, fun _ h => absurd h List.not_mem_nil, fun i x t h => by simp at h⟩ (fun i H' _ p => p.1.tupP pa ht) (fun i v H1 H2 hi p y => ?_) (fun H' p => ?_)⟩
    · obtain ⟨b, p1, st, eD, sl, sp, sle⟩ := p
      obtain ⟨rfl, gv⟩ := y
      obtain ⟨x, ex, rfl⟩ := mapGet gv
      have hx := pl x (List.mem_of_getElem? ex)
      have hi' : i < tops.length := by simpa using hi
      refine ⟨rfl, .ref a, rfl, .int x, rfl, x, 1, rfl, rfl, a, x + 1, c + i, rfl, p1, by omega, ?_, by omega, fun d H3 b3 p3 d0 dm => ?_⟩
      · have : x + 1 ≤ 10 ^ 30 := by omega
        exact Int.lt_of_le_of_lt this (by decide)
      have nDa : D ≠ a := pa.ne nD
      refine ⟨_, b3 _ _ nDa eD, ?_, but_new (b.trans b3) nD, ?_, st ++ [d], ?_, ?_, sp.snoc d0 (by omega), sle.snoc (by rw [sl]; exact ex) (by omega)⟩
      · rw [List.length_map]
        exact small1000 (by omega)
      · obtain ⟨u, v, r, e, z⟩ := p3
        exact ⟨u, v, r, (upd_ne nDa.symm).trans e, z⟩
      · rw [upd_same, List.map_append]
        rfl
      · rw [List.length_append, sl]
        rfl
    · obtain ⟨b, p1, st, eD, sl, sp, sle⟩ := p
      rw [List.length_map] at p1 sl
      refine ⟨D, _, rfl, .inl ⟨.inl (.inl eD), fun l nl => ?_⟩⟩
      have nla : l ≠ a := p1.ne nl
      have nlH : H l = none := b.free nla nl
      refine q _ l st (but_new b nlH) (((p1.mono (by omega)).keep (same_new nl))) nlH upd_same sl sp sle
end

section
variable {P : Program} {w : World} {K : PySem.W.Frag} {mg : Str → Option Value} {base : Heap}

theorem pot_upd {H : Hp} {a p : Addr} {c : Nat} {o : HO} (h : PotAt H a c) (n : p ≠ a) : PotAt (upd H p o) a c := by
  obtain ⟨x, y, z, e, r⟩ := h
  exact ⟨x, y, z, (upd_ne n.symm).trans e, r⟩
theorem e15 : (10 : Int) ^ (15 : Int).toNat = 1000000000000000 := by decide
theorem e30 : (10 : Int) ^ (30 : Int).toNat = 10 ^ 30 := by decide

def spWide (K : PySem.W.Frag) : Sp := fun vs H Q _ => ∃ (a : Addr) (c : Nat), vs = [.ref a] ∧ PotAt H a c ∧ c < 900000 ∧
  ∀ H' p tops, But a H H' → PotAt H' a (c + 60) → H p = none → H' p = some (.tup (tops.map V.int)) → 2 ≤ tops.length → tops.length ≤ 12 → Pl tops → Q (.ref p) H'
theorem ok_wide {f fT fO : Addr} {fd fdT fdO : FuncData} {k : Nat} (F : Fun K "_law_wide_tops" "_law_wide_tops" sWide f fd) (T : Kn P w K mg base 1 "_law_take" ["_law_pot_here", "_law_many"] spTake fT fdT)
    (O : Kn P w K mg base 2 "_law_of" ["_law_pot_here", "_law_some"] (spOf K) fO fdO) (mr : mg "range" = none) (mt : mg "tuple" = none) : FnOk P w K mg base CX0 (k + 3) f fd ["_law_pot_here"] (spWide K) := by
  refine F.ok scWide (fun vs H Q E h => ?_) (fun cdv A outer s H vs Q E hr h => ?_)
  · obtain ⟨a, c, rfl, _⟩ := h
    rfl
  · obtain ⟨a, c, rfl, pa, hc, q⟩ := h
    refine ⟨_, pss_cons (ps_set (i := 1) scWide.nd rfl (.inl rfl) (pe_lst pa_nil))
      (pss_cons (ps_for PassesOwn.never rfl (pi_range1 (by rfl) mr (pa_cons (pe_op op_add pe_int (pe_kn T hr (by omega) (pa_cons (pv 0) (pa_cons pe_int pa_nil)))) pa_nil)) (pg_name (i := 2) scWide.nd rfl (.inl rfl))
        (pss_cons (ps_set (i := 3) scWide.nd rfl (.inl rfl) (pe_op op_add (pe_op op_mul (pe_kn T hr (by omega) (pa_cons (pv 0) (pa_cons (pe_op op_pow pe_int pe_int) pa_nil))) (pe_op op_pow pe_int pe_int)) (pe_kn T hr (by omega) (pa_cons (pv 0) (pa_cons (pe_op op_pow pe_int pe_int) pa_nil)))))
        (pss_one (ps_expr (pe_bm PySem.F.plainAttrs_list PySem.F.slot_list_append PySem.F.type_list_append mt_append (pv 1) (pa_cons (pe_kn O hr (by omega) (pa_cons (pv 0) (pa_cons (pe_lst (pa_cons pe_int (pa_cons pe_int (pa_cons pe_int (pa_cons pe_int (pa_cons (pv 3) (pa_cons (pe_op op_sub (pe_op op_pow pe_int pe_int) pe_int) pa_nil))))))) pa_nil))) pa_nil))))))
      (pss_one (ps_ret (pe_callTy call_tuple_of (by rfl) mt (by decide +kernel) (pa_cons (pv 1) pa_nil))))), ?_⟩
    refine ⟨Nat.zero_le _, fun l nl => ?_⟩
    have nla : l ≠ a := pa.ne nl
    refine ⟨.ref a, rfl, a, 11, c, rfl, pot_upd pa nla, by decide, by decide, by omega, fun d H1 b1 p1 d0 d1 => ?_⟩
    have el1 : H1 l = some (.lst []) := b1 _ _ nla upd_same
    have bl1 : But a H H1 := fun b o ne e => b1 _ _ ne (by rw [upd_ne (ne_of_none e nl)]; exact e)
    refine ⟨2, d, rfl, rfl, 2 + d, rfl, by omega, by omega, for_it walk_range (fun i σ H' => (∃ u v, σ = [some (.ref a), some (.ref l), u, v]) ∧ But a H H' ∧ PotAt H' a (c + 1 + 3 * i) ∧ ∃ ts : List Int, H' l = some (.lst (ts.map V.int)) ∧ ts.length = i ∧ Pl ts)
      ⟨⟨none, none, rfl⟩, bl1, p1, [], el1, rfl, fun _ h => absurd h List.not_mem_nil⟩ (fun _ _ _ _ _ => trivial) (fun i v σ H2 H3 hi p y => ?_) (fun σ H2 p => ?_)⟩
    · obtain ⟨⟨u, v', rfl⟩, b2, p2, ts, el2, tl, tp⟩ := p
      obtain ⟨rfl, rfl⟩ := y
      have hi' : i < 12 := by omega
      refine ⟨.ref a, rfl, 10, 15, rfl, rfl, ⟨by decide, by decide, by decide⟩, a, _, c + 1 + 3 * i, rfl, p2, by rw [e15]; decide, by rw [e15]; decide, by omega, fun g1 H4 b4 p4 g0 gm => ?_⟩
      rw [e15] at gm
      refine ⟨10, 15, rfl, rfl, ⟨by decide, by decide, by decide⟩, g1, _, rfl, rfl, .inr (by rw [e15]; exact ⟨by decide, by decide⟩), .ref a, rfl, 10, 15, rfl, rfl, ⟨by decide, by decide, by decide⟩, a, _, c + 1 + 3 * i + 1, rfl, p4, by rw [e15]; decide, by rw [e15]; decide, by omega, fun g2 H5 b5 p5 h0 hm => ?_⟩
      rw [e15] at hm
      refine ⟨_, g2, rfl, rfl, ?_⟩
      have el5 : H5 l = some (.lst (ts.map V.int)) := b5 _ _ nla (b4 _ _ nla el2)
      refine ⟨.ref l, rfl, .inl ⟨rfl, _, .inl (.inl el5)⟩, .ref a, rfl, _, rfl, 10, 30, rfl, rfl, ⟨by decide, by decide, by decide⟩, _, 1, rfl, rfl, (show 6 ≤ sizeLine by decide), fun m nm => ?_⟩
      have nma : m ≠ a := p5.ne nm
      have nml : l ≠ m := ne_of_none el5 nm
      refine ⟨a, m, _, c + 1 + 3 * i + 1 + 1, rfl, pot_upd p5 nma, nma, .inl (.inl (.inl upd_same)), (show 1 ≤ 6 by decide), (show 6 ≤ 1000000 by decide), by omega, fun x H6 hx b6 p6 => ?_⟩
      have hx' : ∃ t : Int, x = .int t ∧ 0 ≤ t ∧ t < 10 ^ 30 := by
        simp only [List.mem_cons, List.not_mem_nil, or_false] at hx
        rcases hx with e | e | e | e | e | e
        · exact ⟨_, e, by decide, by decide⟩
        · exact ⟨_, e, by decide, by decide⟩
        · exact ⟨_, e, by decide, by decide⟩
        · exact ⟨_, e, by decide, by decide⟩
        · refine ⟨_, e, ?_, ?_⟩ <;> rw [e15] <;> omega
        · refine ⟨_, e, ?_, ?_⟩ <;> rw [e30] <;> decide
      obtain ⟨t, rfl, t0, t1⟩ := hx'
      have el6 : H6 l = some (.lst (ts.map V.int)) := b6 _ _ nla ((upd_ne nml).trans el5)
      refine ⟨l, _, _, rfl, rfl, el6, by rw [List.length_map]; exact small1000 (by omega), ⟨_, _, rfl⟩, ?_, ?_, ts ++ [t], ?_, ?_, tp.snoc t0 t1⟩
      · have nmH : H5 m = none := nm
        have b26 : But a H3 H6 := fun b o ne e => b6 _ _ ne (by
          have e5 := b5 _ _ ne (b4 _ _ ne e)
          rw [upd_ne (ne_of_none e5 nm)]
          exact e5)
        exact but_new (b2.trans b26) nl
      · exact pot_upd (p6.mono (by omega)) nla
      · rw [upd_same, List.map_append]
        rfl
      · rw [List.length_append, tl]
        rfl
    · obtain ⟨⟨u, v', rfl⟩, b2, p2, ts, el2, tl, tp⟩ := p
      refine ⟨.ref l, rfl, l, _, rfl, .inl ⟨.inl (.inl el2), fun m nm => ?_⟩⟩
      have nma : m ≠ a := p2.ne nm
      have nmH : H m = none := b2.free nma nm
      exact q _ m ts (but_new b2 nmH) (pot_upd (p2.mono (by omega)) nma) nmH upd_same (by omega) (by omega) tp
end
end K02

set_option Elab.async false
set_option linter.all false
set_option maxRecDepth 100000
namespace K02
open PySem PySem.Spec PyProof.Rows L2 NB

/-! ### kinds, of anything -/
def wholeD : PyData → Bool
  | .int _ => true
  | _ => false
def noneD : PyData → Bool
  | .none => true
  | _ => false
def strIs (z : Str) : PyData → Bool
  | .str x => decide (x = z)
  | _ => false
def placeD (t : Int) : PyData → Bool
  | .int i => decide (0 ≤ i) && decide (i ≤ t)
  | _ => false
def natD : PyData → Nat
  | .int i => i.toNat
  | _ => 0
def wordD (d : PyData) : Bool := strIs "from" d || strIs "to" d
def sideD (tops : List Int) : PyData → Bool
  | .tuple ds => decide (ds.length = 3) && (placeD ((tops.length : Int) - 1) (ds.getD 0 .none) && (wordD (ds.getD 1 .none) && placeD (tops.getD (natD (ds.getD 0 .none)) 0) (ds.getD 2 .none)))
  | _ => false
theorem tup_or (d : PyData) : (∃ ds, d = .tuple ds) ∨ isTupD d = false := by
  cases d with
  | tuple ds => exact .inl ⟨ds, rfl⟩
  | _ => exact .inr rfl
theorem str_or (d : PyData) : (∃ z, d = .str z) ∨ isStrD d = false := by
  cases d with
  | str z => exact .inl ⟨z, rfl⟩
  | _ => exact .inr rfl
theorem side_no {tops : List Int} {d : PyData} (h : isTupD d = false) : sideD tops d = false := by
  cases d with
  | tuple ds => cases h
  | _ => rfl
theorem word_no {d : PyData} (h : isStrD d = false) : wordD d = false := by
  cases d with
  | str z => cases h
  | _ => rfl
theorem place_int {t : Int} {d : PyData} (h : placeD t d = true) : ∃ i : Nat, d = .int i ∧ (i : Int) ≤ t := by
  cases d with
  | int i =>
    have h' : (decide (0 ≤ i) && decide (i ≤ t)) = true := h
    simp at h'
    exact ⟨i.toNat, by rw [Int.toNat_of_nonneg h'.1], by omega⟩
  | _ => cases h
theorem all_take {α : Type} (g : α → Bool) (xs : List α) (i : Nat) (y : α) (h : xs[i]? = some y) : ((xs.take (i + 1)).map g).map V.bl = ((xs.take i).map g).map V.bl ++ [V.bl (g y)] := by
  rw [List.take_add_one, h, List.map_append, List.map_append]
  rfl
theorem all_id {α : Type} (g : α → Bool) (xs : List α) : (xs.map g).all id = xs.all g := by
  rw [List.all_map]
  rfl
theorem getD_at {xs : List Int} {i : Nat} (h : i < xs.length) : xs.getD i 0 = xs[i] := by
  rw [List.getD_eq_getElem?_getD, List.getElem?_eq_getElem h]
  rfl
section
variable {P : Program} {w : World} {K : PySem.W.Frag} {mg : Str → Option Value} {base : Heap}
/-- a look at data that leaves all as it is -/
def spLook (g : PyData → Bool) : Sp := fun vs H Q _ => ∃ (n : Addr) (v : V) (d : PyData), vs = [v] ∧ Da n H v d ∧ ∀ H', Same H H' → Q (.bl (g d)) H'
def spLookI (g : Int → PyData → Bool) : Sp := fun vs H Q _ => ∃ (n : Addr) (t : Int) (v : V) (d : PyData), vs = [.int t, v] ∧ Da n H v d ∧ ∀ H', Same H H' → Q (.bl (g t d)) H'
def spLookT (g : List Int → PyData → Bool) : Sp := fun vs H Q _ => ∃ (n t : Addr) (tops : List Int) (v : V) (d : PyData), vs = [.ref t, v] ∧ H t = some (.tup (tops.map V.int)) ∧ Da n H v d ∧ ∀ H', Same H H' → Q (.bl (g tops d)) H'
abbrev a_is_whole : Stmt := topS 5
abbrev n_is_whole : List Str := ["thing"]
theorem sc_is_whole : FnScope n_is_whole ["thing"] (defScope a_is_whole) := ⟨rfl, rfl, rfl, by decide +kernel, rfl, by decide +kernel, by decide +kernel⟩
set_option maxHeartbeats 8000000 in
theorem ok_is_whole {f  : Addr} {fd  : FuncData} {k : Nat}  (F : Fun K "is_whole" "is_whole" a_is_whole f fd)   (m_bool : mg "bool" = none) (m_int : mg "int" = none) (m_isinstance : mg "isinstance" = none) : FnOk P w K mg base CX0 (k + 1) f fd ["thing"] (spLook wholeD) := by
  refine F.ok sc_is_whole (fun vs H Q E h => ?_) (fun cdv A outer s H vs Q E hr h => ?_)
  · obtain ⟨n, v, d, rfl, _⟩ := h
    rfl
  · obtain ⟨n, v, d, rfl, hd, q⟩ := h
    refine ⟨_, (pss_one (ps_ret (pe_and (pe_callB call_isiD (by rfl) m_isinstance (by decide +kernel) (pa_cons (pv 0) (pa_cons (pe_bltn (v := .ty "int") (u := .type "int") (by rfl) m_int (by decide +kernel) rfl) pa_nil))) (pe_one (pe_not (pe_callB call_isiD (by rfl) m_isinstance (by decide +kernel) (pa_cons (pv 0) (pa_cons (pe_bltn (v := .ty "bool") (u := .type "bool") (by rfl) m_bool (by decide +kernel) rfl) pa_nil)))))))), ?_⟩
    refine ⟨v, rfl, n, v, d, "int", _, rfl, hd, kit_int d, _, rfl, ?_⟩
    cases hd with
    | int i => exact iteT ⟨_, rfl, n, _, _, "bool", _, rfl, .int i, kit_bool _, _, rfl, q H (Same.refl H)⟩
    | bl b => exact iteT ⟨_, rfl, n, _, _, "bool", _, rfl, .bl b, kit_bool _, _, rfl, q H (Same.refl H)⟩
    | _ => exact iteF (q H (Same.refl H))
abbrev a_is_place : Stmt := topS 6
abbrev n_is_place : List Str := ["top", "thing"]
theorem sc_is_place : FnScope n_is_place ["top", "thing"] (defScope a_is_place) := ⟨rfl, rfl, rfl, by decide +kernel, rfl, by decide +kernel, by decide +kernel⟩
set_option maxHeartbeats 8000000 in
theorem ok_is_place {f fWh : Addr} {fd fdWh : FuncData} {k : Nat}  (F : Fun K "is_place" "is_place" a_is_place f fd) (Wh : Kn P w K mg base 1 "is_whole" ["thing"] (spLook wholeD) fWh fdWh)   : FnOk P w K mg base CX0 (k + 2) f fd ["top", "thing"] (spLookI placeD) := by
  refine F.ok sc_is_place (fun vs H Q E h => ?_) (fun cdv A outer s H vs Q E hr h => ?_)
  · obtain ⟨n, t, v, d, rfl, _⟩ := h
    rfl
  · obtain ⟨n, t, v, d, rfl, hd, q⟩ := h
    refine ⟨_, (pss_one (ps_ret (pe_and (pe_kn Wh hr (by omega) (pa_cons (pv 1) pa_nil)) (pe_one (pe_chain op_le op_le pe_int (pv 1) (pv 0)))))), ?_⟩
    refine ⟨v, rfl, n, v, d, rfl, hd, fun H1 s1 => ⟨_, rfl, ?_⟩⟩
    cases hd with
    | int i =>
      refine iteT ⟨_, rfl, 0, i, rfl, rfl, _, rfl, ite2 (fun c => ?_) (fun c => ?_)⟩
      · have := q H1 s1
        rw [show placeD t (.int i) = decide (i ≤ t) from by show (decide (0 ≤ i) && _) = _; rw [show decide (0 ≤ i) = true from c, Bool.true_and]] at this
        exact ⟨_, rfl, i, t, rfl, rfl, this⟩
      · have := q H1 s1
        rw [show placeD t (.int i) = false from by show (decide (0 ≤ i) && _) = _; rw [Bool.eq_false_iff.mpr c, Bool.false_and]] at this
        exact this
    | _ => exact iteF (q H1 s1)
abbrev a_is_side_of : Stmt := topS 8
abbrev n_is_side_of : List Str := ["tops", "thing", "number", "word", "place"]
theorem sc_is_side_of : FnScope n_is_side_of ["tops", "thing"] (defScope a_is_side_of) := ⟨rfl, rfl, rfl, by decide +kernel, rfl, by decide +kernel, by decide +kernel⟩
set_option maxHeartbeats 8000000 in
theorem ok_is_side_of {f fPc : Addr} {fd fdPc : FuncData} {k : Nat} {wa : Addr} (F : Fun K "is_side_of" "is_side_of" a_is_side_of f fd) (Pc : Kn P w K mg base 2 "is_place" ["top", "thing"] (spLookI placeD) fPc fdPc) (gv4 : mg "WORDS" = some (.ref wa)) (hW : ∀ H, SqT K H wa [.str "from", .str "to"]) (m_isinstance : mg "isinstance" = none) (m_len : mg "len" = none) (m_str : mg "str" = none) (m_tuple : mg "tuple" = none) : FnOk P w K mg base CX0 (k + 3) f fd ["tops", "thing"] (spLookT sideD) := by
  refine F.ok sc_is_side_of (fun vs H Q E h => ?_) (fun cdv A outer s H vs Q E hr h => ?_)
  · obtain ⟨n, t, tops, v, d, rfl, _⟩ := h
    rfl
  · obtain ⟨n, t, tops, v, d, rfl, et, hd, q⟩ := h
    refine ⟨_, (pss_cons (ps_if (PW.pt (pw_or (pt_not (pt_val (pe_callB call_isiD (by rfl) m_isinstance (by decide +kernel) (pa_cons (pv 1) (pa_cons (pe_bltn (v := .ty "tuple") (u := .type "tuple") (by rfl) m_tuple (by decide +kernel) rfl) pa_nil))))) (pw_or1 (pt_cmpR op_ne (pe_callB call_len_seq (by rfl) m_len (by decide +kernel) (pa_cons (pv 1) pa_nil)) pe_int (nomark _))))) (pss_one (ps_ret pe_bl)) pss_nil)
      (pss_cons (ps_asg (pv 1) (pg_tup rfl (pgs_cons (pg_name (i := 2) sc_is_side_of.nd rfl (.inl rfl)) (pgs_cons (pg_name (i := 3) sc_is_side_of.nd rfl (.inl rfl)) (pgs_cons (pg_name (i := 4) sc_is_side_of.nd rfl (.inl rfl)) pgs_nil)))))
      (pss_cons (ps_if (pt_not (pt_val (pe_kn Pc hr (by omega) (pa_cons (pe_op op_sub (pe_callB call_len_seq (by rfl) m_len (by decide +kernel) (pa_cons (pv 0) pa_nil)) pe_int) (pa_cons (pv 2) pa_nil))))) (pss_one (ps_ret pe_bl)) pss_nil)
      (pss_one (ps_ret (pe_and (pe_callB call_isiD (by rfl) m_isinstance (by decide +kernel) (pa_cons (pv 3) (pa_cons (pe_bltn (v := .ty "str") (u := .type "str") (by rfl) m_str (by decide +kernel) rfl) pa_nil))) (pe_and (pe_cmpR op_in_seq (pv 3) (pe_glob (v := .ref wa) rfl gv4 rfl) (by rfl)) (pe_one (pe_kn Pc hr (by omega) (pa_cons (pe_ix ix_tup (pv 0) (pv 2) (fun _ _ => rfl)) (pa_cons (pv 4) pa_nil))))))))))), ?_⟩
    rcases tup_or d with ⟨ds, rfl⟩ | hn
    · cases hd with
      | tup e ha =>
      rename_i a xs
      have ll := ha.len
      refine ⟨_, rfl, n, _, _, "tuple", _, rfl, .tup e ha, kit_tup _, _, rfl, iteF ⟨_, rfl, a, xs, rfl, .inr (.inl (.inl e)), rfl, _, rfl, ite2 (fun c => ?_) (fun c => ?_)⟩⟩
      · have c' : ¬ ds.length = 3 := fun z => by rw [ll, z] at c; exact absurd c (by decide)
        have : sideD tops (.tuple ds) = false := by simp [sideD, c']
        rw [this] at q
        exact q H (Same.refl H)
      · have c' : ds.length = 3 := Classical.byContradiction fun z => c (by
          have : ¬ ((xs.length : Int) = 3) := by omega
          simp [this])
        match ds, c', ha with
        | [d0, d1, d2], _, .cons h0 (.cons h1 (.cons h2 .nil)) =>
        rename_i v0 v1 v2
        have eW : sideD tops (.tuple [d0, d1, d2]) = (placeD ((tops.length : Int) - 1) d0 && (wordD d1 && placeD (tops.getD (natD d0) 0) d2)) := by simp [sideD]
        rw [eW] at q
        refine ⟨_, rfl, a, _, rfl, .inl (.inl e), rfl, _, _, rfl, _, _, rfl, _, _, rfl, rfl, ?_⟩
        refine ⟨_, rfl, t, _, rfl, .inr (.inl (.inl et)), _, 1, rfl, rfl, _, rfl, n, _, _, d0, rfl, h0, fun H1 s1 => ⟨_, rfl, ?_⟩⟩
        rw [List.length_map]
        cases hp : placeD ((tops.length : Int) - 1) d0 with
        | false =>
          rw [hp, Bool.false_and] at q
          exact iteT (q H1 s1)
        | true =>
        rw [hp, Bool.true_and] at q
        refine iteF ?_
        obtain ⟨i, rfl, hi⟩ := place_int hp
        cases h0
        have li : i < tops.length := by omega
        refine ⟨_, rfl, n, _, d1, "str", _, rfl, h1.same s1, kit_str d1, _, rfl, ?_⟩
        rcases str_or d1 with ⟨z, rfl⟩ | hs
        · refine iteT ?_
          cases h1
          have ew : wordD (.str z) = (decide (z = "from") || decide (z = "to")) := rfl
          rw [ew] at q
          refine ⟨_, rfl, wa, _, rfl, .inr (hW H1), rfl, by decide, _, rfl, ?_⟩
          show if inV (V.str z) [V.str "from", V.str "to"] = true then _ else _
          rw [inV_str2]
          cases hz : (decide (z = "from") || decide (z = "to")) with
          | false =>
            rw [hz, Bool.false_and] at q
            exact iteF (q H1 s1)
          | true =>
            rw [hz, Bool.true_and] at q
            refine iteT ⟨_, rfl, .int i, rfl, t, _, i, _, rfl, rfl, .inl (.inl (s1 _ _ et)), atI_nat (by rw [List.getElem?_map, List.getElem?_eq_getElem li]; rfl), _, rfl, n, _, _, d2, rfl, h2.same s1, fun H2 s2 => ?_⟩
            have := q H2 (s1.trans s2)
            rw [show natD (.int (i : Int)) = i from Int.toNat_natCast i, getD_at li] at this
            exact this
        · rw [hs]
          rw [word_no hs, Bool.false_and] at q
          exact iteF (q H1 s1)
    · refine ⟨_, rfl, n, _, d, "tuple", _, rfl, hd, kit_tup d, _, rfl, ?_⟩
      rw [hn]
      rw [side_no hn] at q
      exact iteT (q H (Same.refl H))
end
end K02

set_option Elab.async false
set_option linter.all false
set_option maxRecDepth 100000
namespace K02
open PySem PySem.Spec PyProof.Rows L2 NB

/-! ### what stands though lists change -/
/-- all but lists stands -/
def Keep (H H' : Hp) : Prop := ∀ b o, (∀ xs, o ≠ .lst xs) → H b = some o → H' b = some o
theorem Keep.refl (H : Hp) : Keep H H := fun _ _ _ e => e
theorem Keep.trans {H H1 H2 : Hp} (a : Keep H H1) (b : Keep H1 H2) : Keep H H2 := fun c o n e => b c o n (a c o n e)
theorem Keep.same {H H' : Hp} (h : Same H H') : Keep H H' := fun b o _ e => h b o e
theorem Keep.but {a : Addr} {H H' : Hp} {c : Nat} (h : But a H H') (p : PotAt H a c) : Keep H H' := fun b o n e => by
  obtain ⟨x, y, z, ea, _⟩ := p
  exact h b o (fun q => n _ (by rw [q, ea] at e; exact (Option.some.inj e).symm)) e
theorem Keep.upd {H : Hp} {l : Addr} {o : HO} {xs : List V} (e : H l = some (.lst xs)) : Keep H (upd H l o) := fun b x n q => by
  rw [upd_ne (fun z => n xs (by rw [z, e] at q; exact (Option.some.inj q).symm))]
  exact q
theorem Keep.tup {H H' : Hp} {p : Addr} {xs : List V} (k : Keep H H') (e : H p = some (.tup xs)) : H' p = some (.tup xs) := k _ _ (fun _ q => by cases q) e
theorem Keep.sq {K : PySem.W.Frag} {H H' : Hp} {p : Addr} {xs : List V} (k : Keep H H') (e : SqT K H p xs) : SqT K H' p xs := by
  rcases e with (q | ⟨o, q⟩) | q
  · exact .inl (.inl (k _ _ (fun _ q => by cases q) q))
  · exact .inl (.inr ⟨o, k _ _ (fun _ q => by cases q) q⟩)
  · exact .inr q

/-! ### sides, rules, plans as data and as objects -/
abbrev Sd := Nat × Bool × Int
abbrev Rl := Sd × Sd
def word (b : Bool) : Str := if b then "from" else "to"
def SideAt (H : Hp) (p : Addr) (s : Sd) : Prop := H p = some (.tup [.int s.1, .str (word s.2.1), .int s.2.2])
def RuleAt (H : Hp) (r : Addr) (q : Rl) : Prop := ∃ p1 p2, H r = some (.tup [.ref p1, .ref p2]) ∧ SideAt H p1 q.1 ∧ SideAt H p2 q.2
def RulesAt (H : Hp) (R : Addr) (rs : List Rl) : Prop := ∃ as : List Addr, H R = some (.tup (as.map V.ref)) ∧ as.length = rs.length ∧ ∀ (i : Nat) (r : Addr) (q : Rl), as[i]? = some r → rs[i]? = some q → RuleAt H r q
def PlanAt (C : Addr) (H : Hp) (x : Addr) (tops : List Int) (rs : List Rl) : Prop := ∃ dx t R, H x = some (.ins C dx [("tops", .ref t), ("rules", .ref R)]) ∧ H t = some (.tup (tops.map V.int)) ∧ RulesAt H R rs
theorem SideAt.keep {H H' : Hp} {p : Addr} {s : Sd} (h : SideAt H p s) (k : Keep H H') : SideAt H' p s := k.tup h
theorem RuleAt.keep {H H' : Hp} {p : Addr} {q : Rl} (h : RuleAt H p q) (k : Keep H H') : RuleAt H' p q := by
  obtain ⟨p1, p2, e, h1, h2⟩ := h
  exact ⟨p1, p2, k.tup e, h1.keep k, h2.keep k⟩
theorem RulesAt.keep {H H' : Hp} {R : Addr} {rs : List Rl} (h : RulesAt H R rs) (k : Keep H H') : RulesAt H' R rs := by
  obtain ⟨as, e, l, a⟩ := h
  exact ⟨as, k.tup e, l, fun i r q h1 h2 => (a i r q h1 h2).keep k⟩
theorem PlanAt.keep {C : Addr} {H H' : Hp} {x : Addr} {tops : List Int} {rs : List Rl} (h : PlanAt C H x tops rs) (k : Keep H H') : PlanAt C H' x tops rs := by
  obtain ⟨dx, t, R, e, et, er⟩ := h
  exact ⟨dx, t, R, k _ _ (fun _ q => by cases q) e, k.tup et, er.keep k⟩
/-- a side of the plan -/
def SideOk (tops : List Int) (s : Sd) : Prop := ∃ t, tops[s.1]? = some t ∧ 0 ≤ s.2.2 ∧ s.2.2 ≤ t
def RuleOk (tops : List Int) (q : Rl) : Prop := SideOk tops q.1 ∧ SideOk tops q.2
theorem word_in (b : Bool) : inV (.str (word b)) [.str "from", .str "to"] = true := by cases b <;> decide +kernel
theorem word_from : word true = "from" := rfl

abbrev kWhole : Stmt := topS 5
abbrev kPlace : Stmt := topS 6
abbrev kTops : Stmt := topS 7
abbrev kSide : Stmt := topS 8
abbrev kSides : Stmt := topS 9
abbrev kRule : Stmt := topS 10
abbrev kRules : Stmt := topS 11
abbrev kInit : Stmt := inClass (topS 24) 0
theorem scWhole : FnScope ["thing"] ["thing"] (defScope kWhole) := ⟨rfl, rfl, rfl, by decide +kernel, rfl, by decide +kernel, by decide +kernel⟩
theorem scPlace : FnScope ["top", "thing"] ["top", "thing"] (defScope kPlace) := ⟨rfl, rfl, rfl, by decide +kernel, rfl, by decide +kernel, by decide +kernel⟩
theorem scTops : FnScope ["thing", "top"] ["thing"] (defScope kTops) := ⟨rfl, rfl, rfl, by decide +kernel, rfl, by decide +kernel, by decide +kernel⟩
theorem scSide : FnScope ["tops", "thing", "number", "word", "place"] ["tops", "thing"] (defScope kSide) := ⟨rfl, rfl, rfl, by decide +kernel, rfl, by decide +kernel, by decide +kernel⟩
theorem scSides : FnScope ["tops", "thing", "side"] ["tops", "thing"] (defScope kSides) := ⟨rfl, rfl, rfl, by decide +kernel, rfl, by decide +kernel, by decide +kernel⟩
theorem scRule : FnScope ["tops", "thing"] ["tops", "thing"] (defScope kRule) := ⟨rfl, rfl, rfl, by decide +kernel, rfl, by decide +kernel, by decide +kernel⟩
theorem scRules : FnScope ["tops", "thing", "rule"] ["tops", "thing"] (defScope kRules) := ⟨rfl, rfl, rfl, by decide +kernel, rfl, by decide +kernel, by decide +kernel⟩
theorem scInit : FnScope ["self", "tops", "rules"] ["self", "tops", "rules"] (defScope kInit) := ⟨rfl, rfl, rfl, by decide +kernel, rfl, by decide +kernel, by decide +kernel⟩

section
variable {P : Program} {w : World} {K : PySem.W.Frag} {mg : Str → Option Value} {base : Heap}

def spWhole : Sp := fun vs H Q _ => ∃ i : Int, vs = [.int i] ∧ Q (.bl true) H
theorem ok_whole {f : Addr} {fd : FuncData} {k : Nat} (F : Fun K "is_whole" "is_whole" kWhole f fd) (ms : mg "isinstance" = none) (mi : mg "int" = none) (mb : mg "bool" = none) : FnOk P w K mg base CX0 (k + 1) f fd ["thing"] spWhole := by
  refine F.ok scWhole (fun vs H Q E h => ?_) (fun cdv A outer s H vs Q E hr h => ?_)
  · obtain ⟨i, rfl, _⟩ := h
    rfl
  · obtain ⟨i, rfl, q⟩ := h
    refine ⟨_, pss_one (ps_ret (pe_and (pe_callB call_isi (by rfl) ms (by decide +kernel) (pa_cons (pv 0) (pa_cons (pe_bltn (v := .ty "int") (u := .type "int") (by rfl) mi (by decide +kernel) rfl) pa_nil)))
      (pe_one (pe_not (pe_callB call_isi (by rfl) ms (by decide +kernel) (pa_cons (pv 0) (pa_cons (pe_bltn (v := .ty "bool") (u := .type "bool") (by rfl) mb (by decide +kernel) rfl) pa_nil))))))), ?_⟩
    refine ⟨.int i, rfl, _, _, _, _, true, rfl, .ty "int", .base (.int i), kit_ty (by decide +kernel), true, rfl, iteT ?_⟩
    exact ⟨.int i, rfl, _, _, _, _, false, rfl, .ty "bool", .base (.int i), kit_ty (by decide +kernel), false, rfl, q⟩

def spPlace : Sp := fun vs H Q _ => ∃ t i : Int, vs = [.int t, .int i] ∧ Q (.bl (decide (0 ≤ i) && decide (i ≤ t))) H
theorem ok_place {f fW : Addr} {fd fdW : FuncData} {k : Nat} (F : Fun K "is_place" "is_place" kPlace f fd) (W : Kn P w K mg base 1 "is_whole" ["thing"] spWhole fW fdW) : FnOk P w K mg base CX0 (k + 2) f fd ["top", "thing"] spPlace := by
  refine F.ok scPlace (fun vs H Q E h => ?_) (fun cdv A outer s H vs Q E hr h => ?_)
  · obtain ⟨t, i, rfl, _⟩ := h
    rfl
  · obtain ⟨t, i, rfl, q⟩ := h
    refine ⟨_, pss_one (ps_ret (pe_and (pe_kn W hr (by omega) (pa_cons (pv 1) pa_nil)) (pe_one (pe_chain op_le op_le pe_int (pv 1) (pv 0))))), ?_⟩
    refine ⟨.int i, rfl, i, rfl, true, rfl, iteT ?_⟩
    refine ⟨.int i, rfl, 0, i, rfl, rfl, _, rfl, ite2 (fun c => ?_) (fun c => ?_)⟩
    · rw [show decide (0 ≤ i) = true from c, Bool.true_and] at q
      exact ⟨.int t, rfl, i, t, rfl, rfl, q⟩
    · rw [Bool.eq_false_iff.mpr c, Bool.false_and] at q
      exact q

def spTops (K : PySem.W.Frag) : Sp := fun vs H Q _ => ∃ (a : Addr) (tops : List Int), vs = [.ref a] ∧ H a = some (.tup (tops.map V.int)) ∧ 1 ≤ tops.length ∧ tops.length ≤ 12 ∧ Pl tops ∧ ∀ H', Same H H' → Q (.bl true) H'
theorem ok_tops {f fP : Addr} {fd fdP : FuncData} {k : Nat} {t1 t2 : Tok} (F : Fun K "are_tops" "are_tops" kTops f fd) (Pc : Kn P w K mg base 2 "is_place" ["top", "thing"] spPlace fP fdP) (ms : mg "isinstance" = none) (mt : mg "tuple" = none) (ml : mg "len" = none) (ma : mg "all" = none)
    (g1 : mg "MOST_THINGS" = some (.int 12 t1)) (g2 : mg "BEYOND_THIRTY_FIGURES" = some (.int 1000000000000000000000000000000 t2)) : FnOk P w K mg base CX0 (k + 3) f fd ["thing"] (spTops K) := by
  refine F.ok scTops (fun vs H Q E h => ?_) (fun cdv A outer s H vs Q E hr h => ?_)
  · obtain ⟨a, tops, rfl, _⟩ := h
    rfl
  · obtain ⟨a, tops, rfl, ea, l1, l12, pl, q⟩ := h
    refine ⟨_, pss_cons (ps_if (PW.pt (pw_or (pt_not (pt_val (pe_callB call_isi (by rfl) ms (by decide +kernel) (pa_cons (pv 0) (pa_cons (pe_bltn (v := .ty "tuple") (u := .type "tuple") (by rfl) mt (by decide +kernel) rfl) pa_nil)))))
        (pw_or1 (pt_not (pt_chain op_le op_le pe_int (pe_callB call_len_seq (by rfl) ml PySem.boot_len (pa_cons (pv 0) pa_nil)) (pe_glob (v := .int 12) rfl g1 ⟨_, rfl⟩)))))) (pss_one (ps_ret pe_bl)) pss_nil)
      (pss_one (ps_ret (pe_callB (cr_all rfl) (by rfl) ma (by decide +kernel) (pa_cons
        (pe_lc (own := [("top", 1)]) (g := gName 1) (tt := tYes) (te := tCall spPlace [] E0 (tCons (tOp (rI0 fun i j => .int (i - j)) (tC (.int 1000000000000000000000000000000)) (tC (.int 1))) (tCons (tVar 1) tNil))) rfl scTops.nd (pi_tup (pv 0)) (blkOk_by (N := ["thing", "top"]) (sc := defScope kTops) (by decide +kernel))
          (fun _ _ _ _ _ => pg_name (i := 1) scTops.nd rfl (.inl rfl) (hf := .inr rfl)) (fun _ _ _ _ _ => pts_nil)
          (fun _ _ _ _ _ => pe_kn Pc hr (by omega) (pa_cons (pe_op op_sub (pe_glob (v := .int 1000000000000000000000000000000) rfl g2 ⟨_, rfl⟩) pe_int) (pa_cons (pv 1) pa_nil)))) pa_nil)))), ?_⟩
    refine ⟨.ref a, rfl, _, _, _, _, true, rfl, .ty "tuple", .base (.tup ea), kit_ty (by decide +kernel), true, rfl, iteF ?_⟩
    refine ⟨.ref a, rfl, a, _, rfl, .inr (.inl (.inl ea)), 1, _, rfl, rfl, true, ?_, iteT ⟨_, 12, rfl, rfl, true, ?_, iteF ?_⟩⟩
    · rw [List.length_map]
      exact congrArg V.bl (decide_eq_true (by omega))
    · rw [List.length_map]
      exact congrArg V.bl (decide_eq_true (by omega))
    refine ⟨.ref a, rfl, a, rfl, ⟨_, .inl (.inl ea)⟩, fun D nD => lc_it (walk_tup (xs := tops.map V.int)) (fun i H' => Same H H' ∧ H' D = some (.lst ((List.replicate i true).map V.bl))) ⟨same_new nD, upd_same⟩ (fun i H' _ p => .inl (.inl (p.1 _ _ ea))) (fun i v H1 H2 hi p y => ?_) (fun H' p => ?_)⟩
    · obtain ⟨sm, eD⟩ := p
      obtain ⟨rfl, gv⟩ := y
      obtain ⟨x, ex, rfl⟩ := mapGet gv
      have hx := pl x (List.mem_of_getElem? ex)
      have hi' : i < tops.length := by simpa using hi
      refine ⟨rfl, _, _, rfl, rfl, .int x, rfl, _, x, rfl, _, eD, by rw [List.length_map, List.length_replicate]; exact small1000 (by omega), same_over sm nD, ?_⟩
      rw [upd_same, decide_eq_true hx.1, decide_eq_true (show x ≤ 1000000000000000000000000000000 - 1 by have := hx.2; omega), List.replicate_succ', List.map_append]
      rfl
    · obtain ⟨sm, eD⟩ := p
      refine ⟨D, _, rfl, .inl (.inl eD), ?_⟩
      rw [show (List.replicate (tops.map V.int).length true).all id = true by simp]
      exact q H' sm

def spSide (K : PySem.W.Frag) : Sp := fun vs H Q _ => ∃ (t p : Addr) (tops : List Int) (sd : Sd), vs = [.ref t, .ref p] ∧ H t = some (.tup (tops.map V.int)) ∧ SideAt H p sd ∧ SideOk tops sd ∧ Q (.bl true) H
theorem ok_side {f fP wa : Addr} {fd fdP : FuncData} {k : Nat} (F : Fun K "is_side_of" "is_side_of" kSide f fd) (Pc : Kn P w K mg base 2 "is_place" ["top", "thing"] spPlace fP fdP) (ms : mg "isinstance" = none) (mt : mg "tuple" = none) (ml : mg "len" = none) (mr : mg "str" = none)
    (g1 : mg "WORDS" = some (.ref wa)) (hW : ∀ H, SqT K H wa [.str "from", .str "to"]) : FnOk P w K mg base CX0 (k + 3) f fd ["tops", "thing"] (spSide K) := by
  refine F.ok scSide (fun vs H Q E h => ?_) (fun cdv A outer s H vs Q E hr h => ?_)
  · obtain ⟨t, p, tops, sd, rfl, _⟩ := h
    rfl
  · obtain ⟨t, p, tops, ⟨n, b, pl⟩, rfl, et, ep, ⟨tp, eg, p0, p1⟩, q⟩ := h
    have ep' : H p = some (.tup [.int (n : Int), .str (word b), .int pl]) := ep
    have hn : n < tops.length := (List.getElem?_eq_some_iff.mp eg).1
    refine ⟨_, pss_cons (ps_if (PW.pt (pw_or (pt_not (pt_val (pe_callB call_isi (by rfl) ms (by decide +kernel) (pa_cons (pv 1) (pa_cons (pe_bltn (v := .ty "tuple") (u := .type "tuple") (by rfl) mt (by decide +kernel) rfl) pa_nil)))))
        (pw_or1 (pt_cmpR op_ne (pe_callB call_len_seq (by rfl) ml PySem.boot_len (pa_cons (pv 1) pa_nil)) pe_int (nomark _))))) (pss_one (ps_ret pe_bl)) pss_nil)
      (pss_cons (ps_asg (pv 1) (pg_tup (by rfl) (pgs_cons (pg_name (i := 2) scSide.nd rfl (.inl rfl)) (pgs_cons (pg_name (i := 3) scSide.nd rfl (.inl rfl)) (pgs_cons (pg_name (i := 4) scSide.nd rfl (.inl rfl)) pgs_nil)))))
      (pss_cons (ps_if (pt_not (pt_val (pe_kn Pc hr (by omega) (pa_cons (pe_op op_sub (pe_callB call_len_seq (by rfl) ml PySem.boot_len (pa_cons (pv 0) pa_nil)) pe_int) (pa_cons (pv 2) pa_nil))))) (pss_one (ps_ret pe_bl)) pss_nil)
      (pss_one (ps_ret (pe_and (pe_callB call_isi (by rfl) ms (by decide +kernel) (pa_cons (pv 3) (pa_cons (pe_bltn (v := .ty "str") (u := .type "str") (by rfl) mr (by decide +kernel) rfl) pa_nil)))
        (pe_and (pe_cmpR op_in_seq (pv 3) (pe_glob (v := .ref wa) rfl g1 rfl) (by rfl)) (pe_one (pe_kn Pc hr (by omega) (pa_cons (pe_ix ix_tup (pv 0) (pv 2) (fun _ _ => rfl)) (pa_cons (pv 4) pa_nil)))))))))), ?_⟩
    refine ⟨.ref p, rfl, _, _, _, _, true, rfl, .ty "tuple", .base (.tup ep'), kit_ty (by decide +kernel), true, rfl, iteF ?_⟩
    refine ⟨.ref p, rfl, p, _, rfl, .inr (.inl (.inl ep')), rfl, _, rfl, iteNS rfl ?_⟩
    refine ⟨.ref p, rfl, p, _, rfl, .inl (.inl ep'), rfl, _, _, rfl, _, _, rfl, _, _, rfl, rfl, ?_⟩
    refine ⟨.ref t, rfl, t, _, rfl, .inr (.inl (.inl et)), _, 1, rfl, rfl, .int n, rfl, _, n, rfl, true, ?_, iteF ?_⟩
    · rw [List.length_map, decide_eq_true (show (0 : Int) ≤ n by omega), decide_eq_true (show (n : Int) ≤ tops.length - 1 by omega)]
      rfl
    refine ⟨_, rfl, _, _, _, _, true, rfl, .ty "str", .base (.str _), kit_ty (by decide +kernel), true, rfl, iteT ?_⟩
    refine ⟨_, rfl, wa, _, rfl, .inr (hW H), rfl, by decide +kernel, true, ?_, iteT ?_⟩
    · rw [word_in]
      rfl
    refine ⟨.ref t, rfl, .int n, rfl, t, _, n, .int tp, rfl, rfl, .inl (.inl et), atI_nat (by rw [List.getElem?_map, eg]; rfl), .int pl, rfl, tp, pl, rfl, ?_⟩
    rw [decide_eq_true p0, decide_eq_true p1]
    exact q

/-- a run of truths that a comprehension makes -/
theorem all_true (n : Nat) : (List.replicate n true).all id = true := by simp
theorem more_true (n : Nat) : (List.replicate (n + 1) true).map V.bl = (List.replicate n true).map V.bl ++ [V.bl true] := by
  rw [List.replicate_succ', List.map_append]
  rfl

def spSides (K : PySem.W.Frag) : Sp := fun vs H Q _ => ∃ (t r : Addr) (tops : List Int) (as : List Addr), vs = [.ref t, .ref r] ∧ H t = some (.tup (tops.map V.int)) ∧ H r = some (.tup (as.map V.ref)) ∧ as.length ≤ 100 ∧ (∀ p ∈ as, ∃ sd, SideAt H p sd ∧ SideOk tops sd) ∧ ∀ H', Same H H' → Q (.bl true) H'
theorem ok_sides {f fP : Addr} {fd fdP : FuncData} {k : Nat} (F : Fun K "are_sides_of" "are_sides_of" kSides f fd) (Si : Kn P w K mg base 3 "is_side_of" ["tops", "thing"] (spSide K) fP fdP) (ms : mg "isinstance" = none) (mt : mg "tuple" = none) (ma : mg "all" = none) : FnOk P w K mg base CX0 (k + 4) f fd ["tops", "thing"] (spSides K) := by
  refine F.ok scSides (fun vs H Q E h => ?_) (fun cdv A outer s H vs Q E hr h => ?_)
  · obtain ⟨t, r, tops, as, rfl, _⟩ := h
    rfl
  · obtain ⟨t, r, tops, as, rfl, et, er, l, ok, q⟩ := h
    refine ⟨_, pss_one (ps_ret (pe_and (pe_callB call_isi (by rfl) ms (by decide +kernel) (pa_cons (pv 1) (pa_cons (pe_bltn (v := .ty "tuple") (u := .type "tuple") (by rfl) mt (by decide +kernel) rfl) pa_nil)))
      (pe_one (pe_callB (cr_all rfl) (by rfl) ma (by decide +kernel) (pa_cons
        (pe_lc (own := [("side", 2)]) (g := gName 2) (tt := tYes) (te := tCall (spSide K) [] E0 (tCons (tVar 0) (tCons (tVar 2) tNil))) rfl scSides.nd (pi_tup (pv 1)) (blkOk_by (N := ["tops", "thing", "side"]) (sc := defScope kSides) (by decide +kernel))
          (fun _ _ _ _ _ => pg_name (i := 2) scSides.nd rfl (.inl rfl) (hf := .inr rfl)) (fun _ _ _ _ _ => pts_nil)
          (fun _ _ _ _ _ => pe_kn Si hr (by omega) (pa_cons (pv 0) (pa_cons (pv 2) pa_nil)))) pa_nil))))), ?_⟩
    refine ⟨.ref r, rfl, _, _, _, _, true, rfl, .ty "tuple", .base (.tup er), kit_ty (by decide +kernel), true, rfl, iteT ?_⟩
    refine ⟨.ref r, rfl, r, rfl, ⟨_, .inl (.inl er)⟩, fun D nD => lc_it (walk_tup (xs := as.map V.ref)) (fun i H' => Same H H' ∧ H' D = some (.lst ((List.replicate i true).map V.bl))) ⟨same_new nD, upd_same⟩ (fun i H' _ p => .inl (.inl (p.1 _ _ er))) (fun i v H1 H2 hi p y => ?_) (fun H' p => ?_)⟩
    · obtain ⟨sm, eD⟩ := p
      obtain ⟨rfl, gv⟩ := y
      obtain ⟨x, ex, rfl⟩ := mapGet gv
      have hi' : i < as.length := by simpa using hi
      obtain ⟨sd, a1, a2⟩ := ok x (List.mem_of_getElem? ex)
      refine ⟨rfl, .ref t, rfl, .ref x, rfl, t, x, tops, sd, rfl, sm _ _ et, a1.keep (.same sm), a2, _, eD, by rw [List.length_map, List.length_replicate]; exact small1000 (by omega), same_over sm nD, ?_⟩
      rw [upd_same, more_true]
    · obtain ⟨sm, eD⟩ := p
      refine ⟨D, _, rfl, .inl (.inl eD), ?_⟩
      rw [all_true]
      exact q H' sm

def spRule (K : PySem.W.Frag) : Sp := fun vs H Q _ => ∃ (t r : Addr) (tops : List Int) (rl : Rl), vs = [.ref t, .ref r] ∧ H t = some (.tup (tops.map V.int)) ∧ RuleAt H r rl ∧ RuleOk tops rl ∧ ∀ H', Same H H' → Q (.bl true) H'
theorem ok_rule {f fP : Addr} {fd fdP : FuncData} {k : Nat} (F : Fun K "is_rule_of" "is_rule_of" kRule f fd) (Ss : Kn P w K mg base 4 "are_sides_of" ["tops", "thing"] (spSides K) fP fdP) (ml : mg "len" = none) : FnOk P w K mg base CX0 (k + 5) f fd ["tops", "thing"] (spRule K) := by
  refine F.ok scRule (fun vs H Q E h => ?_) (fun cdv A outer s H vs Q E hr h => ?_)
  · obtain ⟨t, r, tops, rl, rfl, _⟩ := h
    rfl
  · obtain ⟨t, r, tops, rl, rfl, et, ⟨p1, p2, er, h1, h2⟩, ok, q⟩ := h
    refine ⟨_, pss_one (ps_ret (pe_and (pe_kn Ss hr (by omega) (pa_cons (pv 0) (pa_cons (pv 1) pa_nil))) (pe_one (pe_cmpR op_eq (pe_callB call_len_seq (by rfl) ml PySem.boot_len (pa_cons (pv 1) pa_nil)) pe_int (nomark _))))), ?_⟩
    refine ⟨.ref t, rfl, .ref r, rfl, t, r, tops, [p1, p2], rfl, et, er, (show 2 ≤ 100 by decide), fun p hp => ?_, fun H' sm => ⟨true, rfl, iteT ?_⟩⟩
    · simp only [List.mem_cons, List.not_mem_nil, or_false] at hp
      rcases hp with e | e <;> rw [e]
      · exact ⟨_, h1, ok.1⟩
      · exact ⟨_, h2, ok.2⟩
    · exact ⟨.ref r, rfl, r, _, rfl, .inr (.inl (.inl (sm _ _ er))), rfl, q H' sm⟩

def spRules (K : PySem.W.Frag) : Sp := fun vs H Q _ => ∃ (t R : Addr) (tops : List Int) (rs : List Rl), vs = [.ref t, .ref R] ∧ H t = some (.tup (tops.map V.int)) ∧ RulesAt H R rs ∧ rs.length ≤ 40 ∧ (∀ q ∈ rs, RuleOk tops q) ∧ ∀ H', Same H H' → Q (.bl true) H'
theorem ok_rules {f fP : Addr} {fd fdP : FuncData} {k : Nat} {t1 : Tok} (F : Fun K "are_rules_of" "are_rules_of" kRules f fd) (Ru : Kn P w K mg base 5 "is_rule_of" ["tops", "thing"] (spRule K) fP fdP) (ms : mg "isinstance" = none) (mt : mg "tuple" = none) (ml : mg "len" = none) (ma : mg "all" = none)
    (g1 : mg "MOST_RULES" = some (.int 40 t1)) : FnOk P w K mg base CX0 (k + 6) f fd ["tops", "thing"] (spRules K) := by
  refine F.ok scRules (fun vs H Q E h => ?_) (fun cdv A outer s H vs Q E hr h => ?_)
  · obtain ⟨t, R, tops, rs, rfl, _⟩ := h
    rfl
  · obtain ⟨t, R, tops, rs, rfl, et, ⟨as, eR, la, ha⟩, l40, ok, q⟩ := h
    refine ⟨_, pss_cons (ps_if (PW.pt (pw_or (pt_not (pt_val (pe_callB call_isi (by rfl) ms (by decide +kernel) (pa_cons (pv 1) (pa_cons (pe_bltn (v := .ty "tuple") (u := .type "tuple") (by rfl) mt (by decide +kernel) rfl) pa_nil)))))
        (pw_or1 (pt_cmpR op_gt (pe_callB call_len_seq (by rfl) ml PySem.boot_len (pa_cons (pv 1) pa_nil)) (pe_glob (v := .int 40) rfl g1 ⟨_, rfl⟩) (nomark _))))) (pss_one (ps_ret pe_bl)) pss_nil)
      (pss_one (ps_ret (pe_callB (cr_all rfl) (by rfl) ma (by decide +kernel) (pa_cons
        (pe_lc (own := [("rule", 2)]) (g := gName 2) (tt := tYes) (te := tCall (spRule K) [] E0 (tCons (tVar 0) (tCons (tVar 2) tNil))) rfl scRules.nd (pi_tup (pv 1)) (blkOk_by (N := ["tops", "thing", "rule"]) (sc := defScope kRules) (by decide +kernel))
          (fun _ _ _ _ _ => pg_name (i := 2) scRules.nd rfl (.inl rfl) (hf := .inr rfl)) (fun _ _ _ _ _ => pts_nil)
          (fun _ _ _ _ _ => pe_kn Ru hr (by omega) (pa_cons (pv 0) (pa_cons (pv 2) pa_nil)))) pa_nil)))), ?_⟩
    refine ⟨.ref R, rfl, _, _, _, _, true, rfl, .ty "tuple", .base (.tup eR), kit_ty (by decide +kernel), true, rfl, iteF ?_⟩
    refine ⟨.ref R, rfl, R, _, rfl, .inr (.inl (.inl eR)), _, 40, rfl, rfl, false, ?_, iteF ?_⟩
    · rw [List.length_map]
      exact congrArg V.bl (decide_eq_false (by omega))
    refine ⟨.ref R, rfl, R, rfl, ⟨_, .inl (.inl eR)⟩, fun D nD => lc_it (walk_tup (xs := as.map V.ref)) (fun i H' => Same H H' ∧ H' D = some (.lst ((List.replicate i true).map V.bl))) ⟨same_new nD, upd_same⟩ (fun i H' _ p => .inl (.inl (p.1 _ _ eR))) (fun i v H1 H2 hi p y => ?_) (fun H' p => ?_)⟩
    · obtain ⟨sm, eD⟩ := p
      obtain ⟨rfl, gv⟩ := y
      obtain ⟨x, ex, rfl⟩ := mapGet gv
      have hi' : i < as.length := by simpa using hi
      have hr' : i < rs.length := by omega
      have eq : rs[i]? = some rs[i] := List.getElem?_eq_getElem hr'
      refine ⟨rfl, .ref t, rfl, .ref x, rfl, t, x, tops, rs[i], rfl, sm _ _ et, (ha i x _ ex eq).keep (.same sm), ok _ (List.getElem_mem hr'), fun H3 s3 => ?_⟩
      have sm3 := sm.trans s3
      refine ⟨_, s3 _ _ eD, by rw [List.length_map, List.length_replicate]; exact small1000 (by omega), same_over sm3 nD, ?_⟩
      rw [upd_same, more_true]
    · obtain ⟨sm, eD⟩ := p
      refine ⟨D, _, rfl, .inl (.inl eD), ?_⟩
      rw [all_true]
      exact q H' sm

/-- what is asked of the class as the top has made it -/
structure PlanTxt (K : PySem.W.Frag) (mg : Str → Option Value) (C : Addr) : Prop where
  cl : Cls K C
  nT : NoAttr K C "tops"
  nR : NoAttr K C "rules"
  mgC : mg "Plan" = some (.ref C)
theorem put_two (t R : Addr) : putF "rules" (V.ref R) (putF "tops" (V.ref t) []) = ([("tops", V.ref t), ("rules", V.ref R)] : List (Str × V)) := by
  have n : ¬ (("tops" : Str) = "rules") := by decide +kernel
  show (if ("tops" : Str) = "rules" then [(("tops" : Str), V.ref R)] else (("tops" : Str), V.ref t) :: putF "rules" (V.ref R) []) = _
  rw [if_neg n]
  rfl
def spInit (C : Addr) : Sp := fun vs H Q _ => ∃ (x dx t R : Addr) (tops : List Int) (rs : List Rl), vs = [.ref x, .ref t, .ref R] ∧ H x = some (.ins C dx []) ∧ H t = some (.tup (tops.map V.int)) ∧ RulesAt H R rs ∧ 1 ≤ tops.length ∧ tops.length ≤ 12 ∧ Pl tops ∧ rs.length ≤ 40 ∧ (∀ q ∈ rs, RuleOk tops q) ∧
  ∀ H', (∀ b o, b ≠ x → H b = some o → H' b = some o) → H' x = some (.ins C dx [("tops", .ref t), ("rules", .ref R)]) → Q .non H'
theorem ok_init {f C fT fR : Addr} {fd fdT fdR : FuncData} {k : Nat} {dvs : List V} {kws : List (Str × V)} (F : FunD K "__init__" "Plan.__init__" (defArgs kInit) (defBody kInit) (defScope kInit) dvs kws f fd) (T : PlanTxt K mg C) (To : Kn P w K mg base 3 "are_tops" ["thing"] (spTops K) fT fdT) (Ru : Kn P w K mg base 6 "are_rules_of" ["tops", "thing"] (spRules K) fR fdR) :
    FnOk P w K mg base CX0 (k + 7) f fd ["self", "tops", "rules"] (spInit C) := by
  refine F.ok scInit (fun vs H Q E h => ?_) (fun cdv A outer s H vs Q E hr h => ?_)
  · obtain ⟨x, dx, t, R, tops, rs, rfl, _⟩ := h
    rfl
  · obtain ⟨x, dx, t, R, tops, rs, rfl, ex, et, eR, l1, l12, pl, l40, ok, q⟩ := h
    refine ⟨_, pss_cons (ps_if (pt_not (pt_val (pe_kn To hr (by omega) (pa_cons (pv 1) pa_nil)))) (pss_one ps_never) pss_nil)
      (pss_cons (ps_if (pt_not (pt_val (pe_kn Ru hr (by omega) (pa_cons (pv 1) (pa_cons (pv 2) pa_nil))))) (pss_one ps_never) pss_nil)
      (pss_cons (ps_fld (pv 0) (pv 1) rfl) (pss_one (ps_fld (pv 0) (pv 2) rfl)))), ?_⟩
    refine ⟨.ref t, rfl, t, tops, rfl, et, l1, l12, pl, fun H1 s1 => ⟨true, rfl, iteF ?_⟩⟩
    refine ⟨.ref t, rfl, .ref R, rfl, t, R, tops, rs, rfl, s1 _ _ et, eR.keep (.same s1), l40, ok, fun H2 s2 => ⟨true, rfl, iteF ?_⟩⟩
    have s02 := s1.trans s2
    refine ⟨.ref t, rfl, .ref x, rfl, x, C, dx, [], rfl, s02 _ _ ex, T.cl, T.nT, (show 0 < 1000 by decide), ?_⟩
    refine ⟨.ref R, rfl, .ref x, rfl, x, C, dx, _, rfl, upd_same, T.cl, T.nR, (show 1 < 1000 by decide), ?_⟩
    refine q _ (fun b o ne e => ?_) ?_
    · rw [upd_ne ne, upd_ne ne]
      exact s02 _ _ e
    · rw [upd_same]
      exact congrArg (fun z => some (HO.ins C dx z)) (put_two t R)
/-- Plan(tops, rules) -/
theorem plan_made {C x dx : Addr} {H : Hp} {t R : Addr} {tops : List Int} {rs : List Rl} {W : VK} {E : XK} (nx : H x = none) (ndx : H dx = none) (ne : dx ≠ x) (et : H t = some (.tup (tops.map V.int))) (eR : RulesAt H R rs) (l1 : 1 ≤ tops.length) (l12 : tops.length ≤ 12) (pl : Pl tops) (l40 : rs.length ≤ 40) (ok : ∀ q ∈ rs, RuleOk tops q)
    (q : ∀ H', Same H H' → PlanAt C H' x tops rs → W .non H') : spInit C [.ref x, .ref t, .ref R] (upd (upd H dx (.own x)) x (.ins C dx [])) W E := by
  have s1 : Same H (upd (upd H dx (.own x)) x (.ins C dx [])) := (same_new ndx).trans (same_new (by rw [upd_ne ne.symm]; exact nx))
  refine ⟨x, dx, t, R, tops, rs, rfl, upd_same, s1 _ _ et, eR.keep (.same s1), l1, l12, pl, l40, ok, fun H' k ex => ?_⟩
  have s2 : Same H H' := fun b o e => k b o (ne_of_none e nx) (s1 b o e)
  exact q H' s2 ⟨dx, t, R, ex, s2 _ _ et, eR.keep (.same s2)⟩
end
end K02

set_option Elab.async false
set_option linter.all false
set_option maxRecDepth 100000
namespace K02
open PySem PySem.Spec PyProof.Rows L2 NB

/-! ### plans without rules; sides and standings of anything -/
def standingD (tops : List Int) : PyData → Bool
  | .tuple ds => decide (ds.length = tops.length) && (tops.zip ds).all fun p => placeD p.1 p.2
  | _ => false
theorem standing_no {tops : List Int} {d : PyData} (h : isTupD d = false) : standingD tops d = false := by
  cases d with
  | tuple ds => cases h
  | _ => rfl
theorem zip_at {α β : Type} {xs : List α} {ys : List β} {i : Nat} {x : α} {y : β} (h : xs[i]? = some x) (h' : ys[i]? = some y) : (xs.zip ys)[i]? = some (x, y) := by
  rw [List.getElem?_zip_eq_some]
  exact ⟨h, h'⟩
section
variable {P : Program} {w : World} {K : PySem.W.Frag} {mg : Str → Option Value} {base : Heap}
def spRules0 (K : PySem.W.Frag) : Sp := fun vs H Q _ => ∃ (t R : Addr), vs = [.ref t, .ref R] ∧ SqT K H R [] ∧ TyX K H (.ref R) (.type "tuple") ∧ (∀ H', Same H H' → SqT K H' R []) ∧ ∀ H', Same H H' → Q (.bl true) H'
abbrev a_are_rules_of : Stmt := topS 11
abbrev n_are_rules_of : List Str := ["tops", "thing", "rule"]
theorem sc_are_rules_of : FnScope n_are_rules_of ["tops", "thing"] (defScope a_are_rules_of) := ⟨rfl, rfl, rfl, by decide +kernel, rfl, by decide +kernel, by decide +kernel⟩
set_option maxHeartbeats 8000000 in
theorem ok_are_rules_of {f fRu : Addr} {fd fdRu : FuncData} {k : Nat} {t2 : Tok} (F : Fun K "are_rules_of" "are_rules_of" a_are_rules_of f fd) (Ru : Kn P w K mg base 5 "is_rule_of" ["tops", "thing"] (spRule K) fRu fdRu) (gv2 : mg "MOST_RULES" = some (.int 40 t2)) (m_all : mg "all" = none) (m_isinstance : mg "isinstance" = none) (m_len : mg "len" = none) (m_tuple : mg "tuple" = none) : FnOk P w K mg base CX0 (k + 6) f fd ["tops", "thing"] (spRules0 K) := by
  refine F.ok sc_are_rules_of (fun vs H Q E h => ?_) (fun cdv A outer s H vs Q E hr h => ?_)
  · obtain ⟨t, R, rfl, _⟩ := h
    rfl
  · obtain ⟨t, R, rfl, hR, tR, hS, q⟩ := h
    refine ⟨_, (pss_cons (ps_if (PW.pt (pw_or (pt_not (pt_val (pe_callB call_isi (by rfl) m_isinstance (by decide +kernel) (pa_cons (pv 1) (pa_cons (pe_bltn (v := .ty "tuple") (u := .type "tuple") (by rfl) m_tuple (by decide +kernel) rfl) pa_nil))))) (pw_or1 (pt_cmpR op_gt (pe_callB call_len_seq (by rfl) m_len (by decide +kernel) (pa_cons (pv 1) pa_nil)) (pe_glob (v := .int 40) rfl gv2 ⟨_, rfl⟩) (nomark _))))) (pss_one (ps_ret pe_bl)) pss_nil)
      (pss_one (ps_ret (pe_callB (cr_all rfl) (by rfl) m_all (by decide +kernel) (pa_cons (
        pe_lc (own := [("rule", 2)]) (g := (gName 2)) (tt := tYes) (te := (tCall (spRule K) [] E0 (tCons (tVar 0) (tCons (tVar 2) tNil)))) rfl sc_are_rules_of.nd (pi_tup (pv 1)) (blkOk_by (N := n_are_rules_of) (sc := defScope a_are_rules_of) (by decide +kernel))
          (fun _ _ _ _ _ => (pg_name (i := 2) sc_are_rules_of.nd rfl (.inl rfl) (hf := .inr rfl))) (fun _ _ _ _ _ => pts_nil) (fun _ _ _ _ _ => (pe_kn Ru hr (by omega) (pa_cons (pv 0) (pa_cons (pv 2) pa_nil))))) pa_nil))))), ?_⟩
    refine ⟨_, rfl, _, _, _, _, true, rfl, .ty "tuple", tR, kit_ty (by decide +kernel), true, rfl, iteF ?_⟩
    refine ⟨_, rfl, R, _, rfl, .inr hR, _, 40, rfl, rfl, false, rfl, iteF ?_⟩
    refine ⟨_, rfl, R, rfl, ⟨_, hR⟩, fun D nD => lc_it (walk_tup (xs := [])) (fun i H' => Same H H' ∧ H' D = some (.lst (([] : List Bool).map V.bl))) ⟨same_new nD, upd_same⟩ (fun i H' _ p => hS H' p.1) (fun i v H1 H2 hi p y => absurd hi (Nat.not_lt_zero _)) (fun H' p => ?_)⟩
    exact ⟨D, _, rfl, .inl (.inl p.2), q H' p.1⟩
def spInit0 (K : PySem.W.Frag) (C : Addr) : Sp := fun vs H Q _ => ∃ (x dx t R : Addr) (tops : List Int), vs = [.ref x, .ref t, .ref R] ∧ H x = some (.ins C dx []) ∧ H t = some (.tup (tops.map V.int)) ∧ 1 ≤ tops.length ∧ tops.length ≤ 12 ∧ Pl tops ∧ (∀ H, SqT K H R []) ∧ (∀ H, TyX K H (.ref R) (.type "tuple")) ∧
  ∀ H', (∀ b o, b ≠ x → H b = some o → H' b = some o) → H' x = some (.ins C dx [("tops", .ref t), ("rules", .ref R)]) → Q .non H'
theorem ok_init0 {f C fT fR : Addr} {fd fdT fdR : FuncData} {k : Nat} {dvs : List V} {kws : List (Str × V)} (F : FunD K "__init__" "Plan.__init__" (defArgs kInit) (defBody kInit) (defScope kInit) dvs kws f fd) (T : PlanTxt K mg C) (To : Kn P w K mg base 3 "are_tops" ["thing"] (spTops K) fT fdT) (Ru : Kn P w K mg base 6 "are_rules_of" ["tops", "thing"] (spRules0 K) fR fdR) :
    FnOk P w K mg base CX0 (k + 7) f fd ["self", "tops", "rules"] (spInit0 K C) := by
  refine F.ok scInit (fun vs H Q E h => ?_) (fun cdv A outer s H vs Q E hr h => ?_)
  · obtain ⟨x, dx, t, R, tops, rfl, _⟩ := h
    rfl
  · obtain ⟨x, dx, t, R, tops, rfl, ex, et, l1, l12, pl, hS, hT, q⟩ := h
    refine ⟨_, pss_cons (ps_if (pt_not (pt_val (pe_kn To hr (by omega) (pa_cons (pv 1) pa_nil)))) (pss_one ps_never) pss_nil)
      (pss_cons (ps_if (pt_not (pt_val (pe_kn Ru hr (by omega) (pa_cons (pv 1) (pa_cons (pv 2) pa_nil))))) (pss_one ps_never) pss_nil)
      (pss_cons (ps_fld (pv 0) (pv 1) rfl) (pss_one (ps_fld (pv 0) (pv 2) rfl)))), ?_⟩
    refine ⟨.ref t, rfl, t, tops, rfl, et, l1, l12, pl, fun H1 s1 => ⟨true, rfl, iteF ?_⟩⟩
    refine ⟨.ref t, rfl, .ref R, rfl, t, R, rfl, hS _, hT _, fun H' _ => hS H', fun H2 s2 => ⟨true, rfl, iteF ?_⟩⟩
    have s02 := s1.trans s2
    refine ⟨.ref t, rfl, .ref x, rfl, x, C, dx, [], rfl, s02 _ _ ex, T.cl, T.nT, (show 0 < 1000 by decide), ?_⟩
    refine ⟨.ref R, rfl, .ref x, rfl, x, C, dx, _, rfl, upd_same, T.cl, T.nR, (show 1 < 1000 by decide), ?_⟩
    refine q _ (fun b o ne e => ?_) ?_
    · rw [upd_ne ne, upd_ne ne]
      exact s02 _ _ e
    · rw [upd_same]
      exact congrArg (fun z => some (HO.ins C dx z)) (put_two t R)
/-- a plan of which the tops are known -/
def PlanTo (C : Addr) (H : Hp) (x t : Addr) (tops : List Int) : Prop := ∃ (dx R : Addr), H x = some (.ins C dx [("tops", .ref t), ("rules", .ref R)]) ∧ H t = some (.tup (tops.map V.int))
theorem PlanTo.same {C : Addr} {H H' : Hp} {x t : Addr} {tops : List Int} (h : PlanTo C H x t tops) (s : Same H H') : PlanTo C H' x t tops := by
  obtain ⟨dx, R, e, et⟩ := h
  exact ⟨dx, R, s _ _ e, s _ _ et⟩
theorem lookT (t R : Addr) : ([("tops", V.ref t), ("rules", V.ref R)] : List (Str × V)).lookup ("tops" : Str) = some (V.ref t) := by
  simp [List.lookup]
def spPlanLook (C : Addr) (g : List Int → PyData → Bool) : Sp := fun vs H Q _ => ∃ (n x t : Addr) (tops : List Int) (v : V) (d : PyData), vs = [.ref x, v] ∧ PlanTo C H x t tops ∧ tops.length ≤ 12 ∧ Da n H v d ∧ ∀ H', Same H H' → Q (.bl (g tops d)) H'
abbrev a_is_side : Stmt := topS 13
abbrev n_is_side : List Str := ["plan", "thing"]
theorem sc_is_side : FnScope n_is_side ["plan", "thing"] (defScope a_is_side) := ⟨rfl, rfl, rfl, by decide +kernel, rfl, by decide +kernel, by decide +kernel⟩
set_option maxHeartbeats 8000000 in
theorem ok_is_side {f fSd : Addr} {fd fdSd : FuncData} {k : Nat} {C : Addr} (F : Fun K "is_side" "is_side" a_is_side f fd) (Sd : Kn P w K mg base 3 "is_side_of" ["tops", "thing"] (spLookT sideD) fSd fdSd) (T : PlanTxt K mg C)  : FnOk P w K mg base CX0 (k + 4) f fd ["plan", "thing"] (spPlanLook C sideD) := by
  refine F.ok sc_is_side (fun vs H Q E h => ?_) (fun cdv A outer s H vs Q E hr h => ?_)
  · obtain ⟨n, x, t, tops, v, d, rfl, _⟩ := h
    rfl
  · obtain ⟨n, x, t, tops, v, d, rfl, ⟨dx, R, ex, et⟩, l12, hd, q⟩ := h
    refine ⟨_, (pss_one (ps_ret (pe_kn Sd hr (by omega) (pa_cons (pe_fld (pv 0) rfl) (pa_cons (pv 1) pa_nil))))), ?_⟩
    exact ⟨_, rfl, x, C, dx, _, _, rfl, ex, T.cl, T.nT, lookT t R, v, rfl, n, t, tops, v, d, rfl, et, hd, q⟩
abbrev a_is_standing : Stmt := topS 14
abbrev n_is_standing : List Str := ["plan", "thing", "top", "place"]
theorem sc_is_standing : FnScope n_is_standing ["plan", "thing"] (defScope a_is_standing) := ⟨rfl, rfl, rfl, by decide +kernel, rfl, by decide +kernel, by decide +kernel⟩
set_option maxHeartbeats 8000000 in
theorem ok_is_standing {f fPc : Addr} {fd fdPc : FuncData} {k : Nat} {C : Addr} (F : Fun K "is_standing" "is_standing" a_is_standing f fd) (Pc : Kn P w K mg base 2 "is_place" ["top", "thing"] (spLookI placeD) fPc fdPc) (T : PlanTxt K mg C) (m_all : mg "all" = none) (m_isinstance : mg "isinstance" = none) (m_len : mg "len" = none) (m_tuple : mg "tuple" = none) (m_zip : mg "zip" = none) : FnOk P w K mg base CX0 (k + 3) f fd ["plan", "thing"] (spPlanLook C standingD) := by
  refine F.ok sc_is_standing (fun vs H Q E h => ?_) (fun cdv A outer s H vs Q E hr h => ?_)
  · obtain ⟨n, x, t, tops, v, d, rfl, _⟩ := h
    rfl
  · obtain ⟨n, x, t, tops, v, d, rfl, ⟨dx, R, ex, et⟩, l12, hd, q⟩ := h
    refine ⟨_, (pss_cons (ps_if (PW.pt (pw_or (pt_not (pt_val (pe_callB call_isiD (by rfl) m_isinstance (by decide +kernel) (pa_cons (pv 1) (pa_cons (pe_bltn (v := .ty "tuple") (u := .type "tuple") (by rfl) m_tuple (by decide +kernel) rfl) pa_nil))))) (pw_or1 (pt_cmpR op_ne (pe_callB call_len_seq (by rfl) m_len (by decide +kernel) (pa_cons (pv 1) pa_nil)) (pe_callB call_len_seq (by rfl) m_len (by decide +kernel) (pa_cons (pe_fld (pv 0) rfl) pa_nil)) (nomark _))))) (pss_one (ps_ret pe_bl)) pss_nil)
      (pss_one (ps_ret (pe_callB (cr_all rfl) (by rfl) m_all (by decide +kernel) (pa_cons (
        pe_lc (own := [("top", 2), ("place", 3)]) (g := (gTup K 2 (gCons (gName 2) (gCons (gName 3) gNil)))) (tt := tYes) (te := (tCall (spLookI placeD) [] E0 (tCons (tVar 2) (tCons (tVar 3) tNil)))) rfl sc_is_standing.nd (RZ.pi_zipA (by rfl) m_zip (pa_cons (pe_fld (pv 0) rfl) (pa_cons (pv 1) pa_nil))) (blkOk_by (N := n_is_standing) (sc := defScope a_is_standing) (by decide +kernel))
          (fun _ _ _ _ _ => (pg_tup rfl (pgs_cons (pg_name (i := 2) sc_is_standing.nd rfl (.inl rfl) (hf := .inr rfl)) (pgs_cons (pg_name (i := 3) sc_is_standing.nd rfl (.inl rfl) (hf := .inr rfl)) pgs_nil)))) (fun _ _ _ _ _ => pts_nil) (fun _ _ _ _ _ => (pe_kn Pc hr (by omega) (pa_cons (pv 2) (pa_cons (pv 3) pa_nil))))) pa_nil))))), ?_⟩
    rcases tup_or d with ⟨ds, rfl⟩ | hn
    · cases hd with
      | tup e ha =>
      rename_i a xs
      have ll := ha.len
      have eS : standingD tops (.tuple ds) = (decide (ds.length = tops.length) && (tops.zip ds).all fun p => placeD p.1 p.2) := rfl
      rw [eS] at q
      refine ⟨_, rfl, n, _, _, "tuple", _, rfl, .tup e ha, kit_tup _, _, rfl, iteF ⟨_, rfl, a, xs, rfl, .inr (.inl (.inl e)), _, rfl, x, C, dx, _, _, rfl, ex, T.cl, T.nT, lookT t R, t, _, rfl, .inr (.inl (.inl et)), rfl, _, rfl, ite2 (fun c => ?_) (fun c => ?_)⟩⟩
      · have c' : ¬ ds.length = tops.length := fun z => by
          rw [List.length_map, ll, z] at c
          simp at c
        rw [decide_eq_false c', Bool.false_and] at q
        exact q H (Same.refl H)
      · have c' : ds.length = tops.length := Classical.byContradiction fun z => c (by
          have : ¬ ((xs.length : Int) = tops.length) := by omega
          rw [List.length_map]
          simp [this])
        rw [decide_eq_true c', Bool.true_and] at q
        refine ⟨_, rfl, x, C, dx, _, _, rfl, ex, T.cl, T.nT, lookT t R, _, rfl, t, a, _, _, rfl, .inr ⟨.inl (.inl et), .inl (.inl e), fun D nD => lc_it (walk_zipT (xs := tops.map V.int) (ys := xs) (by rw [List.length_map]; omega)) (fun i H' => Same H H' ∧ H' D = some (.lst ((((tops.zip ds).take i).map fun p => placeD p.1 p.2).map V.bl))) ⟨same_new nD, upd_same⟩ (fun i H' _ p => ⟨.inl (.inl (p.1 _ _ et)), .inl (.inl (p.1 _ _ e))⟩) (fun i v H1 H2 hi p y => ?_) (fun H' p => ?_)⟩⟩
        · obtain ⟨sm, eD⟩ := p
          obtain ⟨T', x1, x2, rfl, nT, rfl, g1, g2⟩ := y
          obtain ⟨tp, et', rfl⟩ := mapGet g1
          obtain ⟨dd, ed, hdd⟩ := ha.get i x2 g2
          have sT := same_new (o := HO.tup [V.int tp, x2]) nT
          refine ⟨T', _, rfl, .inl (.inl upd_same), rfl, _, _, rfl, _, _, rfl, rfl, rfl, .int tp, rfl, x2, rfl, n, tp, x2, dd, rfl, (hdd.same sm).same sT, fun H4 s4 => ⟨_, s4 _ _ (sT _ _ eD), ?_, same_over ((sm.trans sT).trans s4) nD, ?_⟩⟩
          · rw [List.length_map, List.length_map, List.length_take, List.length_zip]
            exact small1000 (by omega)
          · rw [upd_same, all_take (fun p : Int × PyData => placeD p.1 p.2) _ i (tp, dd) (zip_at et' ed)]
        · obtain ⟨sm, eD⟩ := p
          rw [List.take_of_length_le (by rw [List.length_zip, List.length_map]; omega)] at eD
          refine ⟨D, _, rfl, .inl (.inl eD), ?_⟩
          rw [all_id]
          exact q H' sm
    · refine ⟨_, rfl, n, _, d, "tuple", _, rfl, hd, kit_tup d, _, rfl, ?_⟩
      rw [hn]
      rw [standing_no hn] at q
      exact iteT (q H (Same.refl H))
end
end K02

set_option Elab.async false
set_option linter.all false
set_option maxRecDepth 100000
namespace K02
open PySem PySem.Spec PyProof.Rows L2 NB

/-! ### the law's own look -/
section
variable {P : Program} {w : World} {K : PySem.W.Frag} {mg : Str → Option Value} {base : Heap}
def spLookS (g : List Int → PyData → Bool) : Sp := fun vs H Q _ => ∃ (n t : Addr) (tops : List Int) (v : V) (d : PyData), vs = [.ref t, v] ∧ H t = some (.tup (tops.map V.int)) ∧ tops.length ≤ 12 ∧ Da n H v d ∧ ∀ H', Same H H' → Q (.bl (g tops d)) H'
def spLookH (g : Int → PyData → Bool) : Sp := fun vs H Q _ => ∃ (n : Addr) (t : Int) (v : V) (d : PyData), vs = [v, .int t] ∧ Da n H v d ∧ ∀ H', Same H H' → Q (.bl (g t d)) H'
abbrev a__law_is_number : Stmt := topS 35
abbrev n__law_is_number : List Str := ["_law_thing", "_law_high"]
theorem sc__law_is_number : FnScope n__law_is_number ["_law_thing", "_law_high"] (defScope a__law_is_number) := ⟨rfl, rfl, rfl, by decide +kernel, rfl, by decide +kernel, by decide +kernel⟩
set_option maxHeartbeats 8000000 in
theorem ok__law_is_number {f  : Addr} {fd  : FuncData} {k : Nat}  (F : Fun K "_law_is_number" "_law_is_number" a__law_is_number f fd)   (m_bool : mg "bool" = none) (m_int : mg "int" = none) (m_isinstance : mg "isinstance" = none) : FnOk P w K mg base CX0 (k + 1) f fd ["_law_thing", "_law_high"] (spLookH placeD) := by
  refine F.ok sc__law_is_number (fun vs H Q E h => ?_) (fun cdv A outer s H vs Q E hr h => ?_)
  · obtain ⟨n, t, v, d, rfl, _⟩ := h
    rfl
  · obtain ⟨n, t, v, d, rfl, hd, q⟩ := h
    refine ⟨_, (pss_one (ps_ret (pe_and (pe_callB call_isiD (by rfl) m_isinstance (by decide +kernel) (pa_cons (pv 0) (pa_cons (pe_bltn (v := .ty "int") (u := .type "int") (by rfl) m_int (by decide +kernel) rfl) pa_nil))) (pe_and (pe_not (pe_callB call_isiD (by rfl) m_isinstance (by decide +kernel) (pa_cons (pv 0) (pa_cons (pe_bltn (v := .ty "bool") (u := .type "bool") (by rfl) m_bool (by decide +kernel) rfl) pa_nil)))) (pe_one (pe_chain op_le op_le pe_int (pv 0) (pv 1))))))), ?_⟩
    refine ⟨v, rfl, n, v, d, "int", _, rfl, hd, kit_int d, _, rfl, ?_⟩
    cases hd with
    | int i =>
      refine iteT ⟨_, rfl, n, _, _, "bool", _, rfl, .int i, kit_bool _, _, rfl, _, rfl, iteT ⟨_, rfl, 0, i, rfl, rfl, _, rfl, ite2 (fun c => ?_) (fun c => ?_)⟩⟩
      · have := q H (Same.refl H)
        rw [show placeD t (.int i) = decide (i ≤ t) from by show (decide (0 ≤ i) && _) = _; rw [show decide (0 ≤ i) = true from c, Bool.true_and]] at this
        exact ⟨_, rfl, i, t, rfl, rfl, this⟩
      · have := q H (Same.refl H)
        rw [show placeD t (.int i) = false from by show (decide (0 ≤ i) && _) = _; rw [Bool.eq_false_iff.mpr c, Bool.false_and]] at this
        exact this
    | bl b => exact iteT ⟨_, rfl, n, _, _, "bool", _, rfl, .bl b, kit_bool _, _, rfl, _, rfl, iteF (q H (Same.refl H))⟩
    | _ => exact iteF (q H (Same.refl H))
abbrev a__law_side_due : Stmt := topS 36
abbrev n__law_side_due : List Str := ["_law_tops_here", "_law_thing"]
theorem sc__law_side_due : FnScope n__law_side_due ["_law_tops_here", "_law_thing"] (defScope a__law_side_due) := ⟨rfl, rfl, rfl, by decide +kernel, rfl, by decide +kernel, by decide +kernel⟩
set_option maxHeartbeats 8000000 in
theorem ok__law_side_due {f fNu : Addr} {fd fdNu : FuncData} {k : Nat}  (F : Fun K "_law_side_due" "_law_side_due" a__law_side_due f fd) (Nu : Kn P w K mg base 1 "_law_is_number" ["_law_thing", "_law_high"] (spLookH placeD) fNu fdNu)  (m_isinstance : mg "isinstance" = none) (m_len : mg "len" = none) (m_str : mg "str" = none) (m_tuple : mg "tuple" = none) : FnOk P w K mg base CX0 (k + 2) f fd ["_law_tops_here", "_law_thing"] (spLookT sideD) := by
  refine F.ok sc__law_side_due (fun vs H Q E h => ?_) (fun cdv A outer s H vs Q E hr h => ?_)
  · obtain ⟨n, t, tops, v, d, rfl, _⟩ := h
    rfl
  · obtain ⟨n, t, tops, v, d, rfl, et, hd, q⟩ := h
    refine ⟨_, (pss_cons (ps_if (PW.pt (pw_or (pt_not (pt_val (pe_callB call_isiD (by rfl) m_isinstance (by decide +kernel) (pa_cons (pv 1) (pa_cons (pe_bltn (v := .ty "tuple") (u := .type "tuple") (by rfl) m_tuple (by decide +kernel) rfl) pa_nil))))) (pw_or (pt_cmpR op_ne (pe_callB call_len_seq (by rfl) m_len (by decide +kernel) (pa_cons (pv 1) pa_nil)) pe_int (nomark _)) (pw_or1 (pt_not (pt_val (pe_kn Nu hr (by omega) (pa_cons (pe_ix ix_tup (pv 1) pe_int (fun _ _ => rfl)) (pa_cons (pe_op op_sub (pe_callB call_len_seq (by rfl) m_len (by decide +kernel) (pa_cons (pv 0) pa_nil)) pe_int) pa_nil))))))))) (pss_one (ps_ret pe_bl)) pss_nil)
      (pss_cons (ps_if (PW.pt (pw_or (pt_not (pt_val (pe_callB call_isiD (by rfl) m_isinstance (by decide +kernel) (pa_cons (pe_ix ix_tup (pv 1) pe_int (fun _ _ => rfl)) (pa_cons (pe_bltn (v := .ty "str") (u := .type "str") (by rfl) m_str (by decide +kernel) rfl) pa_nil))))) (pw_or1 (pt_cmpR op_notIn_seq (pe_ix ix_tup (pv 1) pe_int (fun _ _ => rfl)) (pe_tup (pa_cons pe_str (pa_cons pe_str pa_nil))) (by rfl))))) (pss_one (ps_ret pe_bl)) pss_nil)
      (pss_one (ps_ret (pe_kn Nu hr (by omega) (pa_cons (pe_ix ix_tup (pv 1) pe_int (fun _ _ => rfl)) (pa_cons (pe_ix ix_tup (pv 0) (pe_ix ix_tup (pv 1) pe_int (fun _ _ => rfl)) (fun _ _ => rfl)) pa_nil))))))), ?_⟩
    rcases tup_or d with ⟨ds, rfl⟩ | hn
    · cases hd with
      | tup e ha =>
      rename_i a xs
      have ll := ha.len
      refine ⟨_, rfl, n, _, _, "tuple", _, rfl, .tup e ha, kit_tup _, _, rfl, iteF ⟨_, rfl, a, xs, rfl, .inr (.inl (.inl e)), rfl, _, rfl, ite2 (fun c => ?_) (fun c => ?_)⟩⟩
      · have c' : ¬ ds.length = 3 := fun z => by rw [ll, z] at c; exact absurd c (by decide)
        have : sideD tops (.tuple ds) = false := by simp [sideD, c']
        rw [this] at q
        exact q H (Same.refl H)
      · have c' : ds.length = 3 := Classical.byContradiction fun z => c (by
          have : ¬ ((xs.length : Int) = 3) := by omega
          simp [this])
        match ds, c', ha with
        | [d0, d1, d2], _, .cons h0 (.cons h1 (.cons h2 .nil)) =>
        rename_i v0 v1 v2
        have eW : sideD tops (.tuple [d0, d1, d2]) = (placeD ((tops.length : Int) - 1) d0 && (wordD d1 && placeD (tops.getD (natD d0) 0) d2)) := by simp [sideD]
        rw [eW] at q
        refine ⟨_, rfl, a, _, 0, _, rfl, rfl, .inl (.inl e), atI_nat (j := 0) rfl, _, rfl, t, _, rfl, .inr (.inl (.inl et)), _, 1, rfl, rfl, n, _, _, d0, rfl, h0, fun H1 s1 => ⟨_, rfl, ?_⟩⟩
        rw [List.length_map]
        have e1 := s1 _ _ e
        cases hp : placeD ((tops.length : Int) - 1) d0 with
        | false =>
          rw [hp, Bool.false_and] at q
          exact iteT (q H1 s1)
        | true =>
        rw [hp, Bool.true_and] at q
        refine iteF ?_
        obtain ⟨i, rfl, hi⟩ := place_int hp
        cases h0
        have li : i < tops.length := by omega
        refine ⟨_, rfl, a, _, 1, _, rfl, rfl, .inl (.inl e1), atI_nat (j := 1) rfl, n, _, d1, "str", _, rfl, h1.same s1, kit_str d1, _, rfl, ?_⟩
        rcases str_or d1 with ⟨z, rfl⟩ | hs
        · refine iteF ?_
          cases h1
          have ew : wordD (.str z) = (decide (z = "from") || decide (z = "to")) := rfl
          rw [ew] at q
          refine ⟨_, rfl, a, _, 1, _, rfl, rfl, .inl (.inl e1), atI_nat (j := 1) rfl, (show 2 ≤ sizeLine by decide), fun t2 nt2 => ?_⟩
          have s2 := s1.trans (same_new (o := HO.tup [V.str "from", V.str "to"]) nt2)
          have e2 := same_new (o := HO.tup [V.str "from", V.str "to"]) nt2 _ _ e1
          refine ⟨t2, _, rfl, .inr (.inl (.inl upd_same)), rfl, by decide, _, rfl, ?_⟩
          show if (!inV (V.str z) [V.str "from", V.str "to"]) = true then _ else _
          rw [inV_str2]
          cases hz : (decide (z = "from") || decide (z = "to")) with
          | false =>
            rw [hz, Bool.false_and] at q
            exact iteT (q _ s2)
          | true =>
            rw [hz, Bool.true_and] at q
            refine iteF ⟨_, rfl, a, _, 2, _, rfl, rfl, .inl (.inl e2), atI_nat (j := 2) rfl, _, rfl, _, rfl, a, _, 0, _, rfl, rfl, .inl (.inl e2), atI_nat (j := 0) rfl, t, _, i, _, rfl, rfl, .inl (.inl (s2 _ _ et)), atI_nat (by rw [List.getElem?_map, List.getElem?_eq_getElem li]; rfl), n, _, _, d2, rfl, h2.same s2, fun H3 s3 => ?_⟩
            have := q H3 (s2.trans s3)
            rw [show natD (.int (i : Int)) = i from Int.toNat_natCast i, getD_at li] at this
            exact this
        · rw [hs]
          rw [word_no hs, Bool.false_and] at q
          exact iteT (q H1 s1)
    · refine ⟨_, rfl, n, _, d, "tuple", _, rfl, hd, kit_tup d, _, rfl, ?_⟩
      rw [hn]
      rw [side_no hn] at q
      exact iteT (q H (Same.refl H))
abbrev a__law_standing_due : Stmt := topS 37
abbrev n__law_standing_due : List Str := ["_law_tops_here", "_law_thing", "_law_place", "_law_top"]
theorem sc__law_standing_due : FnScope n__law_standing_due ["_law_tops_here", "_law_thing"] (defScope a__law_standing_due) := ⟨rfl, rfl, rfl, by decide +kernel, rfl, by decide +kernel, by decide +kernel⟩
set_option maxHeartbeats 8000000 in
theorem ok__law_standing_due {f fNu : Addr} {fd fdNu : FuncData} {k : Nat}  (F : Fun K "_law_standing_due" "_law_standing_due" a__law_standing_due f fd) (Nu : Kn P w K mg base 1 "_law_is_number" ["_law_thing", "_law_high"] (spLookH placeD) fNu fdNu)  (m_all : mg "all" = none) (m_isinstance : mg "isinstance" = none) (m_len : mg "len" = none) (m_tuple : mg "tuple" = none) (m_zip : mg "zip" = none) : FnOk P w K mg base CX0 (k + 2) f fd ["_law_tops_here", "_law_thing"] (spLookS standingD) := by
  refine F.ok sc__law_standing_due (fun vs H Q E h => ?_) (fun cdv A outer s H vs Q E hr h => ?_)
  · obtain ⟨n, t, tops, v, d, rfl, _⟩ := h
    rfl
  · obtain ⟨n, t, tops, v, d, rfl, et, l12, hd, q⟩ := h
    refine ⟨_, (pss_cons (ps_if (PW.pt (pw_or (pt_not (pt_val (pe_callB call_isiD (by rfl) m_isinstance (by decide +kernel) (pa_cons (pv 1) (pa_cons (pe_bltn (v := .ty "tuple") (u := .type "tuple") (by rfl) m_tuple (by decide +kernel) rfl) pa_nil))))) (pw_or1 (pt_cmpR op_ne (pe_callB call_len_seq (by rfl) m_len (by decide +kernel) (pa_cons (pv 1) pa_nil)) (pe_callB call_len_seq (by rfl) m_len (by decide +kernel) (pa_cons (pv 0) pa_nil)) (nomark _))))) (pss_one (ps_ret pe_bl)) pss_nil)
      (pss_one (ps_ret (pe_callB (cr_all rfl) (by rfl) m_all (by decide +kernel) (pa_cons (
        pe_lc (own := [("_law_place", 2), ("_law_top", 3)]) (g := (gTup K 2 (gCons (gName 2) (gCons (gName 3) gNil)))) (tt := tYes) (te := (tCall (spLookH placeD) [] E0 (tCons (tVar 2) (tCons (tVar 3) tNil)))) rfl sc__law_standing_due.nd (RZ.pi_zipA (by rfl) m_zip (pa_cons (pv 1) (pa_cons (pv 0) pa_nil))) (blkOk_by (N := n__law_standing_due) (sc := defScope a__law_standing_due) (by decide +kernel))
          (fun _ _ _ _ _ => (pg_tup rfl (pgs_cons (pg_name (i := 2) sc__law_standing_due.nd rfl (.inl rfl) (hf := .inr rfl)) (pgs_cons (pg_name (i := 3) sc__law_standing_due.nd rfl (.inl rfl) (hf := .inr rfl)) pgs_nil)))) (fun _ _ _ _ _ => pts_nil) (fun _ _ _ _ _ => (pe_kn Nu hr (by omega) (pa_cons (pv 2) (pa_cons (pv 3) pa_nil))))) pa_nil))))), ?_⟩
    rcases tup_or d with ⟨ds, rfl⟩ | hn
    · cases hd with
      | tup e ha =>
      rename_i a xs
      have ll := ha.len
      have eS : standingD tops (.tuple ds) = (decide (ds.length = tops.length) && (tops.zip ds).all fun p => placeD p.1 p.2) := rfl
      rw [eS] at q
      refine ⟨_, rfl, n, _, _, "tuple", _, rfl, .tup e ha, kit_tup _, _, rfl, iteF ⟨_, rfl, a, xs, rfl, .inr (.inl (.inl e)), _, rfl, t, _, rfl, .inr (.inl (.inl et)), rfl, _, rfl, ite2 (fun c => ?_) (fun c => ?_)⟩⟩
      · have c' : ¬ ds.length = tops.length := fun z => by
          rw [List.length_map, ll, z] at c
          simp at c
        rw [decide_eq_false c', Bool.false_and] at q
        exact q H (Same.refl H)
      · have c' : ds.length = tops.length := Classical.byContradiction fun z => c (by
          have : ¬ ((xs.length : Int) = tops.length) := by omega
          rw [List.length_map]
          simp [this])
        rw [decide_eq_true c', Bool.true_and] at q
        refine ⟨_, rfl, _, rfl, a, t, _, _, rfl, .inr ⟨.inl (.inl e), .inl (.inl et), fun D nD => lc_it (walk_zipT (xs := xs) (ys := tops.map V.int) (by rw [List.length_map]; omega)) (fun i H' => Same H H' ∧ H' D = some (.lst ((((tops.zip ds).take i).map fun p => placeD p.1 p.2).map V.bl))) ⟨same_new nD, upd_same⟩ (fun i H' _ p => ⟨.inl (.inl (p.1 _ _ e)), .inl (.inl (p.1 _ _ et))⟩) (fun i v H1 H2 hi p y => ?_) (fun H' p => ?_)⟩⟩
        · obtain ⟨sm, eD⟩ := p
          obtain ⟨T', x1, x2, rfl, nT, rfl, g1, g2⟩ := y
          obtain ⟨tp, et', rfl⟩ := mapGet g2
          obtain ⟨dd, ed, hdd⟩ := ha.get i x1 g1
          have sT := same_new (o := HO.tup [x1, V.int tp]) nT
          refine ⟨T', _, rfl, .inl (.inl upd_same), rfl, _, _, rfl, _, _, rfl, rfl, rfl, x1, rfl, .int tp, rfl, n, tp, x1, dd, rfl, (hdd.same sm).same sT, fun H4 s4 => ⟨_, s4 _ _ (sT _ _ eD), ?_, same_over ((sm.trans sT).trans s4) nD, ?_⟩⟩
          · rw [List.length_map, List.length_map, List.length_take, List.length_zip]
            exact small1000 (by omega)
          · rw [upd_same, all_take (fun p : Int × PyData => placeD p.1 p.2) _ i (tp, dd) (zip_at et' ed)]
        · obtain ⟨sm, eD⟩ := p
          rw [List.take_of_length_le (by rw [List.length_zip]; omega)] at eD
          refine ⟨D, _, rfl, .inl (.inl eD), ?_⟩
          rw [all_id]
          exact q H' sm
    · refine ⟨_, rfl, n, _, d, "tuple", _, rfl, hd, kit_tup d, _, rfl, ?_⟩
      rw [hn]
      rw [standing_no hn] at q
      exact iteT (q H (Same.refl H))
end
end K02

set_option Elab.async false
set_option linter.all false
set_option maxRecDepth 100000
namespace K02
open PySem PySem.Spec PyProof.Rows L2 NB

/-! ### data and pots -/
theorem PotAt.lst {H : Hp} {a : Addr} {c : Nat} (h : PotAt H a c) : ∃ zs, H a = some (.lst zs) := by
  obtain ⟨p, q, r, e, _⟩ := h
  exact ⟨_, e⟩
theorem da_but {a : Addr} {H H' : Hp} {c : Nat} {v : V} {d : PyData} (h : Da a H v d) (p : PotAt H a c) (b : But a H H') : Da a H' v d := Da.keep p.lst b d v h
theorem daAll_but {a : Addr} {H H' : Hp} {c : Nat} {vs : List V} {ds : List PyData} (h : DaAll a H vs ds) (p : PotAt H a c) (b : But a H H') : DaAll a H' vs ds := DaAll.keep p.lst b ds vs h
theorem new_tup {n t : Addr} {H : Hp} {xs : List V} {ds : List PyData} (nt : H t = none) (h : DaAll n H xs ds) : Same H (upd H t (.tup xs)) ∧ Da n (upd H t (.tup xs)) (.ref t) (.tuple ds) := ⟨same_new nt, .tup upd_same (h.same (same_new nt))⟩
theorem new_lst {n t : Addr} {H : Hp} {xs : List V} {ds : List PyData} {c : Nat} (nt : H t = none) (ns : t ≠ sysModules) (p : PotAt H n c) (h : DaAll n H xs ds) : Same H (upd H t (.lst xs)) ∧ Da n (upd H t (.lst xs)) (.ref t) (.list ds) := ⟨same_new nt, .lst upd_same ns (p.ne nt) (h.same (same_new nt))⟩
theorem new_dct {n t : Addr} {H : Hp} (nt : H t = none) : Same H (upd H t (.dK [])) ∧ Da n (upd H t (.dK [])) (.ref t) (.dict []) := ⟨same_new nt, .dct upd_same .nil⟩
theorem but_same {a : Addr} {H H' H'' : Hp} (b : But a H H') (s : Same H' H'') : But a H H'' := b.trans (But.of s)
theorem wt_at {ds : List PyData} {i : Nat} {d : PyData} (h : ds[i]? = some d) : PyData.weightAll ds = PyData.weightAll (ds.take i) + (d.weight + 1) + PyData.weightAll (ds.drop (i + 1)) := by
  have hi := (List.getElem?_eq_some_iff.mp h).1
  have e : ds = ds.take i ++ (d :: ds.drop (i + 1)) := by
    have e2 := (List.getElem?_eq_some_iff.mp h).2
    rw [← e2, ← List.drop_eq_getElem_cons hi, List.take_append_drop]
  have := wt_app (ds.take i) (d :: ds.drop (i + 1))
  rw [← e] at this
  simp only [PyData.weightAll] at this
  omega
theorem wt_two (ds : List PyData) (i : Nat) : PyData.weightAll ds = PyData.weightAll (ds.take i) + PyData.weightAll (ds.drop i) := by
  have := wt_app (ds.take i) (ds.drop i)
  rw [List.take_append_drop] at this
  exact this
theorem SmE.mono {ds : List PyData} {k m : Nat} (h : SmE ds k) (le : k ≤ m) : SmE ds m := fun d hd => ⟨(h d hd).1, Nat.le_trans (h d hd).2.1 le, (h d hd).2.2⟩
theorem SmE.app {ds es : List PyData} {k : Nat} (h : SmE ds k) (h' : SmE es k) : SmE (ds ++ es) k := fun d hd => by
  rcases List.mem_append.mp hd with q | q
  · exact h d q
  · exact h' d q
theorem SmE.take {ds : List PyData} {k : Nat} (h : SmE ds k) (i : Nat) : SmE (ds.take i) k := fun d hd => h d (List.mem_of_mem_take hd)
theorem SmE.drop {ds : List PyData} {k : Nat} (h : SmE ds k) (i : Nat) : SmE (ds.drop i) k := fun d hd => h d (List.mem_of_mem_drop hd)
theorem SmE.one {d : PyData} {w k : Nat} (h : Sm d w k) : SmE [d] k := fun x hx => by
  rw [List.mem_singleton.mp hx]
  exact h.e
theorem SmE.ints {xs : List Int} (h : ∀ x ∈ xs, x.natAbs < 10 ^ 90) : SmE (xs.map PyData.int) 0 := fun d hd => by
  obtain ⟨x, hx, rfl⟩ := List.mem_map.mp hd
  exact (Sm.int (h x hx)).e
theorem wt_ints : ∀ {xs : List Int}, (∀ x ∈ xs, x.natAbs < 10 ^ 90) → PyData.weightAll (xs.map PyData.int) ≤ 311 * xs.length
  | [], _ => Nat.le_refl _
  | x :: xs, h => by
    have a := (Sm.int (h x List.mem_cons_self)).wt
    have b := wt_ints fun y hy => h y (List.mem_cons_of_mem _ hy)
    simp only [List.map_cons, PyData.weightAll, List.length_cons]
    omega

/-! ### one thing at another place: t[:i] + (x,) + t[i + 1:] -/
theorem cut_to {K : PySem.W.Frag} {H : Hp} {p : Addr} {vs : List V} {c : Nat} {Q : VK} (h : H p = some (.tup vs)) (hc : c ≤ vs.length) (q : ∀ g H', Same H H' → H' g = some (.tup (vs.take c)) → Q (.ref g) H') : rSlA K (.ref p) none (some (c : Int)) H Q := by
  have e1 : HT.sIx vs.length vs.length (some (c : Int)) = c := by
    rw [HT.sIx_nat]
    omega
  refine ⟨p, _, rfl, .inl (.inl h), fun w => ?_, fun w g ng => ?_⟩
  · rw [e1] at w
    refine q p H (Same.refl H) ?_
    rw [List.take_of_length_le (by omega)]
    exact h
  · refine q g _ (same_new ng) ?_
    rw [upd_same]
    unfold cutV
    rw [e1, HT.sIx_none, List.drop_zero]
    rfl
theorem cut_from {K : PySem.W.Frag} {H : Hp} {p : Addr} {vs : List V} {c : Nat} {Q : VK} (h : H p = some (.tup vs)) (hc : c ≤ vs.length) (q : ∀ g H', Same H H' → H' g = some (.tup (vs.drop c)) → Q (.ref g) H') : rSlA K (.ref p) (some (c : Int)) none H Q := by
  have e1 : HT.sIx vs.length 0 (some (c : Int)) = c := by
    rw [HT.sIx_nat]
    omega
  refine ⟨p, _, rfl, .inl (.inl h), fun w => ?_, fun w g ng => ?_⟩
  · rw [e1] at w
    refine q p H (Same.refl H) ?_
    rw [w.1, List.drop_zero]
    exact h
  · refine q g _ (same_new ng) ?_
    rw [upd_same]
    unfold cutV
    rw [e1, HT.sIx_none, List.take_of_length_le (by rw [List.length_drop]; exact Nat.le_refl _)]
theorem cat_tups {K : PySem.W.Frag} {H : Hp} {a b : Addr} {xs ys : List V} {Q : VK} (ha : H a = some (.tup xs)) (hb : H b = some (.tup ys)) (hz : xs.length + ys.length ≤ sizeLine) (q : ∀ g H', Same H H' → H' g = some (.tup (xs ++ ys)) → Q (.ref g) H') : rCatA K (.ref a) (.ref b) H Q := by
  refine ⟨a, b, xs, ys, rfl, rfl, .inl (.inl ha), .inl (.inl hb), hz, fun e => ?_, fun _ e => ?_, fun _ _ g ng => q g _ (same_new ng) upd_same⟩
  · subst e
    exact q b H (Same.refl H) hb
  · subst e
    exact q a H (Same.refl H) (by rw [List.append_nil]; exact ha)
abbrev tMoved (K : PySem.W.Frag) (a i x : Nat) : TE := tOp (rCatA K) (tOp (rCatA K) (tSl (rSlA K) (tVar a) tNoPart (tPart (tVar i))) (tTup (tCons (tVar x) tNil))) (tSl (rSlA K) (tVar a) (tPart (tOp (rI0 fun i j => .int (i + j)) (tVar i) (tC (.int 1)))) tNoPart)
theorem set_cut {α : Type} {xs : List α} {n : Nat} {v : α} (h : n < xs.length) : (xs.take n ++ [v]) ++ xs.drop (n + 1) = xs.set n v := by
  rw [List.set_eq_take_append_cons_drop, if_pos h, List.append_assoc]
  rfl
theorem moved_val {K : PySem.W.Frag} {σ : L2.St} {H : Hp} {Q : VK} {a i x n : Nat} {p : Addr} {v : Int} {xs : List Int} (ha : σ[a]? = some (some (.ref p))) (hi : σ[i]? = some (some (.int (n : Int)))) (hx : σ[x]? = some (some (.int v))) (e : H p = some (.tup (xs.map V.int))) (hn : n < xs.length) (l12 : xs.length ≤ 12)
    (q : ∀ g H', Same H H' → H' g = some (.tup ((xs.set n v).map V.int)) → Q (.ref g) H') : tMoved K a i x σ H Q := by
  have lm : (xs.map V.int).length = xs.length := List.length_map _
  refine ⟨.ref p, ha, ?_⟩
  show tNoPart _ _ _
  unfold tNoPart
  refine ⟨.int n, hi, n, rfl, cut_to e (by omega) fun g1 H1 s1 e1 => ?_⟩
  refine ⟨.int v, hx, (show 1 ≤ sizeLine by decide), fun g2 n2 => ?_⟩
  have s2 := same_new (o := HO.tup [V.int v]) n2
  refine cat_tups (s2 _ _ e1) upd_same (Nat.le_of_lt (small1000 (by rw [List.length_take]; simp only [List.length_cons, List.length_nil]; omega))) fun g3 H3 s3 e3 => ?_
  have s03 := (s1.trans s2).trans s3
  refine ⟨.ref p, ha, .int n, hi, n, 1, rfl, rfl, n + 1, by rfl, ?_⟩
  show rSlA _ _ (some ((n : Int) + 1)) none _ _
  have ec : ((n : Int) + 1) = ((n + 1 : Nat) : Int) := by omega
  rw [ec]
  refine cut_from (s03 _ _ e) (by omega) fun g4 H4 s4 e4 => ?_
  refine cat_tups (s4 _ _ e3) e4 (Nat.le_of_lt (small1000 (by rw [List.length_append, List.length_take, List.length_drop]; simp only [List.length_cons, List.length_nil]; omega))) fun g5 H5 s5 e5 => ?_
  refine q g5 H5 ((s03.trans s4).trans s5) ?_
  rw [e5, set_cut (by omega), List.map_set]

/-! ### lists of data -/
def AllD (n : Addr) (H : Hp) (w k : Nat) (xs : List V) : Prop := ∀ x ∈ xs, ∃ d, Da n H x d ∧ Sm d w k
theorem AllD.same {n : Addr} {H H' : Hp} {w k : Nat} {xs : List V} (h : AllD n H w k xs) (s : Same H H') : AllD n H' w k xs := fun x hx => by
  obtain ⟨d, D, S⟩ := h x hx
  exact ⟨d, D.same s, S⟩
theorem AllD.but {n : Addr} {H H' : Hp} {w k c : Nat} {xs : List V} (h : AllD n H w k xs) (p : PotAt H n c) (b : But n H H') : AllD n H' w k xs := fun x hx => by
  obtain ⟨d, D, S⟩ := h x hx
  exact ⟨d, da_but D p b, S⟩
theorem AllD.app {n : Addr} {H : Hp} {w k : Nat} {xs ys : List V} (h : AllD n H w k xs) (h' : AllD n H w k ys) : AllD n H w k (xs ++ ys) := fun x hx => by
  rcases List.mem_append.mp hx with q | q
  · exact h x q
  · exact h' x q
theorem AllD.rep {n : Addr} {H : Hp} {w k m : Nat} {xs : List V} (h : AllD n H w k xs) : AllD n H w k (List.replicate m xs).flatten := fun x hx => by
  obtain ⟨l, hl, hx⟩ := List.mem_flatten.mp hx
  rw [(List.mem_replicate.mp hl).2] at hx
  exact h x hx
theorem AllD.nil {n : Addr} {H : Hp} {w k : Nat} : AllD n H w k [] := fun x hx => absurd hx List.not_mem_nil
theorem AllD.cons {n : Addr} {H : Hp} {w k : Nat} {x : V} {xs : List V} {d : PyData} (D : Da n H x d) (S : Sm d w k) (h : AllD n H w k xs) : AllD n H w k (x :: xs) := fun y hy => by
  rcases List.mem_cons.mp hy with q | q
  · rw [q]
    exact ⟨d, D, S⟩
  · exact h y q
theorem DaAll.rev {n : Addr} {H : Hp} : ∀ {vs : List V} {ds : List PyData}, DaAll n H vs ds → DaAll n H vs.reverse ds.reverse
  | [], _, h => by cases h; exact .nil
  | v :: vs, _, h => by
    cases h with
    | cons h1 h2 =>
      rw [List.reverse_cons, List.reverse_cons]
      exact (DaAll.rev h2).app (.cons h1 .nil)
theorem wt_rev : ∀ ds : List PyData, PyData.weightAll ds.reverse = PyData.weightAll ds
  | [] => rfl
  | d :: ds => by
    rw [List.reverse_cons, wt_app, wt_rev ds]
    simp only [PyData.weightAll]
    omega
/-- t[:-1] -/
theorem cut_butlast {K : PySem.W.Frag} {H : Hp} {p : Addr} {vs : List V} {Q : VK} (h : H p = some (.tup vs)) (h1 : 1 ≤ vs.length) (q : ∀ g H', Same H H' → H' g = some (.tup (vs.take (vs.length - 1))) → Q (.ref g) H') : rSlA K (.ref p) none (some (-1)) H Q := by
  have e1 : HT.sIx vs.length vs.length (some (-1)) = vs.length - 1 := by
    show (if (-1 : Int) < 0 then ((-1 : Int) + (vs.length : Int)).toNat else min (-1 : Int).toNat vs.length) = _
    rw [if_pos (by decide)]
    omega
  refine ⟨p, _, rfl, .inl (.inl h), fun w => ?_, fun w g ng => ?_⟩
  · rw [e1] at w
    omega
  · refine q g _ (same_new ng) ?_
    rw [upd_same]
    unfold cutV
    rw [e1, HT.sIx_none, List.drop_zero]
    rfl
/-- t[-1:] -/
theorem cut_last {K : PySem.W.Frag} {H : Hp} {p : Addr} {vs : List V} {Q : VK} (h : H p = some (.tup vs)) (h1 : 1 ≤ vs.length) (q : ∀ g H', Same H H' → H' g = some (.tup (vs.drop (vs.length - 1))) → Q (.ref g) H') : rSlA K (.ref p) (some (-1)) none H Q := by
  have e1 : HT.sIx vs.length 0 (some (-1)) = vs.length - 1 := by
    show (if (-1 : Int) < 0 then ((-1 : Int) + (vs.length : Int)).toNat else min (-1 : Int).toNat vs.length) = _
    rw [if_pos (by decide)]
    omega
  refine ⟨p, _, rfl, .inl (.inl h), fun w => ?_, fun w g ng => ?_⟩
  · rw [e1] at w
    refine q p H (Same.refl H) ?_
    rw [w.1, List.drop_zero]
    exact h
  · refine q g _ (same_new ng) ?_
    rw [upd_same]
    unfold cutV
    rw [e1, HT.sIx_none, List.take_of_length_le (by rw [List.length_drop]; exact Nat.le_refl _)]
theorem line_of {n : Nat} (h : n ≤ 300000) : n ≤ sizeLine := by
  rw [sizeLine_eq]
  omega
theorem PotAt.tup {H H' : Hp} {a g : Addr} {c : Nat} {xs : List V} (p : PotAt H a c) (b : But a H H') (e : H g = some (.tup xs)) : H' g = some (.tup xs) := by
  obtain ⟨_, _, _, ea, _⟩ := p
  exact b _ _ (ne_of e ea (by intro z; cases z)) e
theorem nat90 {i : Int} (h0 : -10 ≤ i) (h1 : i ≤ 10 ^ 30) : i.natAbs < 10 ^ 90 := by
  have e : ((10 ^ 30 : Nat) : Int) = (10 : Int) ^ 30 := by decide
  have : i.natAbs ≤ 10 ^ 30 := by omega
  exact Nat.lt_of_le_of_lt this (by decide)
theorem log_of {i : Int} (h : i.natAbs < 10 ^ 90) : i.natAbs.log2 < 1920 := by
  have s := (Sm.int h).sh
  simp only [PyData.showable, decide_eq_true_eq] at s
  exact s
theorem num_low (z : String) (c : Nat) (h : c ∈ (Str.ofString z).cps.toList) : c < 16 ^ 8 := by
  rw [Str.ofString_eq_toList] at h
  have h' : c ∈ (z.toList.map fun ch => ch.toNat) := h
  obtain ⟨ch, _, rfl⟩ := List.mem_map.mp h'
  have := ch.valid
  have l : ch.toNat < 1114112 := by
    rcases this with q | q
    · exact Nat.lt_trans q (by decide)
    · exact q.2
  exact Nat.lt_trans l (by decide)
/-- how a whole number is written -/
theorem Sm.num {i : Int} (h : i.natAbs < 10 ^ 90) : Sm (.str (toString i)) 100 0 := by
  have l : (Str.ofString (toString i)).length ≤ 100 := by
    have e := int_text_length_le10 (k := 90) (by decide) h
    rw [PySem.ofString_length]
    omega
  refine ⟨rfl, Nat.le_refl _, ?_, l⟩
  simp only [PyData.leavesShort, List.all_eq_true, decide_eq_true_eq]
  intro c hc
  exact num_low _ c hc

/-! ### what is odd -/
section
variable {P : Program} {w : World} {K : PySem.W.Frag} {mg : Str → Option Value} {base : Heap}
/-- what is bent: a whole number, a text, a tuple -/
def Plain (d : PyData) : Prop := (∃ i : Int, d = .int i ∧ 0 ≤ i ∧ i < 10 ^ 30) ∨ (∃ z, d = .str z) ∨ ∃ ds, d = .tuple ds ∧ 1 ≤ ds.length
def spOdd : Sp := fun vs H Q _ => ∃ (a t : Addr) (v : V) (d : PyData) (tops : List Int) (c : Nat), vs = [.ref a, v, .ref t] ∧ PotAt H a c ∧ c < 900000 ∧ Da a H v d ∧ Plain d ∧ Sm d 5000 2 ∧ H t = some (.tup (tops.map V.int)) ∧ 1 ≤ tops.length ∧ tops.length ≤ 12 ∧ Pl tops ∧
  ∀ v' d' H', But a H H' → PotAt H' a (c + 2) → Da a H' v' d' → Sm d' 11000 4 → Q v' H'
abbrev a__law_odd : Stmt := topS 32
abbrev n__law_odd : List Str := ["_law_pot_here", "_law_part", "_law_tops_here", "_law_some"]
theorem sc__law_odd : FnScope n__law_odd ["_law_pot_here", "_law_part", "_law_tops_here"] (defScope a__law_odd) := ⟨rfl, rfl, rfl, by decide +kernel, rfl, by decide +kernel, by decide +kernel⟩
set_option maxHeartbeats 8000000 in
theorem ok__law_odd {f fO : Addr} {fd fdO : FuncData} {k : Nat}  (F : Fun K "_law_odd" "_law_odd" a__law_odd f fd) (O : Kn P w K mg base 2 "_law_of" ["_law_pot_here", "_law_some"] (spOf K) fO fdO)  (m_int : mg "int" = none) (m_isinstance : mg "isinstance" = none) (m_len : mg "len" = none) (m_list : mg "list" = none) (m_str : mg "str" = none) (m_tuple : mg "tuple" = none) : FnOk P w K mg base CX0 (k + 3) f fd ["_law_pot_here", "_law_part", "_law_tops_here"] spOdd := by
  refine F.ok sc__law_odd (fun vs H Q E h => ?_) (fun cdv A outer s H vs Q E hr h => ?_)
  · obtain ⟨a, t, v, d, tops, c, rfl, _⟩ := h
    rfl
  · obtain ⟨a, t, v, d, tops, c, rfl, pa, hc, Dv, hp, Sv, et, l1, l12, pl, q⟩ := h
    refine ⟨_, (pss_cons (ps_set (i := 3) sc__law_odd.nd rfl (.inl rfl) (pe_lstN (pa_cons pe_non (pa_cons pe_bl (pa_cons pe_bl (pa_cons (pe_un un_neg pe_int) (pa_cons pe_str (pa_cons pe_str (pa_cons pe_str (pa_cons (pe_lstN (pa_cons (pv 1) pa_nil)) (pa_cons (pe_tup (pa_cons (pv 1) pa_nil)) (pa_cons pe_dnewK (pa_cons (pe_tup pa_nil) (pa_cons pe_int pa_nil))))))))))))))
      (pss_cons (ps_if (pt_val (pe_callB call_isiD (by rfl) m_isinstance (by decide +kernel) (pa_cons (pv 1) (pa_cons (pe_bltn (v := .ty "int") (u := .type "int") (by rfl) m_int (by decide +kernel) rfl) pa_nil)))) (pss_cons (ps_set (i := 3) sc__law_odd.nd rfl (.inl rfl) (pe_op op_cat (pv 3) (pe_op op_rep (pe_lstN (pa_cons (pe_op op_add (pv 1) (pe_callTy call_int1 (by rfl) m_int (by decide +kernel) (pa_cons (pe_cmpR op_lt (pv 1) (pe_op op_sub (pe_op op_pow pe_int pe_int) pe_int) (nomark _)) pa_nil))) (pa_cons (pe_op op_sub (pv 1) pe_int) (pa_cons (pe_callTy call_str_int (by rfl) m_str (by decide +kernel) (pa_cons (pv 1) pa_nil)) pa_nil)))) pe_int)))
      (pss_one (ps_set (i := 3) sc__law_odd.nd rfl (.inl rfl) (pe_op op_cat (pv 3) (pe_op op_rep (pe_lstN (pa_cons (pe_callB call_len_seq (by rfl) m_len (by decide +kernel) (pa_cons (pv 2) pa_nil)) (pa_cons (pe_kn O hr (by omega) (pa_cons (pv 0) (pa_cons (pe_callTy call_list_of (by rfl) m_list (by decide +kernel) (pa_cons (pv 2) pa_nil)) pa_nil))) pa_nil))) pe_int))))) (pss_one (ps_if (pt_val (pe_callB call_isiD (by rfl) m_isinstance (by decide +kernel) (pa_cons (pv 1) (pa_cons (pe_bltn (v := .ty "tuple") (u := .type "tuple") (by rfl) m_tuple (by decide +kernel) rfl) pa_nil)))) (pss_one (ps_set (i := 3) sc__law_odd.nd rfl (.inl rfl) (pe_op op_cat (pv 3) (pe_op op_rep (pe_lstN (pa_cons (pe_callTy call_list_ofN (by rfl) m_list (by decide +kernel) (pa_cons (pv 1) pa_nil)) (pa_cons (pe_slice (r := rSlA K) sl_tupA (pv 1) po_none (po_some (pe_un un_neg pe_int))) (pa_cons (pe_slice (r := rSlA K) sl_tupA (pv 1) (po_some pe_int) po_none) (pa_cons (pe_op (r := rCatA K) op_catA (pv 1) (pe_slice (r := rSlA K) sl_tupA (pv 1) (po_some (pe_un un_neg pe_int)) po_none)) (pa_cons (pe_revT (pv 1)) (pa_cons (pe_op (r := rCatA K) op_catA (pv 1) (pe_tup (pa_cons pe_int pa_nil))) pa_nil))))))) pe_int)))) (pss_one (ps_set (i := 3) sc__law_odd.nd rfl (.inl rfl) (pe_op op_cat (pv 3) (pe_lstN (pa_cons pe_str (pa_cons pe_str (pa_cons pe_str (pa_cons pe_int pa_nil)))))))))))
      (pss_one (ps_ret (pe_kn O hr (by omega) (pa_cons (pv 0) (pa_cons (pv 3) pa_nil))))))), ?_⟩
    have z0 : (0 : Nat) ≤ sizeLine := by decide
    have z1 : (1 : Nat) ≤ sizeLine := by decide
    have wv := Sv.wt
    refine ⟨1, rfl, v, rfl, z1, fun t1 n1 m1 => ?_⟩
    obtain ⟨s1, D1⟩ := new_lst n1 m1 pa (.cons Dv .nil)
    have p1 := pa.keep s1
    have V1 := Dv.same s1
    generalize upd H t1 (.lst [v]) = H1 at s1 D1 p1 V1 ⊢
    refine ⟨v, rfl, z1, fun t2 n2 => ?_⟩
    obtain ⟨s2, D2⟩ := new_tup (n := a) n2 (.cons V1 .nil)
    have p2 := p1.keep s2
    generalize upd H1 t2 (.tup [v]) = H2 at s2 D2 p2 ⊢
    refine fun t3 n3 => ?_
    obtain ⟨s3, D3⟩ := new_dct (n := a) n3
    have p3 := p2.keep s3
    generalize upd H2 t3 (.dK []) = H3 at s3 D3 p3 ⊢
    refine ⟨z0, fun t4 n4 => ?_⟩
    obtain ⟨s4, D4⟩ := new_tup (n := a) n4 .nil
    have p4 := p3.keep s4
    generalize upd H3 t4 (.tup []) = H4 at s4 D4 p4 ⊢
    refine ⟨(show 12 ≤ sizeLine by decide), fun L nL mL => ?_⟩
    obtain ⟨xs, hxs⟩ : ∃ xs, xs = [V.non, .bl true, .bl false, .int (-1), .str "", .str "from", .str "to", .ref t1, .ref t2, .ref t3, .ref t4, .int 0] := ⟨_, rfl⟩
    have A4 : AllD a H4 11000 4 xs := by
      rw [hxs]
      refine .cons .non (Sm.none.mono (by decide) (by decide)) (.cons (.bl _) ((Sm.bool _).mono (by decide) (by decide)) (.cons (.bl _) ((Sm.bool _).mono (by decide) (by decide)) (.cons (.int _) ((Sm.int (by decide)).mono (by decide) (by decide)) (.cons (.str _) ⟨rfl, by decide, by decide +kernel, by decide +kernel⟩ (.cons (.str _) ⟨rfl, by decide, by decide +kernel, by decide +kernel⟩ (.cons (.str _) ⟨rfl, by decide, by decide +kernel, by decide +kernel⟩ (.cons (((D1.same s2).same s3).same s4) (Sm.lst (k := 3) (SmE.one (Sv.mono (Nat.le_refl _) (by decide))) (by simp only [PyData.weightAll]; omega)) (.cons ((D2.same s3).same s4) (Sm.tup (k := 3) (SmE.one (Sv.mono (Nat.le_refl _) (by decide))) (by simp only [PyData.weightAll]; omega)) (.cons (D3.same s4) (Sm.dict0.mono (by decide) (by decide)) (.cons D4 (Sm.tup (k := 3) (fun d hd => absurd hd List.not_mem_nil) (by decide)) (.cons (.int _) ((Sm.int (by decide)).mono (by decide) (by decide)) .nil)))))))))))
    have lx : xs.length = 12 := by rw [hxs]; rfl
    rw [← hxs]
    have s5 := same_new (o := HO.lst xs) nL
    have eL : (upd H4 L (HO.lst xs)) L = some (.lst xs) := upd_same
    have p5 := p4.keep s5
    have A5 := A4.same s5
    generalize upd H4 L (HO.lst xs) = H5 at s5 eL p5 A5 ⊢
    have s05 := (((s1.trans s2).trans s3).trans s4).trans s5
    clear A4 D1 D2 D3 D4 V1
    have V5 := Dv.same s05
    -- what comes last
    have fin : ∀ (H' : Hp) (N : Addr) (ys : List V) (e : Nat), But a H H' → PotAt H' a (c + e) → e ≤ 1 → N ≠ a → H' N = some (.lst ys) → AllD a H' 11000 4 ys → 1 ≤ ys.length → ys.length ≤ 1000 → spOf K [.ref a, .ref N] H' Q E0 := fun H' N ys e b p he ne eN A y1 y2 =>
      ⟨a, N, ys, c + e, rfl, p, ne, .inl (.inl (.inl eN)), y1, by omega, by omega, fun x H2 hx b2 p2' => by
        obtain ⟨d', D', S'⟩ := A x hx
        exact q x d' H2 (b.trans b2) (p2'.mono (by omega)) (da_but D' p b2) S'⟩
    -- two lists put together, the second one twice
    have two : ∀ (H' : Hp) (b : But a H H') (p : PotAt H' a c) (M N : Addr) (ms ns : List V) (Q' : VK), H' M = some (.lst ms) → H' N = some (.lst ns) → ms.length + ns.length ≤ 300000 → (∀ O H'', Same H' H'' → O ≠ a → H'' O = some (.lst (ms ++ ns)) → Q' (.ref O) H'') → rCat (.ref M) (.ref N) H' Q' := fun H' b p M N ms ns Q' eM eN hl hq =>
      ⟨M, N, ms, ns, rfl, rfl, eM, eN, line_of hl, fun O nO => hq O _ (same_new nO) (p.ne nO) upd_same⟩
    rcases hp with ⟨i, rfl, i0, i1⟩ | ⟨z, rfl⟩ | ⟨ds, rfl, ld⟩
    · cases Dv
      have i90 := nat90 (i := i) (by omega) (by omega)
      refine ⟨_, rfl, a, _, _, "int", _, rfl, .int i, kit_int _, _, rfl, iteT ?_⟩
      have hb : ∀ e : Int, (if decide (i < 10 ^ (30 : Int).toNat - 1) = true then (1 : Int) else 0) = e → 0 ≤ i + e ∧ i + e ≤ 10 ^ 30 := fun e he => by
        rw [← he]
        split <;> omega
      refine ⟨_, rfl, _, rfl, _, rfl, 10, 30, rfl, rfl, ⟨by decide, by decide, by decide⟩, _, 1, rfl, rfl, i, _, rfl, rfl, .inr ⟨_, rfl, i, _, rfl, rfl, _, rfl, i, 1, rfl, rfl, _, rfl, i, rfl, log_of i90, (show 3 ≤ sizeLine by decide), fun M nM mM => ?_⟩⟩
      generalize he : (if decide (i < 10 ^ (30 : Int).toNat - 1) = true then (1 : Int) else 0) = ex
      obtain ⟨j0, j1⟩ := hb ex he
      have s6 := same_new (o := HO.lst [V.int (i + ex), .int (i - 1), .str (toString i)]) nM
      have eM : (upd H5 M (HO.lst [V.int (i + ex), .int (i - 1), .str (toString i)])) M = some (HO.lst [V.int (i + ex), .int (i - 1), .str (toString i)]) := upd_same
      have p6 := p5.keep s6
      have A6 : AllD a (upd H5 M (HO.lst [V.int (i + ex), .int (i - 1), .str (toString i)])) 11000 4 [V.int (i + ex), .int (i - 1), .str (toString i)] :=
        .cons (.int _) ((Sm.int (nat90 (by omega) (by omega))).mono (by decide) (by decide)) (.cons (.int _) ((Sm.int (nat90 (by omega) (by omega))).mono (by decide) (by decide)) (.cons (.str _) ((Sm.num i90).mono (by decide) (by decide)) .nil))
      generalize upd H5 M (HO.lst [V.int (i + ex), .int (i - 1), .str (toString i)]) = H6 at s6 eM p6 A6 ⊢
      refine ⟨M, 2, _, rfl, rfl, eM, by decide, by decide, (show 3 * 2 ≤ sizeLine by decide), fun N nN => ?_⟩
      have s7 := same_new (o := HO.lst (List.replicate (2 : Int).toNat [V.int (i + ex), .int (i - 1), .str (toString i)]).flatten) nN
      have eN : (upd H6 N (HO.lst (List.replicate (2 : Int).toNat [V.int (i + ex), .int (i - 1), .str (toString i)]).flatten)) N = some (HO.lst (List.replicate (2 : Int).toNat [V.int (i + ex), .int (i - 1), .str (toString i)]).flatten) := upd_same
      have p7 := p6.keep s7
      have A7 := ((A5.same s6).same s7).app ((A6.same s7).rep (m := (2 : Int).toNat))
      generalize upd H6 N (HO.lst (List.replicate (2 : Int).toNat [V.int (i + ex), .int (i - 1), .str (toString i)]).flatten) = H7 at s7 eN p7 A7 ⊢
      have ll1 : (List.replicate (2 : Int).toNat [V.int (i + ex), .int (i - 1), .str (toString i)]).flatten.length = 6 := rfl
      have s07 := (s05.trans s6).trans s7
      refine two H7 (But.of s07) p7 L N xs _ _ (s7 _ _ (s6 _ _ eL)) eN (by omega) fun O1 H8 s8 nO1 eO1 => ?_
      have A8 := A7.same s8
      have p8 := p7.keep s8
      have s08 := s07.trans s8
      refine ⟨_, rfl, _, rfl, t, _, rfl, .inr (.inl (.inl (s08 _ _ et))), .ref a, rfl, _, rfl, t, _, rfl, .inr (.inl (.inl (s08 _ _ et))), fun R nR => ?_⟩
      have s9 := same_new (o := HO.lst (tops.map V.int)) nR
      have p9 := p8.keep s9
      refine ⟨a, R, _, c, rfl, p9, p8.ne nR, .inl (.inl (.inl upd_same)), by rw [List.length_map]; exact l1, by rw [List.length_map]; omega, by omega, fun x H10 hx b10 p10 => ?_⟩
      obtain ⟨tx, htx, rfl⟩ := List.mem_map.mp hx
      have htp := pl tx htx
      have b010 : But a H H10 := (But.of (s08.trans s9)).trans b10
      have A10 := (A8.same s9).but p9 b10
      have eO10 := b10 _ _ nO1 (s9 _ _ eO1)
      refine ⟨(show 2 ≤ sizeLine by decide), fun S1 nS1 mS1 => ?_⟩
      have s11 := same_new (o := HO.lst [V.int ((tops.map V.int).length : Nat), .int tx]) nS1
      have eS1 : (upd H10 S1 (HO.lst [V.int ((tops.map V.int).length : Nat), .int tx])) S1 = some (HO.lst [V.int ((tops.map V.int).length : Nat), .int tx]) := upd_same
      have p11 := p10.keep s11
      have A11 : AllD a (upd H10 S1 (HO.lst [V.int ((tops.map V.int).length : Nat), .int tx])) 11000 4 [V.int ((tops.map V.int).length : Nat), .int tx] :=
        .cons (.int _) ((Sm.int (by rw [List.length_map]; exact nat90 (by omega) (by omega))).mono (by decide) (by decide)) (.cons (.int _) ((Sm.int (nat90 (by omega) (by omega))).mono (by decide) (by decide)) .nil)
      generalize upd H10 S1 (HO.lst [V.int ((tops.map V.int).length : Nat), .int tx]) = H11 at s11 eS1 p11 A11 ⊢
      refine ⟨S1, 2, _, rfl, rfl, eS1, by decide, by decide, (show 2 * 2 ≤ sizeLine by decide), fun S2 nS2 => ?_⟩
      have s12 := same_new (o := HO.lst (List.replicate (2 : Int).toNat [V.int ((tops.map V.int).length : Nat), .int tx]).flatten) nS2
      have eS2 : (upd H11 S2 (HO.lst (List.replicate (2 : Int).toNat [V.int ((tops.map V.int).length : Nat), .int tx]).flatten)) S2 = some (HO.lst (List.replicate (2 : Int).toNat [V.int ((tops.map V.int).length : Nat), .int tx]).flatten) := upd_same
      have A12 := ((A10.same s11).same s12).app ((A11.same s12).rep (m := (2 : Int).toNat))
      have p12 := p11.keep s12
      have ll2 : (List.replicate (2 : Int).toNat [V.int ((tops.map V.int).length : Nat), V.int tx]).flatten.length = 4 := rfl
      generalize upd H11 S2 (HO.lst (List.replicate (2 : Int).toNat [V.int ((tops.map V.int).length : Nat), .int tx]).flatten) = H12 at s12 eS2 p12 A12 ⊢
      have lO : (xs ++ (List.replicate (2 : Int).toNat [V.int (i + ex), .int (i - 1), .str (toString i)]).flatten).length = 18 := by rw [List.length_append, lx, ll1]
      refine ⟨O1, S2, _, _, rfl, rfl, s12 _ _ (s11 _ _ eO10), eS2, line_of (by omega), fun O2 nO2 => ?_⟩
      have s13 := same_new (o := HO.lst ((xs ++ (List.replicate (2 : Int).toNat [V.int (i + ex), .int (i - 1), .str (toString i)]).flatten) ++ (List.replicate (2 : Int).toNat [V.int ((tops.map V.int).length : Nat), .int tx]).flatten)) nO2
      exact ⟨.ref a, rfl, .ref O2, rfl, fin _ O2 _ 1 ((b010.trans (But.of (s11.trans s12))).trans (But.of s13)) (p12.keep s13) (Nat.le_refl _) (p12.ne nO2) upd_same (A12.same s13) (by rw [List.length_append]; omega) (by rw [List.length_append]; omega)⟩
    · cases Dv
      refine ⟨_, rfl, a, _, _, "int", _, rfl, .str z, kit_int _, _, rfl, iteF ?_⟩
      refine ⟨_, rfl, a, _, _, "tuple", _, rfl, .str z, kit_tup _, _, rfl, iteF ?_⟩
      refine ⟨_, rfl, (show 4 ≤ sizeLine by decide), fun M nM mM => ?_⟩
      have s6 := same_new (o := HO.lst [V.str "From", .str "fro", .str "to ", .int 1]) nM
      have eM : (upd H5 M (HO.lst [V.str "From", .str "fro", .str "to ", .int 1])) M = some (HO.lst [V.str "From", .str "fro", .str "to ", .int 1]) := upd_same
      have p6 := p5.keep s6
      have A6 : AllD a (upd H5 M (HO.lst [V.str "From", .str "fro", .str "to ", .int 1])) 11000 4 (xs ++ [V.str "From", .str "fro", .str "to ", .int 1]) :=
        (A5.same s6).app (.cons (.str _) ⟨rfl, by decide, by decide +kernel, by decide +kernel⟩ (.cons (.str _) ⟨rfl, by decide, by decide +kernel, by decide +kernel⟩ (.cons (.str _) ⟨rfl, by decide, by decide +kernel, by decide +kernel⟩ (.cons (.int _) ((Sm.int (by decide)).mono (by decide) (by decide)) .nil))))
      generalize upd H5 M (HO.lst [V.str "From", .str "fro", .str "to ", .int 1]) = H6 at s6 eM p6 A6 ⊢
      refine two H6 (But.of (s05.trans s6)) p6 L M xs _ _ (s6 _ _ eL) eM (by rw [lx]; decide) fun O1 H8 s8 nO1 eO1 => ?_
      exact ⟨.ref a, rfl, .ref O1, rfl, fin _ O1 _ 0 (But.of ((s05.trans s6).trans s8)) (p6.keep s8) (Nat.zero_le _) nO1 eO1 (A6.same s8) (by rw [List.length_append]; omega) (by rw [List.length_append, lx]; decide)⟩
    · cases Dv with
      | tup e ha =>
      rename_i y ys
      have ll := ha.len
      obtain ⟨kk, hkk, hE, hW⟩ := Sv.of_tup
      have lw := wt_len ds
      have hE' : SmE ds 3 := SmE.mono hE (by omega)
      refine ⟨_, rfl, a, _, _, "int", _, rfl, V5, kit_int _, _, rfl, iteF ?_⟩
      refine ⟨_, rfl, a, _, _, "tuple", _, rfl, V5, kit_tup _, _, rfl, iteT ?_⟩
      have e5 := s05 _ _ e
      have ha5 := ha.same s05
      refine ⟨_, rfl, _, rfl, y, ys, rfl, .inl (.inl e5), fun g1 ng1 mg1 => ?_⟩
      obtain ⟨r1, E1⟩ := new_lst ng1 mg1 p5 ha5
      have p6 := p5.keep r1
      have e6 := r1 _ _ e5
      have ha6 := ha5.same r1
      generalize upd H5 g1 (.lst ys) = G1 at r1 E1 p6 e6 ha6 ⊢
      refine ⟨_, rfl, ?_⟩
      show tNoPart _ _ _
      unfold tNoPart
      refine ⟨1, rfl, _, rfl, cut_butlast e6 (by omega) fun g2 G2 r2 f2 => ?_⟩
      have E2 : Da a G2 (.ref g2) (.tuple (ds.take (ys.length - 1))) := .tup f2 ((ha6.take _).same r2)
      have e7 := r2 _ _ e6
      refine ⟨_, rfl, 1, rfl, ?_⟩
      show rSlA _ _ (some ((1 : Nat) : Int)) none _ _
      refine cut_from e7 (by omega) fun g3 G3 r3 f3 => ?_
      have E3 : Da a G3 (.ref g3) (.tuple (ds.drop 1)) := .tup f3 (((ha6.drop 1).same r2).same r3)
      have e8 := r3 _ _ e7
      refine ⟨_, rfl, _, rfl, 1, rfl, _, rfl, ?_⟩
      show rSlA _ _ (some (-1)) none _ _
      refine cut_last e8 (by omega) fun g4 G4 r4 f4 => ?_
      have e9 := r4 _ _ e8
      refine cat_tups e9 f4 (line_of (by rw [List.length_drop]; omega)) fun g5 G5 r5 f5 => ?_
      have ha9 := (((ha6.same r2).same r3).same r4).same r5
      have E5 : Da a G5 (.ref g5) (.tuple (ds ++ ds.drop (ys.length - 1))) := .tup f5 (ha9.app (ha9.drop _))
      have e10 := r5 _ _ e9
      refine ⟨_, rfl, y, ys, rfl, .inl (.inl e10), fun g6 ng6 => ?_⟩
      obtain ⟨r6, E6⟩ := new_tup (n := a) ng6 (DaAll.rev ha9)
      have e11 := r6 _ _ e10
      have ha11 := ha9.same r6
      generalize upd G5 g6 (.tup ys.reverse) = G6 at r6 E6 e11 ha11 ⊢
      refine ⟨_, rfl, z1, fun g7 ng7 => ?_⟩
      have r7 := same_new (o := HO.tup [V.int 0]) ng7
      have f7 : (upd G6 g7 (HO.tup [V.int 0])) g7 = some (.tup [V.int 0]) := upd_same
      have e12 := r7 _ _ e11
      have ha12 := ha11.same r7
      generalize upd G6 g7 (HO.tup [V.int 0]) = G7 at r7 f7 e12 ha12 ⊢
      refine cat_tups e12 f7 (line_of (by simp only [List.length_cons, List.length_nil]; omega)) fun g8 G8 r8 f8 => ?_
      have E8 : Da a G8 (.ref g8) (.tuple (ds ++ [.int 0])) := .tup f8 ((ha12.same r8).app (.cons (.int 0) .nil))
      have s1a := (r3.trans r4).trans r5
      have s1b := (r6.trans r7).trans r8
      refine ⟨(show 6 ≤ sizeLine by decide), fun M nM mM => ?_⟩
      have r9 := same_new (o := HO.lst [V.ref g1, .ref g2, .ref g3, .ref g5, .ref g6, .ref g8]) nM
      have eM : (upd G8 M (HO.lst [V.ref g1, .ref g2, .ref g3, .ref g5, .ref g6, .ref g8])) M = some (HO.lst [V.ref g1, .ref g2, .ref g3, .ref g5, .ref g6, .ref g8]) := upd_same
      have w1 := wt_two ds (ys.length - 1)
      have w2 := wt_two ds 1
      have B : ∀ {es : List PyData}, SmE es 3 → PyData.weightAll es ≤ 10500 → Sm (.tuple es) 11000 4 := fun h hw => Sm.tup (k := 3) h (by omega)
      have A9 : AllD a (upd G8 M (HO.lst [V.ref g1, .ref g2, .ref g3, .ref g5, .ref g6, .ref g8])) 11000 4 [V.ref g1, .ref g2, .ref g3, .ref g5, .ref g6, .ref g8] := by
        refine AllD.same ?_ r9
        refine .cons (((E1.same r2).same s1a).same s1b) (Sm.lst (k := 3) hE' (by omega)) (.cons ((E2.same s1a).same s1b) (B (SmE.take hE' _) (by omega)) (.cons (((E3.same r4).same r5).same s1b) (B (SmE.drop hE' _) (by omega)) (.cons (E5.same s1b) (B (SmE.app hE' (SmE.drop hE' _)) (by rw [wt_app]; omega)) (.cons ((E6.same r7).same r8) (B (fun d hd => hE' d (List.mem_reverse.mp hd)) (by rw [wt_rev]; omega)) (.cons E8 (B (SmE.app hE' (SmE.one ((Sm.int (by decide)).mono (Nat.le_refl _) (by decide)))) ?_) .nil)))))
        rw [wt_app]
        have : PyData.weightAll [.int 0] ≤ 10 := by decide +kernel
        omega
      have p9 := (((((((p6.keep r2).keep s1a).keep s1b)).keep r9)))
      have A5' := ((((A5.same r1).same r2).same s1a).same s1b).same r9
      have sall := ((((s05.trans r1).trans r2).trans s1a).trans s1b).trans r9
      have eL9 := r9 _ _ (s1b _ _ (s1a _ _ (r2 _ _ (r1 _ _ eL))))
      clear E1 E2 E3 E5 E6 E8
      generalize upd G8 M (HO.lst [V.ref g1, .ref g2, .ref g3, .ref g5, .ref g6, .ref g8]) = G9 at r9 eM A9 p9 A5' sall eL9 ⊢
      refine ⟨M, 2, _, rfl, rfl, eM, by decide, by decide, (show 6 * 2 ≤ sizeLine by decide), fun N nN => ?_⟩
      have r10 := same_new (o := HO.lst (List.replicate (2 : Int).toNat [V.ref g1, .ref g2, .ref g3, .ref g5, .ref g6, .ref g8]).flatten) nN
      have eN : (upd G9 N (HO.lst (List.replicate (2 : Int).toNat [V.ref g1, .ref g2, .ref g3, .ref g5, .ref g6, .ref g8]).flatten)) N = some (HO.lst (List.replicate (2 : Int).toNat [V.ref g1, .ref g2, .ref g3, .ref g5, .ref g6, .ref g8]).flatten) := upd_same
      have A10 := (A5'.same r10).app ((A9.same r10).rep (m := (2 : Int).toNat))
      have p10 := p9.keep r10
      have l10 : (List.replicate (2 : Int).toNat [V.ref g1, .ref g2, .ref g3, .ref g5, .ref g6, .ref g8]).flatten.length = 12 := rfl
      generalize upd G9 N (HO.lst (List.replicate (2 : Int).toNat [V.ref g1, .ref g2, .ref g3, .ref g5, .ref g6, .ref g8]).flatten) = G10 at r10 eN A10 p10 ⊢
      refine two G10 (But.of (sall.trans r10)) p10 L N xs _ _ (r10 _ _ eL9) eN (by omega) fun O1 H8 s8 nO1 eO1 => ?_
      exact ⟨.ref a, rfl, .ref O1, rfl, fin _ O1 _ 0 (But.of ((sall.trans r10).trans s8)) (p10.keep s8) (Nat.zero_le _) nO1 eO1 (A10.same s8) (by rw [List.length_append]; omega) (by rw [List.length_append]; omega)⟩
end
end K02

set_option Elab.async false
set_option linter.all false
set_option maxRecDepth 100000
namespace K02
open PySem PySem.Spec PyProof.Rows L2 NB

/-! ### small tops -/
abbrev aTops : Stmt := topS 30
theorem scTopsL : FnScope ["_law_pot_here", "_law_thing"] ["_law_pot_here"] (defScope aTops) := ⟨rfl, rfl, rfl, by decide +kernel, rfl, by decide +kernel, by decide +kernel⟩
def Few (xs : List Int) : Prop := ∀ x ∈ xs, 0 ≤ x ∧ x ≤ 3
theorem Few.pl {xs : List Int} (h : Few xs) : Pl xs := fun x hx => ⟨(h x hx).1, Int.lt_of_le_of_lt (h x hx).2 (by decide)⟩
theorem tops_mem {x : V} (h : x ∈ [V.int 1, V.int 1, V.int 2, V.int 2, V.int 3, V.int 0]) : ∃ i : Int, x = .int i ∧ 0 ≤ i ∧ i ≤ 3 := by
  simp only [List.mem_cons, List.not_mem_nil, or_false] at h
  rcases h with e | e | e | e | e | e <;> exact ⟨_, e, by decide, by decide⟩
section
variable {P : Program} {w : World} {K : PySem.W.Frag} {mg : Str → Option Value} {base : Heap}
def spTopsL : Sp := fun vs H Q _ => ∃ (a : Addr) (c : Nat), vs = [.ref a] ∧ PotAt H a c ∧ c < 900000 ∧
  ∀ H' p tops, But a H H' → PotAt H' a (c + 5) → H' p = some (.tup (tops.map V.int)) → 1 ≤ tops.length → tops.length ≤ 4 → Few tops → Q (.ref p) H'
theorem ok_topsL {f fT fO : Addr} {fd fdT fdO : FuncData} {k : Nat} (F : Fun K "_law_tops" "_law_tops" aTops f fd) (T : Kn P w K mg base 1 "_law_take" ["_law_pot_here", "_law_many"] spTake fT fdT)
    (O : Kn P w K mg base 2 "_law_of" ["_law_pot_here", "_law_some"] (spOf K) fO fdO) (mr : mg "range" = none) (mt : mg "tuple" = none) : FnOk P w K mg base CX0 (k + 3) f fd ["_law_pot_here"] spTopsL := by
  refine F.ok scTopsL (fun vs H Q E h => ?_) (fun cdv A outer s H vs Q E hr h => ?_)
  · obtain ⟨a, c, rfl, _⟩ := h
    rfl
  · obtain ⟨a, c, rfl, pa, hc, q⟩ := h
    refine ⟨_, pss_one (ps_ret (pe_callTy call_tuple_of (by rfl) mt (by decide +kernel) (pa_cons
      (pe_lc (own := [("_law_thing", 1)]) (g := gName 1) (tt := tYes) (te := tCall (spOf K) [] E0 (tCons (tVar 0) (tCons (tLst (tCons (tC (.int 1)) (tCons (tC (.int 1)) (tCons (tC (.int 2)) (tCons (tC (.int 2)) (tCons (tC (.int 3)) (tCons (tC (.int 0)) tNil))))))) tNil))) rfl scTopsL.nd (pi_range1 (by rfl) mr (pa_cons (pe_op op_add pe_int (pe_kn T hr (by omega) (pa_cons (pv 0) (pa_cons pe_int pa_nil)))) pa_nil)) (blkOk_by (N := ["_law_pot_here", "_law_thing"]) (sc := defScope aTops) (by decide +kernel))
        (fun _ _ _ _ _ => pg_name (i := 1) scTopsL.nd rfl (.inl rfl) (hf := .inr rfl)) (fun _ _ _ _ _ => pts_nil)
        (fun _ _ _ _ _ => pe_kn O hr (by omega) (pa_cons (pv 0) (pa_cons (pe_lst (pa_cons pe_int (pa_cons pe_int (pa_cons pe_int (pa_cons pe_int (pa_cons pe_int (pa_cons pe_int pa_nil))))))) pa_nil)))) pa_nil))), ?_⟩
    refine ⟨.ref a, rfl, a, 4, c, rfl, pa, by decide, by decide, by omega, fun d H1 b1 p1 d0 d1 => ?_⟩
    refine ⟨1, d, rfl, rfl, _, rfl, by omega, by omega, fun D nD => lc_it walk_range (fun i H' => But a H1 H' ∧ PotAt H' a (c + 1 + i) ∧ ∃ ts : List Int, H' D = some (.lst (ts.map V.int)) ∧ ts.length = i ∧ Few ts)
      ⟨but_new (fun _ _ _ e => e) nD, pot_upd p1 (p1.ne nD), [], upd_same, rfl, fun _ h => absurd h List.not_mem_nil⟩ (fun _ _ _ _ => trivial) (fun i v H2 H3 hi p y => ?_) (fun H2 p => ?_)⟩
    · obtain ⟨b2, p2, ts, eD, tl, tp⟩ := p
      obtain ⟨rfl, rfl⟩ := y
      have nDa : D ≠ a := p1.ne nD
      refine ⟨rfl, .ref a, rfl, (show 6 ≤ sizeLine by decide), fun m nm => ?_⟩
      have nma : m ≠ a := p2.ne nm
      refine ⟨a, m, _, _, rfl, pot_upd p2 nma, nma, .inl (.inl (.inl upd_same)), (show 1 ≤ 6 by decide), (show 6 ≤ 1000000 by decide), by omega, fun x H5 hx b5 p5 => ?_⟩
      obtain ⟨n, rfl, n0, n3⟩ := tops_mem hx
      have b35 : But a H3 H5 := fun b o ne e => b5 _ _ ne (same_new nm _ _ e)
      refine ⟨_, b35 _ _ nDa eD, by rw [List.length_map]; exact small1000 (by omega), but_new (b2.trans b35) nD, pot_upd (p5.mono (by omega)) nDa, ts ++ [n], ?_, by rw [List.length_append, tl]; rfl, fun y hy => ?_⟩
      · rw [upd_same, List.map_append]
        rfl
      · rcases List.mem_append.mp hy with h | h
        · exact tp y h
        · rw [List.mem_singleton.mp h]
          exact ⟨n0, n3⟩
    · obtain ⟨b2, p2, ts, eD, tl, tp⟩ := p
      refine ⟨D, _, rfl, .inl ⟨.inl (.inl eD), fun R nR => ?_⟩⟩
      have nRa : R ≠ a := p2.ne nR
      have b02 := b1.trans b2
      exact q _ R ts (but_new b02 (b02.free nRa nR)) (pot_upd (p2.mono (by omega)) nRa) upd_same (by omega) (by omega) tp

end

/-! ### bent, deep -/
def Leaf (d : PyData) : Prop := (∃ i : Int, d = .int i ∧ 0 ≤ i ∧ i < 10 ^ 30) ∨ ∃ z, d = .str z
def Bend (d : PyData) : Prop := Leaf d ∨ ∃ ds, d = .tuple ds ∧ 1 ≤ ds.length ∧ ∀ e ∈ ds, Leaf e
theorem Leaf.plain {d : PyData} (h : Leaf d) : Plain d := by
  rcases h with h | h
  · exact .inl h
  · exact .inr (.inl h)
theorem Bend.plain {d : PyData} (h : Bend d) : Plain d := by
  rcases h with h | ⟨ds, h, l, _⟩
  · exact h.plain
  · exact .inr (.inr ⟨ds, h, l⟩)
theorem dp_at {ds : List PyData} {i : Nat} {d : PyData} (h : ds[i]? = some d) : d.depth < (PyData.tuple ds).depth := by
  have : d.depth ≤ PyData.depthAll ds := ((smE_iff_depth ds _).mp (Nat.le_refl _)) d (List.mem_of_getElem? h)
  simp only [PyData.depth]
  omega
section
variable {P : Program} {w : World} {K : PySem.W.Frag} {mg : Str → Option Value} {base : Heap}
def spBent (k : Nat) : Sp := fun vs H Q _ => ∃ (a t : Addr) (v : V) (d : PyData) (tops : List Int) (c : Nat), vs = [.ref a, v, .ref t] ∧ PotAt H a c ∧ c + 10 * k < 890000 ∧ Da a H v d ∧ Bend d ∧ d.depth < k ∧ Sm d 5000 2 ∧ H t = some (.tup (tops.map V.int)) ∧ 1 ≤ tops.length ∧ tops.length ≤ 12 ∧ Pl tops ∧
  ∀ v' d' H', But a H H' → PotAt H' a (c + 10 * k) → Da a H' v' d' → Sm d' (11000 + 6000 * k) (4 + 2 * k) → Q v' H'
abbrev a__law_bent : Stmt := topS 33
abbrev n__law_bent : List Str := ["_law_pot_here", "_law_thing", "_law_tops_here", "_law_at"]
theorem sc__law_bent : FnScope n__law_bent ["_law_pot_here", "_law_thing", "_law_tops_here"] (defScope a__law_bent) := ⟨rfl, rfl, rfl, by decide +kernel, rfl, by decide +kernel, by decide +kernel⟩
set_option maxHeartbeats 8000000 in
theorem ok__law_bent {f fOd fT fBe : Addr} {fd fdOd fdT fdBe : FuncData} {k : Nat}  (F : Fun K "_law_bent" "_law_bent" a__law_bent f fd) (Od : Kn P w K mg base 3 "_law_odd" ["_law_pot_here", "_law_part", "_law_tops_here"] spOdd fOd fdOd) (T : Kn P w K mg base 1 "_law_take" ["_law_pot_here", "_law_many"] spTake fT fdT) (Be : Kn P w K mg base (k + 3) "_law_bent" ["_law_pot_here", "_law_thing", "_law_tops_here"] (spBent k) fBe fdBe)  (m_isinstance : mg "isinstance" = none) (m_len : mg "len" = none) (m_tuple : mg "tuple" = none) : FnOk P w K mg base CX0 (k + 4) f fd ["_law_pot_here", "_law_thing", "_law_tops_here"] (spBent (k + 1)) := by
  refine F.ok sc__law_bent (fun vs H Q E h => ?_) (fun cdv A outer s H vs Q E hr h => ?_)
  · obtain ⟨a, t, v, d, tops, c, rfl, _⟩ := h
    rfl
  · obtain ⟨a, t, v, d, tops, c, rfl, pa, hc, Dv, hB, dk, Sv, et, l1, l12, pl, q⟩ := h
    refine ⟨_, (pss_cons (ps_if (PW.pt (pw_and (pt_val (pe_callB call_isiD (by rfl) m_isinstance (by decide +kernel) (pa_cons (pv 1) (pa_cons (pe_bltn (v := .ty "tuple") (u := .type "tuple") (by rfl) m_tuple (by decide +kernel) rfl) pa_nil)))) (pw_and (pt_cmpR (op_ne0 (Nat.lt_of_le_of_lt (Nat.le_add_right _ 64) hr.units)) (pv 1) (pe_tup pa_nil) (nomark _)) (pw_and1 (pt_cmpR op_gt (pe_kn T hr (by omega) (pa_cons (pv 0) (pa_cons pe_int pa_nil))) pe_int (nomark _)))))) (pss_cons (ps_set (i := 3) sc__law_bent.nd rfl (.inl rfl) (pe_kn T hr (by omega) (pa_cons (pv 0) (pa_cons (pe_callB call_len_seq (by rfl) m_len (by decide +kernel) (pa_cons (pv 1) pa_nil)) pa_nil))))
      (pss_one (ps_ret (pe_op (r := rCatA K) op_catA (pe_op (r := rCatA K) op_catA (pe_slice (r := rSlA K) sl_tupA (pv 1) po_none (po_some (pv 3))) (pe_tup (pa_cons (pe_kn Be hr (by omega) (pa_cons (pv 0) (pa_cons (pe_ix ix_tup (pv 1) (pv 3) (fun _ _ => rfl)) (pa_cons (pv 2) pa_nil)))) pa_nil))) (pe_slice (r := rSlA K) sl_tupA (pv 1) (po_some (pe_op op_add (pv 3) pe_int)) po_none))))) pss_nil)
      (pss_one (ps_ret (pe_kn Od hr (by omega) (pa_cons (pv 0) (pa_cons (pv 1) (pa_cons (pv 2) pa_nil))))))), ?_⟩
    have z0 : (0 : Nat) ≤ sizeLine := by decide
    have z1 : (1 : Nat) ≤ sizeLine := by decide
    have odd : ∀ (σ : L2.St) (H' : Hp) (e : Nat), σ[0]? = some (some (.ref a)) → σ[1]? = some (some v) → σ[2]? = some (some (.ref t)) → But a H H' → PotAt H' a (c + e) → e ≤ 2 → (tCall spOdd [] E0 (tCons (tVar 0) (tCons (tVar 1) (tCons (tVar 2) tNil)))) σ H' Q := fun σ H' e e0 e1 e2 b' p' he => by
      refine ⟨.ref a, e0, v, e1, .ref t, e2, a, t, v, d, tops, c + e, rfl, p', by omega, da_but Dv pa b', hB.plain, Sv, pa.tup b' et, l1, l12, pl, fun v' d' H2 b2 p2 D2 S2 => ?_⟩
      exact q v' d' H2 (b'.trans b2) (p2.mono (by omega)) D2 (S2.mono (by omega) (by omega))
    rcases tup_or d with ⟨ds, rfl⟩ | hn
    · obtain ⟨lds, hds⟩ : 1 ≤ ds.length ∧ ∀ e ∈ ds, Leaf e := by
        rcases hB with h | ⟨ds', h, l, hl⟩
        · rcases h with ⟨i, h, _⟩ | ⟨z, h⟩ <;> cases h
        · cases h
          exact ⟨l, hl⟩
      have Dv0 := Dv
      cases Dv with
      | tup e ha =>
      rename_i y xs
      have ll := ha.len
      obtain ⟨j, hj, hE, hW⟩ := Sv.of_tup
      have lw := wt_len ds
      refine ⟨_, rfl, a, _, _, "tuple", _, rfl, Dv0, kit_tup _, _, rfl, iteT ⟨_, rfl, z0, fun u nu => ?_⟩⟩
      have sy := same_new (o := HO.tup []) nu
      have ey : (upd H u (HO.tup [])) u = some (.tup []) := upd_same
      have py := pa.keep sy
      have e1 := sy _ _ e
      have ha1 := ha.same sy
      generalize upd H u (HO.tup []) = H1 at sy ey py e1 ha1 ⊢
      have hne : (!xs.isEmpty) = true := by
        cases xs with
        | nil =>
          have : (0 : Nat) = ds.length := ll
          omega
        | cons _ _ => rfl
      refine ⟨y, u, xs, rfl, rfl, .inl (.inl e1), .inl (.inl ey), _, rfl, ?_⟩
      rw [hne]
      refine iteT ⟨.ref a, rfl, a, 5, c, rfl, py, by decide, by decide, by omega, fun z H2 b2 p2 z0' z5 => ⟨z, 0, rfl, rfl, _, rfl, ite2 (fun _ => ?_) (fun _ => ?_)⟩⟩
      · refine ⟨.ref a, rfl, _, rfl, y, xs, rfl, .inr (.inl (.inl (py.tup b2 e1))), a, _, _, rfl, p2, by omega, ?_, by omega, fun at' H3 b3 p3 at0 at1 => ?_⟩
        · exact Int.lt_of_le_of_lt (show (xs.length : Int) ≤ 100000 by omega) (by decide)
        obtain ⟨i, rfl⟩ : ∃ i : Nat, at' = i := ⟨at'.toNat, by omega⟩
        have hi : i < ds.length := by omega
        have hx : i < xs.length := by omega
        have e3 := p2.tup b3 (py.tup b2 e1)
        have ha3 := daAll_but (daAll_but ha1 py b2) p2 b3
        have b03 : But a H H3 := ((But.of sy).trans b2).trans b3
        obtain ⟨di, edi⟩ : ∃ di, ds[i]? = some di := ⟨_, List.getElem?_eq_getElem hi⟩
        have wA := wt_at edi
        have hdi := hE di (List.mem_of_getElem? edi)
        have dl := dp_at edi
        have wd := wt_mem (List.mem_of_getElem? edi)
        refine ⟨_, rfl, ?_⟩
        show tNoPart _ _ _
        unfold tNoPart
        refine ⟨.int i, rfl, i, rfl, cut_to e3 (by omega) fun g1 H4 s4 eg1 => ?_⟩
        have p4 := p3.keep s4
        obtain ⟨dd, ed, Dd⟩ := (ha3.same s4).get i _ (List.getElem?_eq_getElem hx)
        rw [edi] at ed
        cases ed
        refine ⟨.ref a, rfl, _, rfl, .int i, rfl, y, xs, i, _, rfl, rfl, .inl (.inl (s4 _ _ e3)), atI_nat (List.getElem?_eq_getElem hx), .ref t, rfl, a, t, _, di, tops, c + 1 + 1, rfl, p4, by omega, Dd, .inl (hds di (List.mem_of_getElem? edi)), by omega, ⟨hdi.1, by omega, hdi.2.2, by omega⟩, s4 _ _ (pa.tup b03 et), l1, l12, pl, fun v' d' H5 b5 p5 D5 S5 => ⟨z1, fun g2 n2 => ?_⟩⟩
        have s6 := same_new (o := HO.tup [v']) n2
        have eg1' := s6 _ _ (p4.tup b5 eg1)
        refine cat_tups eg1' upd_same (line_of (by simp only [List.length_take, List.length_cons, List.length_nil]; omega)) fun g3 H7 s7 eg3 => ?_
        refine ⟨_, rfl, .int i, rfl, i, 1, rfl, rfl, (i : Int) + 1, by rfl, ?_⟩
        show rSlA _ _ (some ((i : Int) + 1)) none _ _
        have ec : ((i : Int) + 1) = ((i + 1 : Nat) : Int) := by omega
        rw [ec]
        have e7 := s7 _ _ (s6 _ _ (p4.tup b5 (s4 _ _ e3)))
        refine cut_from e7 (by omega) fun g4 H8 s8 eg4 => ?_
        refine cat_tups (s8 _ _ eg3) eg4 (line_of (by simp only [List.length_append, List.length_take, List.length_drop, List.length_cons, List.length_nil]; omega)) fun g5 H9 s9 eg5 => ?_
        have s59 := ((s6.trans s7).trans s8).trans s9
        have ha9 := (daAll_but (ha3.same s4) p4 b5).same s59
        have w5 := S5.wt
        refine q _ (.tuple ((ds.take i ++ [d']) ++ ds.drop (i + 1))) H9 (((b03.trans (But.of s4)).trans b5).trans (But.of s59)) ((p5.keep s59).mono (by omega)) (.tup eg5 (((ha9.take i).app (.cons (D5.same s59) .nil)).app (ha9.drop (i + 1)))) ((Sm.tup (k := 4 + 2 * k) (SmE.app (SmE.app (SmE.mono (SmE.take hE i) (by omega)) (SmE.one S5)) (SmE.mono (SmE.drop hE (i + 1)) (by omega))) (w := 11000 + 6000 * (k + 1)) ?_).mono (Nat.le_refl _) (by omega))
        rw [wt_app, wt_app]
        simp only [PyData.weightAll]
        omega
      · exact odd _ _ 1 rfl rfl rfl ((But.of sy).trans b2) p2 (by decide)
    · refine ⟨_, rfl, a, _, d, "tuple", _, rfl, Dv, kit_tup d, _, rfl, ?_⟩
      rw [hn]
      exact iteF (odd _ _ 0 rfl rfl rfl (fun _ _ _ e => e) pa (by decide))
theorem ok_bentN {f fOd fT : Addr} {fd fdOd fdT : FuncData} (F : Fun K "_law_bent" "_law_bent" a__law_bent f fd) (Od : Kn P w K mg base 3 "_law_odd" ["_law_pot_here", "_law_part", "_law_tops_here"] spOdd fOd fdOd) (T : Kn P w K mg base 1 "_law_take" ["_law_pot_here", "_law_many"] spTake fT fdT)
    (gl : mg "_law_bent" = some (.ref f)) (bi : Binds K fd ["_law_pot_here", "_law_thing", "_law_tops_here"] []) (m_isinstance : mg "isinstance" = none) (m_len : mg "len" = none) (m_tuple : mg "tuple" = none) : ∀ k, FnOk P w K mg base CX0 (k + 3) f fd ["_law_pot_here", "_law_thing", "_law_tops_here"] (spBent k)
  | 0 => by
    refine F.ok sc__law_bent (fun vs H Q E h => ?_) (fun cdv A outer s H vs Q E hr h => ?_)
    · obtain ⟨a, t, v, d, tops, c, rfl, _⟩ := h
      rfl
    · obtain ⟨a, t, v, d, tops, c, rfl, _, _, _, _, dk, _⟩ := h
      exact absurd dk (Nat.not_lt_zero _)
  | k + 1 => ok__law_bent F Od T ⟨ok_bentN F Od T gl bi m_isinstance m_len m_tuple k, gl, F.kp, bi⟩ m_isinstance m_len m_tuple
def spSome (B n w k : Nat) : Sp := fun vs H Q _ => ∃ (a : Addr) (c : Nat), vs = [.ref a] ∧ PotAt H a c ∧ c < B ∧ ∀ v d H', But a H H' → PotAt H' a (c + n) → Da a H' v d → Sm d w k → Q v H'
abbrev a__law_deep : Stmt := topS 34
abbrev n__law_deep : List Str := ["_law_pot_here", "_law_thing", "_law_turn"]
theorem sc__law_deep : FnScope n__law_deep ["_law_pot_here"] (defScope a__law_deep) := ⟨rfl, rfl, rfl, by decide +kernel, rfl, by decide +kernel, by decide +kernel⟩
set_option maxHeartbeats 8000000 in
theorem ok__law_deep {f fO : Addr} {fd fdO : FuncData} {k : Nat}  (F : Fun K "_law_deep" "_law_deep" a__law_deep f fd) (O : Kn P w K mg base 2 "_law_of" ["_law_pot_here", "_law_some"] (spOf K) fO fdO)  (m_range : mg "range" = none) : FnOk P w K mg base CX0 (k + 3) f fd ["_law_pot_here"] (spSome 900000 40 400 30) := by
  refine F.ok sc__law_deep (fun vs H Q E h => ?_) (fun cdv A outer s H vs Q E hr h => ?_)
  · obtain ⟨a, c, rfl, _⟩ := h
    rfl
  · obtain ⟨a, c, rfl, pa, hc, q⟩ := h
    refine ⟨_, (pss_cons (ps_set (i := 1) sc__law_deep.nd rfl (.inl rfl) (pe_kn O hr (by omega) (pa_cons (pv 0) (pa_cons (pe_lstN (pa_cons pe_non (pa_cons pe_int (pa_cons pe_str (pa_cons (pe_tup pa_nil) (pa_cons (pe_tup (pa_cons pe_int (pa_cons pe_str (pa_cons pe_int pa_nil)))) (pa_cons pe_bl pa_nil))))))) pa_nil))))
      (pss_cons (ps_for PassesOwn.never rfl (pi_range1 (by rfl) m_range (pa_cons (pe_kn O hr (by omega) (pa_cons (pv 0) (pa_cons (pe_lstN (pa_cons pe_int (pa_cons pe_int (pa_cons pe_int pa_nil)))) pa_nil))) pa_nil)) (pg_name (i := 2) sc__law_deep.nd rfl (.inl rfl))
        (pss_one (ps_set (i := 1) sc__law_deep.nd rfl (.inl rfl) (pe_kn O hr (by omega) (pa_cons (pv 0) (pa_cons (pe_lstN (pa_cons (pe_tup (pa_cons (pv 1) pa_nil)) (pa_cons (pe_lstN (pa_cons (pv 1) pa_nil)) (pa_cons (pe_tup (pa_cons pe_int (pa_cons pe_str (pa_cons (pv 1) pa_nil)))) (pa_cons (pe_disp (pps_cons pe_str (pv 1) pps_nil) (by rfl) (by rfl) (fun z => by cases z) (by decide)) pa_nil))))) pa_nil))))))
      (pss_one (ps_ret (pv 1))))), ?_⟩
    have z0 : (0 : Nat) ≤ sizeLine := by decide
    have z1 : (1 : Nat) ≤ sizeLine := by decide
    have z3 : (3 : Nat) ≤ sizeLine := by decide
    refine ⟨.ref a, rfl, z0, fun t1 n1 => ?_⟩
    obtain ⟨s1, D1⟩ := new_tup (n := a) n1 .nil
    have p1 := pa.keep s1
    generalize upd H t1 (.tup []) = H1 at s1 D1 p1 ⊢
    refine ⟨z3, fun t2 n2 => ?_⟩
    obtain ⟨s2, D2⟩ := new_tup (n := a) n2 (.cons (.int 0) (.cons (.str "from") (.cons (.int 0) .nil)))
    have p2 := p1.keep s2
    generalize upd H1 t2 (.tup [.int 0, .str "from", .int 0]) = H2 at s2 D2 p2 ⊢
    refine ⟨(show 6 ≤ sizeLine by decide), fun L nL mL => ?_⟩
    have s3 := same_new (o := HO.lst [V.non, .int 0, .str "to", .ref t1, .ref t2, .bl true]) nL
    refine ⟨a, L, _, c, rfl, p2.keep s3, p2.ne nL, .inl (.inl (.inl upd_same)), (show 1 ≤ 6 by decide), (show 6 ≤ 1000000 by decide), by omega, fun x H3 hx b3 p3 => ?_⟩
    have A2 : AllD a H2 20 2 [V.non, .int 0, .str "to", .ref t1, .ref t2, .bl true] :=
      .cons .non (Sm.none.mono (by decide) (by decide)) (.cons (.int _) ⟨by decide +kernel, by decide, by decide +kernel, by decide +kernel⟩ (.cons (.str _) ⟨rfl, by decide, by decide +kernel, by decide +kernel⟩ (.cons (D1.same s2) ⟨rfl, by decide, by decide +kernel, by decide +kernel⟩ (.cons D2 ⟨by decide +kernel, by decide +kernel, by decide +kernel, by decide +kernel⟩ (.cons (.bl _) ((Sm.bool _).mono (by decide) (by decide)) .nil)))))
    have b23 : But a H2 H3 := fun b o ne e => b3 b o ne (s3 _ _ e)
    obtain ⟨dx, Dx, Sx⟩ := (A2.but p2 b23) x hx
    have b03 : But a H H3 := (But.of (s1.trans s2)).trans b23
    clear A2 D1 D2
    refine ⟨.ref a, rfl, z3, fun O nO mO => ?_⟩
    have nOa := p3.ne nO
    refine ⟨a, O, _, _, rfl, pot_upd p3 nOa, nOa, .inl (.inl (.inl upd_same)), (show 1 ≤ 3 by decide), (show 3 ≤ 1000000 by decide), by omega, fun y H4 hy b4 p4 => ?_⟩
    have b34 : But a H3 H4 := fun b o ne e => b4 b o ne (same_new nO _ _ e)
    have hy' : ∃ m : Int, y = .int m ∧ 0 ≤ m ∧ m ≤ 26 := by
      simp only [List.mem_cons, List.not_mem_nil, or_false] at hy
      rcases hy with rfl | rfl | rfl
      · exact ⟨_, rfl, by decide, by decide⟩
      · exact ⟨_, rfl, by decide, by decide⟩
      · exact ⟨_, rfl, by decide, by decide⟩
    obtain ⟨m, rfl, m0, m26⟩ := hy'
    refine ⟨m, rfl, by omega, by omega, for_it walk_range (fun i σ H' => (∃ (v : V) (d : PyData) (u2 : Option V), σ = [some (.ref a), some v, u2] ∧ Da a H' v d ∧ Sm d (20 + 10 * i) (2 + i)) ∧ But a H4 H' ∧ PotAt H' a (c + 1 + 1 + i))
      ⟨⟨x, dx, none, rfl, da_but Dx p3 b34, Sx⟩, (fun _ _ _ e => e), p4⟩ (fun _ _ _ _ _ => trivial) (fun i v σ H5' H5 hi p y => ?_) (fun σ H5 p => ?_)⟩
    · obtain ⟨⟨v', d', u2, rfl, Dv, Sv⟩, b5, p5⟩ := p
      obtain ⟨rfl, rfl⟩ := y
      have i26 : i < 26 := by omega
      have wv := Sv.wt
      refine ⟨.ref a, rfl, v', rfl, z1, fun w1 l1 => ?_⟩
      obtain ⟨f1, F1⟩ := new_tup (n := a) l1 (.cons Dv .nil)
      have g1 := p5.keep f1
      have Dv1 := Dv.same f1
      generalize upd H5 w1 (.tup [v']) = I1 at f1 F1 g1 Dv1 ⊢
      refine ⟨v', rfl, z1, fun w2 l2 e2 => ?_⟩
      obtain ⟨f2, F2⟩ := new_lst l2 e2 g1 (.cons Dv1 .nil)
      have g2 := g1.keep f2
      have Dv2 := Dv1.same f2
      generalize upd I1 w2 (.lst [v']) = I2 at f2 F2 g2 Dv2 ⊢
      refine ⟨v', rfl, z3, fun w3 l3 => ?_⟩
      obtain ⟨f3, F3⟩ := new_tup (n := a) l3 (.cons (.int 0) (.cons (.str "from") (.cons Dv2 .nil)))
      have g3 := g2.keep f3
      have Dv3 := Dv2.same f3
      generalize upd I2 w3 (.tup [.int 0, .str "from", v']) = I3 at f3 F3 g3 Dv3 ⊢
      refine fun w4 l4 => ⟨v', rfl, upd_same, [(Sum.inr "to", v')], rfl, (show 1 ≤ 15 by decide), ?_⟩
      have f4 : Same I3 (upd (upd I3 w4 (.dK [])) w4 (.dK (mergeK [] [(Sum.inr "to", v')]))) := same_over (same_new l4) l4
      have e4 : (upd (upd I3 w4 (.dK [])) w4 (.dK (mergeK [] [(Sum.inr "to", v')]))) w4 = some (.dK [(Sum.inr "to", v')]) := upd_same
      have F4 : Da a (upd (upd I3 w4 (.dK [])) w4 (.dK (mergeK [] [(Sum.inr "to", v')]))) (.ref w4) (.dict [(.str "to", d')]) := .dct e4 (.cons (k := Sum.inr "to") (Dv3.same f4) .nil)
      have g4 := g3.keep f4
      generalize upd (upd I3 w4 (.dK [])) w4 (.dK (mergeK [] [(Sum.inr "to", v')])) = I4 at f4 e4 F4 g4 ⊢
      refine ⟨(show 4 ≤ sizeLine by decide), fun w5 l5 _ => ?_⟩
      have f5 := same_new (o := HO.lst [V.ref w1, .ref w2, .ref w3, .ref w4]) l5
      have sfr : Sm (.str "from") 4 (2 + i) := ⟨rfl, Nat.zero_le _, by decide +kernel, by decide +kernel⟩
      have sto : Sm (.str "to") 2 (2 + i) := ⟨rfl, Nat.zero_le _, by decide +kernel, by decide +kernel⟩
      have si0 : Sm (.int 0) 0 (2 + i) := ⟨by decide +kernel, Nat.zero_le _, by decide +kernel, by decide +kernel⟩
      have A4 : AllD a I4 (20 + 10 * (i + 1)) (2 + (i + 1)) [V.ref w1, .ref w2, .ref w3, .ref w4] := by
        refine .cons (((F1.same f2).same f3).same f4) (Sm.tup (SmE.one Sv) (by simp only [PyData.weightAll]; omega)) (.cons ((F2.same f3).same f4) (Sm.lst (SmE.one Sv) (by simp only [PyData.weightAll]; omega)) (.cons (F3.same f4) (Sm.tup (SmE.app (SmE.one si0) (SmE.app (SmE.one sfr) (SmE.one Sv))) ?_) (.cons F4 ((Sm.dict1 sto Sv).mono (by omega) (by omega)) .nil)))
        have := si0.wt
        have := sfr.wt
        simp only [PyData.weightAll]
        omega
      refine ⟨a, w5, _, _, rfl, g4.keep f5, g4.ne l5, .inl (.inl (.inl upd_same)), (show 1 ≤ 4 by decide), (show 4 ≤ 1000000 by decide), by omega, fun x2 H6 hx2 b6 p6 => ?_⟩
      have b46 : But a I4 H6 := fun b o ne e => b6 b o ne (f5 _ _ e)
      obtain ⟨d2, Dz, Sz⟩ := (A4.but g4 b46) x2 hx2
      exact ⟨⟨x2, d2, _, rfl, Dz, Sz⟩, fun b o ne e => b46 b o ne (f4 _ _ (f3 _ _ (f2 _ _ (f1 _ _ (b5 b o ne e))))), p6.mono (by omega)⟩
    · obtain ⟨⟨v', d', u2, rfl, Dv, Sv⟩, b5, p5⟩ := p
      refine ⟨v', rfl, ?_⟩
      exact q v' d' H5 ((b03.trans b34).trans b5) (p5.mono (by omega)) Dv (Sv.mono (by omega) (by omega))
end
end K02

set_option Elab.async false
set_option linter.all false
set_option maxRecDepth 100000
namespace K02
open PySem PySem.Spec PyProof.Rows L2 NB

/-! ### the law -/
theorem placeD_int (t i : Int) : placeD t (.int i) = (decide (0 ≤ i) && decide (i ≤ t)) := rfl
theorem shows2 (a b : Bool) : Showable (.list [.bool a, .bool b]) := (Small.list (SmallAll.cons (Small.bool a) (SmallAll.cons (Small.bool b) .nil))).ok (by decide) (by decide)
section
variable {P : Program} {w : World} {K : PySem.W.Frag} {mg : Str → Option Value} {base : Heap}
def spRight (C : Addr) : Sp := fun vs H Q _ => ∃ (n x t : Addr) (tops : List Int) (v : V) (d : PyData) (w k : Nat), vs = [.ref x, v] ∧ PlanTo C H x t tops ∧ tops.length ≤ 12 ∧ Da n H v d ∧ Sm d w k ∧ w ≤ 150000 ∧ k ≤ 60 ∧ ∀ H', Same H H' → Q (.bl true) H'
abbrev a__law_right : Stmt := topS 38
abbrev n__law_right : List Str := ["_law_plan", "_law_thing", "_law_kept", "_law_found", "_law_due"]
theorem sc__law_right : FnScope n__law_right ["_law_plan", "_law_thing"] (defScope a__law_right) := ⟨rfl, rfl, rfl, by decide +kernel, rfl, by decide +kernel, by decide +kernel⟩
set_option maxHeartbeats 8000000 in
theorem ok__law_right {f fIs fIt fLs fLt : Addr} {fd fdIs fdIt fdLs fdLt : FuncData}  {C : Addr} (F : Fun K "_law_right" "_law_right" a__law_right f fd) (Is : Kn P w K mg base 4 "is_side" ["plan", "thing"] (spPlanLook C sideD) fIs fdIs) (It : Kn P w K mg base 3 "is_standing" ["plan", "thing"] (spPlanLook C standingD) fIt fdIt) (Ls : Kn P w K mg base 2 "_law_side_due" ["_law_tops_here", "_law_thing"] (spLookT sideD) fLs fdLs) (Lt : Kn P w K mg base 2 "_law_standing_due" ["_law_tops_here", "_law_thing"] (spLookS standingD) fLt fdLt) (T : PlanTxt K mg C) (m_repr : mg "repr" = none) : FnG P w K mg base 5 f fd ["_law_plan", "_law_thing"] (spRight C) := by
  refine fnG F sc__law_right (fun vs H Q E h => ?_) (fun cdv A outer s H vs Q E hG hr h => ?_)
  · obtain ⟨n, x, t, tops, v, d, w, k, rfl, _⟩ := h
    rfl
  · obtain ⟨n, x, t, tops, v, d, w, k, rfl, hP, l12, Dv, Sv, hw, hk, q⟩ := h
    refine ⟨_, (pss_cons (ps_set (i := 2) sc__law_right.nd rfl (.inl rfl) (pe_callB (call_reprA hG hr.units) (by rfl) m_repr (by decide +kernel) (pa_cons (pv 1) pa_nil)))
      (pss_cons (ps_set (i := 3) sc__law_right.nd rfl (.inl rfl) (pe_lst (pa_cons (pe_kn Is hr (by omega) (pa_cons (pv 0) (pa_cons (pv 1) pa_nil))) (pa_cons (pe_kn It hr (by omega) (pa_cons (pv 0) (pa_cons (pv 1) pa_nil))) pa_nil))))
      (pss_cons (ps_set (i := 4) sc__law_right.nd rfl (.inl rfl) (pe_lst (pa_cons (pe_kn Ls hr (by omega) (pa_cons (pe_fld (pv 0) rfl) (pa_cons (pv 1) pa_nil))) (pa_cons (pe_kn Lt hr (by omega) (pa_cons (pe_fld (pv 0) rfl) (pa_cons (pv 1) pa_nil))) pa_nil))))
      (pss_one (ps_ret (pe_and (pe_cmpR op_eq (pe_callB (call_reprD hG hr.units) (by rfl) m_repr (by decide +kernel) (pa_cons (pv 3) pa_nil)) (pe_callB (call_reprD hG hr.units) (by rfl) m_repr (by decide +kernel) (pa_cons (pv 4) pa_nil)) (nomark _)) (pe_one (pe_cmpR op_eq (pe_callB (call_reprA hG hr.units) (by rfl) m_repr (by decide +kernel) (pa_cons (pv 1) pa_nil)) (pv 2) (nomark _))))))))), ?_⟩
    refine ⟨v, rfl, n, v, d, w, k, rfl, Dv, Sv, hw, hk, ?_⟩
    refine ⟨.ref x, rfl, v, rfl, n, x, t, tops, v, d, rfl, hP, l12, Dv, fun H1 s1 => ⟨.ref x, rfl, v, rfl, n, x, t, tops, v, d, rfl, hP.same s1, l12, Dv.same s1, fun H2 s2 => ⟨(show 2 ≤ sizeLine by decide), fun f1 nf1 => ?_⟩⟩⟩
    have s3 := same_new (o := HO.lst [V.bl (sideD tops d), .bl (standingD tops d)]) nf1
    have s03 := (s1.trans s2).trans s3
    have ef : (upd H2 f1 (HO.lst [V.bl (sideD tops d), .bl (standingD tops d)])) f1 = some (.lst [V.bl (sideD tops d), .bl (standingD tops d)]) := upd_same
    generalize upd H2 f1 (HO.lst [V.bl (sideD tops d), .bl (standingD tops d)]) = H3 at s3 s03 ef ⊢
    obtain ⟨dx, R, ex, et⟩ := hP.same s03
    refine ⟨.ref x, rfl, x, C, dx, _, _, rfl, ex, T.cl, T.nT, lookT t R, v, rfl, n, t, tops, v, d, rfl, et, Dv.same s03, fun H4 s4 => ?_⟩
    refine ⟨.ref x, rfl, x, C, dx, _, _, rfl, s4 _ _ ex, T.cl, T.nT, lookT t R, v, rfl, n, t, tops, v, d, rfl, s4 _ _ et, l12, (Dv.same s03).same s4, fun H5 s5 => ⟨(show 2 ≤ sizeLine by decide), fun f2 nf2 => ?_⟩⟩
    have s6 := same_new (o := HO.lst [V.bl (sideD tops d), .bl (standingD tops d)]) nf2
    have e2 : (upd H5 f2 (HO.lst [V.bl (sideD tops d), .bl (standingD tops d)])) f2 = some (.lst [V.bl (sideD tops d), .bl (standingD tops d)]) := upd_same
    have s06 := ((s03.trans s4).trans s5).trans s6
    have e1 := s6 _ _ (s5 _ _ (s4 _ _ ef))
    generalize upd H5 f2 (HO.lst [V.bl (sideD tops d), .bl (standingD tops d)]) = H6 at s6 e2 s06 e1 ⊢
    refine ⟨_, rfl, f1, _, rfl, .lst (.inl (.inl e1)) (.cons (.bl _) (.cons (.bl _) .nil)), shows2 _ _, _, rfl, f2, _, rfl, .lst (.inl (.inl e2)) (.cons (.bl _) (.cons (.bl _) .nil)), shows2 _ _, rfl, _, rfl, ite2 (fun _ => ?_) (fun c => absurd (decide_eq_true rfl) c)⟩
    refine ⟨v, rfl, n, v, d, w, k, rfl, Dv.same s06, Sv, hw, hk, _, rfl, rfl, ?_⟩
    rw [show decide (V.str d.shown = V.str d.shown) = true from decide_eq_true rfl]
    exact q _ s06
def spLaw (K : PySem.W.Frag) : Sp := fun vs H Q _ => ∃ (a : Addr) (ns : List Int), vs = [.ref a] ∧ SqL K H a (ns.map V.int) ∧ ns.length ≤ 63 ∧ ∀ H', Q (.bl true) H'
abbrev a_law : Stmt := topS 39
abbrev n_law : List Str := ["_law_script", "_law_k", "_law_pot_here", "_law_tops_here", "_law_thing", "_law_side", "_law_standing_here", "_law_plan", "_law_turn", "_law_some", "_law_one"]
theorem sc_law : FnScope n_law ["_law_script"] (defScope a_law) := ⟨rfl, rfl, rfl, by decide +kernel, rfl, by decide +kernel, by decide +kernel⟩
set_option maxHeartbeats 8000000 in
theorem ok_law {f fPo fT fO fWt fTp fSt fIs fIt fBe fDe fRi : Addr} {fd fdPo fdT fdO fdWt fdTp fdSt fdIs fdIt fdBe fdDe fdRi : FuncData}  {C f0 e0 : Addr} {fd0 : FuncData} {ds0 : List Value} (F : Fun K "law" "law" a_law f fd) (Po : Kn P w K mg base 1 "_law_pot" ["_law_script", "_law_k"] (spPot K) fPo fdPo) (T : Kn P w K mg base 1 "_law_take" ["_law_pot_here", "_law_many"] spTake fT fdT) (O : Kn P w K mg base 2 "_law_of" ["_law_pot_here", "_law_some"] (spOf K) fO fdO) (Wt : Kn P w K mg base 3 "_law_wide_tops" ["_law_pot_here"] (spWide K) fWt fdWt) (Tp : Kn P w K mg base 3 "_law_tops" ["_law_pot_here"] spTopsL fTp fdTp) (St : Kn P w K mg base 2 "_law_standing" ["_law_pot_here", "_law_tops_here"] (spStand K) fSt fdSt) (Is : Kn P w K mg base 4 "is_side" ["plan", "thing"] (spPlanLook C sideD) fIs fdIs) (It : Kn P w K mg base 3 "is_standing" ["plan", "thing"] (spPlanLook C standingD) fIt fdIt) (Be : Kn P w K mg base 5 "_law_bent" ["_law_pot_here", "_law_thing", "_law_tops_here"] (spBent 2) fBe fdBe) (De : Kn P w K mg base 3 "_law_deep" ["_law_pot_here"] (spSome 900000 40 400 30) fDe fdDe) (Ri : FnG P w K mg base 5 fRi fdRi ["_law_plan", "_law_thing"] (spRight C)) (gRi : mg "_law_right" = some (.ref fRi)) (kRi : PySem.W.keepIn K (.ref fRi) = true) (bRi : Binds K fdRi ["_law_plan", "_law_thing"] []) (X : PlanTxt K mg C) (M : Mk K C f0) (GI : FnOk P w K mg base CX0 7 f0 fd0 ["self", "tops", "rules"] (spInit0 K C)) (bI : Binds K fd0 ["self", "tops", "rules"] ds0) (rd : Vals [V.ref e0] ds0) (hE0 : ∀ H, SqT K H e0 []) (tE0 : ∀ H, TyX K H (.ref e0) (.type "tuple")) (m_all : mg "all" = none) (m_len : mg "len" = none) (m_max : mg "max" = none) (m_min : mg "min" = none) (m_range : mg "range" = none) : FnG P w K mg base 9 f fd ["_law_script"] (spLaw K) := by
  refine fnG F sc_law (fun vs H Q E h => ?_) (fun cdv A outer s H vs Q E hG hr h => ?_)
  · obtain ⟨a, ns, rfl, _⟩ := h
    rfl
  · obtain ⟨a, ns, rfl, hS, hn, q⟩ := h
    refine ⟨_, (pss_cons (ps_for PassesOwn.never rfl (pi_range1 (by rfl) m_range (pa_cons (pe_callB (call_max2 rfl) (by rfl) m_max (by decide +kernel) (pa_cons pe_int (pa_cons (pe_callB (call_min2 rfl) (by rfl) m_min (by decide +kernel) (pa_cons pe_int (pa_cons (pe_callB call_len_seq (by rfl) m_len (by decide +kernel) (pa_cons (pv 0) pa_nil)) pa_nil))) pa_nil))) pa_nil)) (pg_name (i := 1) sc_law.nd rfl (.inl rfl))
        (pss_cons (ps_set (i := 2) sc_law.nd rfl (.inl rfl) (pe_kn Po hr (by omega) (pa_cons (pv 0) (pa_cons (pv 1) pa_nil))))
      (pss_cons (ps_set (i := 3) sc_law.nd rfl (.inl rfl) (pe_ifExp (pt_cmpR op_eq (pe_kn T hr (by omega) (pa_cons (pv 2) (pa_cons pe_int pa_nil))) pe_int (nomark _)) (pe_kn Wt hr (by omega) (pa_cons (pv 2) pa_nil)) (pe_kn Tp hr (by omega) (pa_cons (pv 2) pa_nil))))
      (pss_cons (ps_set (i := 4) sc_law.nd rfl (.inl rfl) (pe_kn T hr (by omega) (pa_cons (pv 2) (pa_cons (pe_callB call_len_seq (by rfl) m_len (by decide +kernel) (pa_cons (pv 3) pa_nil)) pa_nil))))
      (pss_cons (ps_set (i := 5) sc_law.nd rfl (.inl rfl) (pe_tup (pa_cons (pv 4) (pa_cons (pe_kn O hr (by omega) (pa_cons (pv 2) (pa_cons (pe_lstN (pa_cons pe_str (pa_cons pe_str pa_nil))) pa_nil))) (pa_cons (pe_kn T hr (by omega) (pa_cons (pv 2) (pa_cons (pe_op op_add (pe_ix ix_tup (pv 3) (pv 4) (fun _ _ => rfl)) pe_int) pa_nil))) pa_nil)))))
      (pss_cons (ps_asg (pe_tup (pa_cons (pe_kn St hr (by omega) (pa_cons (pv 2) (pa_cons (pv 3) pa_nil))) (pa_cons (pe_make M GI (hr.mono (by omega)) (by rfl) X.mgC bI rd pass0 (pa_cons (pv 3) pa_nil)) pa_nil))) (pg_tup rfl (pgs_cons (pg_name (i := 6) sc_law.nd rfl (.inl rfl)) (pgs_cons (pg_name (i := 7) sc_law.nd rfl (.inr rfl)) pgs_nil))))
      (pss_cons (ps_if (PW.pt (pw_or (pt_not (pt_val (pe_callG hG Ri (hr.mono (by omega)) (by rfl) gRi kRi bRi (pa_cons (pv 7) (pa_cons (pv 5) pa_nil))))) (pw_or1 (pt_not (pt_val (pe_callG hG Ri (hr.mono (by omega)) (by rfl) gRi kRi bRi (pa_cons (pv 7) (pa_cons (pv 6) pa_nil)))))))) (pss_one (ps_ret pe_bl)) pss_nil)
      (pss_cons (ps_if (PW.pt (pw_or (pt_cmpR op_isnotB (pe_kn Is hr (by omega) (pa_cons (pv 7) (pa_cons (pv 5) pa_nil))) pe_bl (nomark _)) (pw_or1 (pt_cmpR op_isnotB (pe_kn It hr (by omega) (pa_cons (pv 7) (pa_cons (pv 6) pa_nil))) pe_bl (nomark _))))) (pss_one (ps_ret pe_bl)) pss_nil)
      (pss_one (ps_for PassesOwn.never rfl (pi_range1 (by rfl) m_range (pa_cons pe_int pa_nil)) (pg_name (i := 8) sc_law.nd rfl (.inl rfl))
        (pss_cons (ps_set (i := 9) sc_law.nd rfl (.inl rfl) (pe_lstN (pa_cons (pe_kn Be hr (by omega) (pa_cons (pv 2) (pa_cons (pv 5) (pa_cons (pv 3) pa_nil)))) (pa_cons (pe_kn Be hr (by omega) (pa_cons (pv 2) (pa_cons (pv 6) (pa_cons (pv 3) pa_nil)))) (pa_cons (pe_kn De hr (by omega) (pa_cons (pv 2) pa_nil)) pa_nil)))))
      (pss_one (ps_if (pt_not (pt_val (pe_callB (cr_all rfl) (by rfl) m_all (by decide +kernel) (pa_cons (
        pe_lc (own := [("_law_one", 10)]) (g := (gName 10)) (tt := tYes) (te := (tCall (spRight C) [] E0 (tCons (tVar 7) (tCons (tVar 10) tNil)))) rfl sc_law.nd (pi_list (pv 9)) (blkOk_by (N := n_law) (sc := defScope a_law) (by decide +kernel))
          (fun _ _ _ _ _ => (pg_name (i := 10) sc_law.nd rfl (.inl rfl) (hf := .inr rfl))) (fun _ _ _ _ _ => pts_nil) (fun _ _ _ _ _ => (pe_callG hG Ri (hr.mono (by omega)) (by rfl) gRi kRi bRi (pa_cons (pv 7) (pa_cons (pv 10) pa_nil))))) pa_nil)))) (pss_one (ps_ret pe_bl)) pss_nil)))))))))))))
      (pss_one (ps_ret pe_bl))), ?_⟩
    have z2 : (2 : Nat) ≤ sizeLine := by decide
    have z3 : (3 : Nat) ≤ sizeLine := by decide
    refine ⟨.ref a, rfl, a, _, rfl, .inl hS, 3, _, rfl, 1, _, rfl, _, rfl, ?_, ?_, for_it walk_range (fun i σ H' => (∃ u1 u2 u3 u4 u5 u6 u7 u8 u9 u10, σ = [some (.ref a), u1, u2, u3, u4, u5, u6, u7, u8, u9, u10]) ∧ Same H H') ⟨⟨none, none, none, none, none, none, none, none, none, none, rfl⟩, Same.refl H⟩ (fun _ _ _ _ _ => trivial) (fun i v σ H0' H0 hi p y => ?_) (fun σ H0 p => q H0)⟩
    · split <;> split <;> omega
    · split <;> split <;> omega
    obtain ⟨⟨u1, u2, u3, u4, u5, u6, u7, u8, u9, u10, rfl⟩, s0⟩ := p
    obtain ⟨rfl, rfl⟩ := y
    have i5 : i < 5 := by
      revert hi
      split <;> split <;> intro hi <;> omega
    refine ⟨.ref a, rfl, _, rfl, a, ns, i, by show [V.ref a, V.int (0 + (i : Int))] = _; rw [Int.zero_add], s0.seq hS, by omega, fun H1 p t1 n1 q1 => ?_⟩
    have s1 := s0.trans t1
    have npH : H p = none := s0.free n1
    refine ⟨.ref p, rfl, p, 2, _, rfl, q1, by decide, by decide, by decide, fun z H2 b2 p2 z0 z1 => ⟨rfl, _, rfl, join2 (A := tCall (spWide K) [] E0 (tCons (tVar 2) tNil) _ _) (B := tCall spTopsL [] E0 (tCons (tVar 2) tNil) _ _) (fun v H' => ∃ t tops, v = .ref t ∧ But p H2 H' ∧ PotAt H' p 70 ∧ H' t = some (.tup (tops.map V.int)) ∧ 1 ≤ tops.length ∧ tops.length ≤ 12 ∧ Pl tops) (fun Q' hq => ?_) (fun Q' hq => ?_) (fun v H3 hR => ?_)⟩⟩
    · exact ⟨.ref p, rfl, p, _, rfl, p2, by decide, fun H3 t tops b3 p3 _ et l2 l12 pl => hq _ _ ⟨t, tops, rfl, b3, p3.mono (by omega), et, by omega, l12, pl⟩⟩
    · exact ⟨.ref p, rfl, p, _, rfl, p2, by decide, fun H3 t tops b3 p3 et l1 l4 fw => hq _ _ ⟨t, tops, rfl, b3, p3.mono (by omega), et, l1, by omega, fw.pl⟩⟩
    obtain ⟨t, tops, rfl, b3, p3, et, l1, l12, pl⟩ := hR
    refine ⟨.ref p, rfl, .ref t, rfl, t, _, rfl, .inr (.inl (.inl et)), p, _, _, rfl, p3, by rw [List.length_map]; omega, ?_, by decide, fun n H4 b4 p4 n0 n1' => ?_⟩
    · rw [List.length_map]
      exact Int.lt_of_le_of_lt (show (tops.length : Int) ≤ 12 by omega) (by decide)
    rw [List.length_map] at n1'
    obtain ⟨n, rfl⟩ : ∃ m : Nat, n = m := ⟨n.toNat, by omega⟩
    have hn' : n < tops.length := by omega
    have et4 := p3.tup b4 et
    refine ⟨.int n, rfl, .ref p, rfl, z2, fun l nl _ => ?_⟩
    have nlp := p4.ne nl
    refine ⟨p, l, _, _, rfl, pot_upd p4 nlp, nlp, .inl (.inl (.inl upd_same)), (show 1 ≤ 2 by decide), (show 2 ≤ 1000000 by decide), by decide, fun x H5 hx b5 p5 => ?_⟩
    have b45 : But p H4 H5 := fun b o ne e => b5 b o ne (same_new nl _ _ e)
    have hx' : ∃ z : Str, x = .str z ∧ wordD (.str z) = true ∧ Sm (.str z) 10 0 := by
      simp only [List.mem_cons, List.not_mem_nil, or_false] at hx
      rcases hx with rfl | rfl
      · exact ⟨_, rfl, by decide +kernel, ⟨rfl, Nat.le_refl _, by decide +kernel, by decide +kernel⟩⟩
      · exact ⟨_, rfl, by decide +kernel, ⟨rfl, Nat.le_refl _, by decide +kernel, by decide +kernel⟩⟩
    obtain ⟨z', rfl, hz, sz⟩ := hx'
    have et5 := p4.tup b45 et4
    have ht := pl tops[n] (List.getElem_mem hn')
    refine ⟨.ref p, rfl, .ref t, rfl, .int n, rfl, t, _, n, _, rfl, rfl, .inl (.inl et5), atI_nat (by rw [List.getElem?_map, List.getElem?_eq_getElem hn']; rfl), _, 1, rfl, rfl, p, _, _, rfl, p5, by omega, ?_, by decide, fun dp H6 b6 p6 d0 d1 => ⟨z3, fun sd nsd => ?_⟩⟩
    · exact Int.lt_of_le_of_lt (show tops[n] + 1 ≤ 10 ^ 30 by omega) (by decide)
    obtain ⟨s7, Dsd⟩ := new_tup (n := p) nsd (.cons (.int (n : Int)) (.cons (.str z') (.cons (.int dp) .nil)))
    have p7 := p6.keep s7
    have et7 := s7 _ _ (p5.tup b6 et5)
    have b07 : But p H1 (upd H6 sd (.tup [.int (n : Int), .str z', .int dp])) := ((((b2.trans b3).trans b4).trans b45).trans b6).trans (But.of s7)
    generalize upd H6 sd (.tup [.int (n : Int), .str z', .int dp]) = H7 at s7 Dsd p7 et7 b07 ⊢
    refine ⟨.ref p, rfl, .ref t, rfl, p, t, tops, _, rfl, p7, .inl (.inl et7), pl, l12, by decide, fun H8 o st b8 p8 no eo lo plo leo => ⟨.ref t, rfl, fun x dx nx ndx nex => ?_⟩⟩
    have et8 := p7.tup b8 et7
    have sm1 : Same H8 (upd (upd H8 dx (.own x)) x (.ins C dx [])) := (same_new ndx).trans (same_new (by rw [upd_ne nex.symm]; exact nx))
    refine ⟨x, dx, t, e0, tops, rfl, upd_same, sm1 _ _ et8, l1, l12, pl, hE0, tE0, fun H9' k9 ex9' => ⟨rfl, z2, fun tt ntt => ⟨tt, _, rfl, .inl (.inl upd_same), rfl, _, _, rfl, _, _, rfl, rfl, ?_⟩⟩⟩
    have s9' : Same H8 H9' := fun b o e => k9 b o (ne_of_none e nx) (sm1 b o e)
    have s10 := same_new (o := HO.tup [V.ref o, .ref x]) ntt
    have s9 := s9'.trans s10
    have ex9 := s10 _ _ ex9'
    generalize upd H9' tt (HO.tup [V.ref o, .ref x]) = H9 at s9 ex9 ⊢
    have et9 := s9 _ _ et8
    have hP : PlanTo C H9 x t tops := ⟨dx, e0, ex9, et9⟩
    have p9 := p8.keep s9
    have D1 : Da p H9 (.ref sd) (.tuple [.int (n : Int), .str z', .int dp]) := (da_but Dsd p7 b8).same s9
    have D2 : Da p H9 (.ref o) (.tuple (st.map PyData.int)) := .tup (s9 _ _ eo) (DaAll.ints st)
    have st90 : ∀ x ∈ st, x.natAbs < 10 ^ 90 := fun x hx => nat90 (by have := (plo x hx).1; omega) (by have := (plo x hx).2; omega)
    have lst : st.length ≤ 12 := by omega
    have S2 : Sm (.tuple (st.map PyData.int)) 5000 2 := (Sm.tup (SmE.ints st90) (wt_ints st90)).mono (by omega) (by decide)
    have sn : Sm (.int (n : Int)) 310 0 := Sm.int (nat90 (by omega) (by omega))
    have sp : Sm (.int dp) 310 0 := Sm.int (nat90 (by omega) (by omega))
    have S1 : Sm (.tuple [.int (n : Int), .str z', .int dp]) 5000 2 := by
      refine (Sm.tup (k := 0) (SmE.app (SmE.one sn) (SmE.app (SmE.one (sz.mono (Nat.le_refl _) (Nat.le_refl _))) (SmE.one sp))) (w := 5000) ?_).mono (Nat.le_refl _) (by decide)
      have := sn.wt
      have := sz.wt
      have := sp.wt
      show PyData.weightAll [.int (n : Int), .str z', .int dp] ≤ 5000
      simp only [PyData.weightAll]
      omega
    have T1 : sideD tops (.tuple [.int (n : Int), .str z', .int dp]) = true := by
      have a1 : placeD ((tops.length : Int) - 1) (.int (n : Int)) = true := by
        rw [placeD_int, decide_eq_true (show (0 : Int) ≤ n by omega), decide_eq_true (show (n : Int) ≤ (tops.length : Int) - 1 by omega)]
        rfl
      have a2 : placeD (tops.getD (natD (.int (n : Int))) 0) (.int dp) = true := by
        rw [show natD (.int (n : Int)) = n from Int.toNat_natCast n, getD_at hn']
        rw [placeD_int, decide_eq_true d0, decide_eq_true (show dp ≤ tops[n] by omega)]
        rfl
      have e : sideD tops (.tuple [.int (n : Int), .str z', .int dp]) = (placeD ((tops.length : Int) - 1) (.int (n : Int)) && (wordD (.str z') && placeD (tops.getD (natD (.int (n : Int))) 0) (.int dp))) := by simp [sideD]
      rw [e, a1, hz, a2]
      rfl
    have T2 : standingD tops (.tuple (st.map PyData.int)) = true := by
      have e : standingD tops (.tuple (st.map PyData.int)) = (decide ((st.map PyData.int).length = tops.length) && (tops.zip (st.map PyData.int)).all fun p => placeD p.1 p.2) := rfl
      rw [e, decide_eq_true (show (st.map PyData.int).length = tops.length by rw [List.length_map]; exact lo), Bool.true_and, List.all_eq_true]
      rintro ⟨tp, d⟩ hm
      obtain ⟨j, hj⟩ := List.getElem?_of_mem hm
      rw [List.getElem?_zip_eq_some] at hj
      obtain ⟨h1, h2⟩ := hj
      obtain ⟨y, hy, rfl⟩ := mapGet h2
      have hy' := plo y (List.mem_of_getElem? hy)
      show placeD tp (.int y) = true
      rw [placeD_int, decide_eq_true hy'.1, decide_eq_true (leo j y tp hy h1)]
      rfl
    refine ⟨.ref x, rfl, _, rfl, p, x, t, tops, _, _, _, _, rfl, hP, l12, D1, S1, by decide, by decide, fun G1 g1 => ⟨true, rfl, iteF ?_⟩⟩
    refine ⟨.ref x, rfl, _, rfl, p, x, t, tops, _, _, _, _, rfl, hP.same g1, l12, D2.same g1, S2, by decide, by decide, fun G2 g2 => ⟨true, rfl, iteF ?_⟩⟩
    have g02 := g1.trans g2
    refine ⟨.ref x, rfl, _, rfl, p, x, t, tops, _, _, rfl, hP.same g02, l12, D1.same g02, fun G3 g3 => ⟨_, true, rfl, rfl, _, rfl, ?_⟩⟩
    rw [T1]
    refine iteF ?_
    have g03 := g02.trans g3
    refine ⟨.ref x, rfl, _, rfl, p, x, t, tops, _, _, rfl, hP.same g03, l12, D2.same g03, fun G4 g4 => ⟨_, true, rfl, rfl, _, rfl, ?_⟩⟩
    rw [T2]
    refine iteF ?_
    have g04 := g03.trans g4
    have b0 : But p H1 G4 := ((b07.trans b8).trans (But.of s9)).trans (But.of g04)
    have p10 := p9.keep g04
    refine ⟨10, rfl, by decide, by decide, for_it walk_range (fun j σ H' => (∃ u8 u9 u10, σ = [some (.ref a), some (.int (0 + (i : Int))), some (.ref p), some (.ref t), some (.int (n : Int)), some (.ref sd), some (.ref o), some (.ref x), u8, u9, u10]) ∧ But p G4 H' ∧ PotAt H' p (200 + 100 * j)) ⟨⟨_, _, _, rfl⟩, (fun _ _ _ e => e), p10.mono (by omega)⟩ (fun _ _ _ _ _ => trivial) (fun j v σ J0' J0 hj zz y => ?_) (fun σ J0 zz => ?_)⟩
    · obtain ⟨⟨u8, u9, u10, rfl⟩, bj, pj⟩ := zz
      obtain ⟨rfl, rfl⟩ := y
      have j10 : j < 10 := hj
      have hPj : ∀ {G G' : Hp} {c : Nat}, PotAt G p c → But p G G' → PlanTo C G x t tops → PlanTo C G' x t tops := fun {G G' c} pp bb h => by
        obtain ⟨dx', R', e1, e2⟩ := h
        obtain ⟨_, _, _, ea, _⟩ := pp
        exact ⟨dx', R', bb _ _ (ne_of e1 ea (by intro z; cases z)) e1, bb _ _ (ne_of e2 ea (by intro z; cases z)) e2⟩
      have Bd1 : Bend (.tuple [.int (n : Int), .str z', .int dp]) := .inr ⟨_, rfl, (show 1 ≤ 3 by decide), fun e he => by
        simp only [List.mem_cons, List.not_mem_nil, or_false] at he
        rcases he with rfl | rfl | rfl
        · exact .inl ⟨_, rfl, by omega, Int.lt_of_le_of_lt (show (n : Int) ≤ 12 by omega) (by decide)⟩
        · exact .inr ⟨_, rfl⟩
        · exact .inl ⟨_, rfl, d0, by omega⟩⟩
      have Bd2 : Bend (.tuple (st.map PyData.int)) := .inr ⟨_, rfl, by rw [List.length_map]; omega, fun e he => by
        obtain ⟨y, hy, rfl⟩ := List.mem_map.mp he
        exact .inl ⟨y, rfl, (plo y hy).1, (plo y hy).2⟩⟩
      have dp1 : (PyData.tuple [.int (n : Int), .str z', .int dp]).depth < 2 := by
        simp only [PyData.depth, PyData.depthAll]
        omega
      have dp2 : (PyData.tuple (st.map PyData.int)).depth < 2 := by
        have := (smE_iff (st.map PyData.int) 0).mp (SmE.ints st90)
        simp only [PyData.depth]
        omega
      have D1j := da_but (D1.same g04) p10 bj
      have D2j := da_but (D2.same g04) p10 bj
      have etj := p10.tup bj (g04 _ _ et9)
      have hP0 := hPj p10 bj (hP.same g04)
      refine ⟨.ref p, rfl, _, rfl, .ref t, rfl, p, t, _, _, tops, _, rfl, pj, by omega, D1j, Bd1, dp1, S1, etj, l1, l12, pl, fun v1 e1 J1 c1 r1 E1 X1 => ?_⟩
      refine ⟨.ref p, rfl, _, rfl, .ref t, rfl, p, t, _, _, tops, _, rfl, r1, by omega, da_but D2j pj c1, Bd2, dp2, S2, pj.tup c1 etj, l1, l12, pl, fun v2 e2 J2 c2 r2 E2 X2 => ?_⟩
      refine ⟨.ref p, rfl, p, _, rfl, r2, by omega, fun v3 e3 J3 c3 r3 E3 X3 => ⟨z3, fun L nL _ => ?_⟩⟩
      have hP3 := hPj r2 c3 (hPj r1 c2 (hPj pj c1 hP0))
      have sL := same_new (o := HO.lst [v1, v2, v3]) nL
      have eL : (upd J3 L (HO.lst [v1, v2, v3])) L = some (.lst [v1, v2, v3]) := upd_same
      have F1 := ((da_but (da_but E1 r1 c2) r2 c3)).same sL
      have F2 := (da_but E2 r2 c3).same sL
      have F3 := E3.same sL
      have hP4 := hP3.same sL
      have r4 := r3.keep sL
      have AL : AllD p (upd J3 L (HO.lst [v1, v2, v3])) 30000 40 [v1, v2, v3] := .cons F1 (X1.mono (by omega) (by omega)) (.cons F2 (X2.mono (by omega) (by omega)) (.cons F3 (X3.mono (by omega) (by omega)) .nil))
      generalize upd J3 L (HO.lst [v1, v2, v3]) = J4 at sL eL F1 F2 F3 hP4 r4 AL ⊢
      refine ⟨.ref L, rfl, L, rfl, ⟨_, .inl (.inl eL)⟩, fun D nD => lc_it (walk_list (xs := [v1, v2, v3])) (fun m H' => Same J4 H' ∧ H' D = some (.lst ((List.replicate m true).map V.bl))) ⟨same_new nD, upd_same⟩ (fun m H' _ pp => .inl (.inl (pp.1 _ _ eL))) (fun m v H1' H2' hm pp y => ?_) (fun H' pp => ?_)⟩
      · obtain ⟨sm, eD⟩ := pp
        obtain ⟨rfl, gv⟩ := y
        obtain ⟨dv, Dv, Sv⟩ := AL v (List.mem_of_getElem? gv)
        have hm3 : m < 3 := hm
        refine ⟨wipe1, .ref x, rfl, v, rfl, p, x, t, tops, v, dv, _, _, rfl, hP4.same sm, l12, Dv.same sm, Sv, by decide, by decide, fun H4' s4' => ⟨_, s4' _ _ eD, by rw [List.length_map, List.length_replicate]; exact small1000 (by omega), same_over (sm.trans s4') nD, ?_⟩⟩
        rw [upd_same, more_true]
      · obtain ⟨sm, eD⟩ := pp
        refine ⟨D, _, rfl, .inl (.inl eD), ?_⟩
        rw [all_true]
        refine ⟨true, rfl, iteF ?_⟩
        exact ⟨⟨_, _, _, rfl⟩, (((bj.trans c1).trans c2).trans c3).trans (But.of (sL.trans sm)), (r4.keep sm).mono (by omega)⟩
    · obtain ⟨⟨u8, u9, u10, rfl⟩, bj, pj⟩ := zz
      exact ⟨⟨_, _, _, _, _, _, _, _, _, _, rfl⟩, fun b o e => bj _ _ (ne_of_none e npH) (b0 _ _ (ne_of_none e npH) (s1 b o e))⟩
end
end K02

set_option Elab.async false
set_option linter.all false
set_option maxRecDepth 100000
namespace K02
open PySem PySem.Spec PyProof.Rows L2 NB
set_option maxHeartbeats 8000000 in
theorem all_mk {l : PySem.W.OpenLaw} {w : World} {K : PySem.W.Frag} {h : Heap} {mg : Str → Option Value} {fa : Addr} (X : K.In h) (G : h.Ns mainGlobals mg) (hfa : mg "law" = some (.ref fa))
    {f1 : Addr} {od1 an1 : Option Addr} {sl1 : Array (Option Value)} {oc1 kV1 dc1 pm1 cd1 ct1 : Value}
    {f2 : Addr} {od2 an2 : Option Addr} {sl2 : Array (Option Value)} {oc2 kV2 dc2 pm2 cd2 ct2 : Value}
    {f3 : Addr} {od3 an3 : Option Addr} {sl3 : Array (Option Value)} {oc3 kV3 dc3 pm3 cd3 ct3 : Value}
    {f4 : Addr} {od4 an4 : Option Addr} {sl4 : Array (Option Value)} {oc4 kV4 dc4 pm4 cd4 ct4 : Value}
    {f5 : Addr} {od5 an5 : Option Addr} {sl5 : Array (Option Value)} {oc5 kV5 dc5 pm5 cd5 ct5 : Value}
    {f6 : Addr} {od6 an6 : Option Addr} {sl6 : Array (Option Value)} {oc6 kV6 dc6 pm6 cd6 ct6 : Value}
    {f7 : Addr} {od7 an7 : Option Addr} {sl7 : Array (Option Value)} {oc7 kV7 dc7 pm7 cd7 ct7 : Value}
    {f8 : Addr} {od8 an8 : Option Addr} {sl8 : Array (Option Value)} {oc8 kV8 dc8 pm8 cd8 ct8 : Value}
    {f9 : Addr} {od9 an9 : Option Addr} {sl9 : Array (Option Value)} {oc9 kV9 dc9 pm9 cd9 ct9 : Value}
    {f10 : Addr} {od10 an10 : Option Addr} {sl10 : Array (Option Value)} {oc10 kV10 dc10 pm10 cd10 ct10 : Value}
    {f11 : Addr} {od11 an11 : Option Addr} {sl11 : Array (Option Value)} {oc11 kV11 dc11 pm11 cd11 ct11 : Value}
    {f12 : Addr} {od12 an12 : Option Addr} {sl12 : Array (Option Value)} {oc12 kV12 dc12 pm12 cd12 ct12 : Value}
    {f13 : Addr} {od13 an13 : Option Addr} {sl13 : Array (Option Value)} {oc13 kV13 dc13 pm13 cd13 ct13 : Value}
    {f14 : Addr} {od14 an14 : Option Addr} {sl14 : Array (Option Value)} {oc14 kV14 dc14 pm14 cd14 ct14 : Value}
    {f15 : Addr} {od15 an15 : Option Addr} {sl15 : Array (Option Value)} {oc15 kV15 dc15 pm15 cd15 ct15 : Value}
    {f16 : Addr} {od16 an16 : Option Addr} {sl16 : Array (Option Value)} {oc16 kV16 dc16 pm16 cd16 ct16 : Value}
    {f17 : Addr} {od17 an17 : Option Addr} {sl17 : Array (Option Value)} {oc17 kV17 dc17 pm17 cd17 ct17 : Value}
    {f18 : Addr} {od18 an18 : Option Addr} {sl18 : Array (Option Value)} {oc18 kV18 dc18 pm18 cd18 ct18 : Value}
    {f19 : Addr} {od19 an19 : Option Addr} {sl19 : Array (Option Value)} {oc19 kV19 dc19 pm19 cd19 ct19 : Value}
    {f20 : Addr} {od20 an20 : Option Addr} {sl20 : Array (Option Value)} {oc20 kV20 dc20 pm20 cd20 ct20 : Value}
    {f21 : Addr} {od21 an21 : Option Addr} {sl21 : Array (Option Value)} {oc21 kV21 dc21 pm21 cd21 ct21 : Value}
    {f22 : Addr} {od22 an22 : Option Addr} {sl22 : Array (Option Value)} {oc22 kV22 dc22 pm22 cd22 ct22 : Value}
    {f23 : Addr} {od23 an23 : Option Addr} {sl23 : Array (Option Value)} {oc23 kV23 dc23 pm23 cd23 ct23 : Value}
    {C f0 Td e0 wa : Addr} {od0 an0 odT odW : Option Addr} {sl0 slT slW : Array (Option Value)} {oc0 kV0 dc0 pm0 cd0 ct0 ocT : Value} {nT nW : Nat} {tk1 tk2 tk3 tk4 tk5 : Tok}
    (a1 : PySem.W.nsIn K mainGlobals "is_whole" = some (some (.ref f1)))
    (l1 : K.lookup f1 = some ⟨oc1, od1, .func (PySem.W.fnOf "is_whole" "is_whole" (defArgs a_is_whole) (defBody a_is_whole) (defScope a_is_whole) .none kV1 dc1 pm1 an1 cd1 ct1), sl1⟩)
    (c1 : PySem.W.codeIn K cd1 "is_whole" = true) (k1 : PySem.W.keepIn K (.ref f1) = true)
    (a2 : PySem.W.nsIn K mainGlobals "is_place" = some (some (.ref f2)))
    (l2 : K.lookup f2 = some ⟨oc2, od2, .func (PySem.W.fnOf "is_place" "is_place" (defArgs a_is_place) (defBody a_is_place) (defScope a_is_place) .none kV2 dc2 pm2 an2 cd2 ct2), sl2⟩)
    (c2 : PySem.W.codeIn K cd2 "is_place" = true) (k2 : PySem.W.keepIn K (.ref f2) = true)
    (a3 : PySem.W.nsIn K mainGlobals "are_tops" = some (some (.ref f3)))
    (l3 : K.lookup f3 = some ⟨oc3, od3, .func (PySem.W.fnOf "are_tops" "are_tops" (defArgs kTops) (defBody kTops) (defScope kTops) .none kV3 dc3 pm3 an3 cd3 ct3), sl3⟩)
    (c3 : PySem.W.codeIn K cd3 "are_tops" = true) (k3 : PySem.W.keepIn K (.ref f3) = true)
    (a4 : PySem.W.nsIn K mainGlobals "is_side_of" = some (some (.ref f4)))
    (l4 : K.lookup f4 = some ⟨oc4, od4, .func (PySem.W.fnOf "is_side_of" "is_side_of" (defArgs a_is_side_of) (defBody a_is_side_of) (defScope a_is_side_of) .none kV4 dc4 pm4 an4 cd4 ct4), sl4⟩)
    (c4 : PySem.W.codeIn K cd4 "is_side_of" = true) (k4 : PySem.W.keepIn K (.ref f4) = true)
    (a5 : PySem.W.nsIn K mainGlobals "are_sides_of" = some (some (.ref f5)))
    (l5 : K.lookup f5 = some ⟨oc5, od5, .func (PySem.W.fnOf "are_sides_of" "are_sides_of" (defArgs kSides) (defBody kSides) (defScope kSides) .none kV5 dc5 pm5 an5 cd5 ct5), sl5⟩)
    (c5 : PySem.W.codeIn K cd5 "are_sides_of" = true) (k5 : PySem.W.keepIn K (.ref f5) = true)
    (a6 : PySem.W.nsIn K mainGlobals "is_rule_of" = some (some (.ref f6)))
    (l6 : K.lookup f6 = some ⟨oc6, od6, .func (PySem.W.fnOf "is_rule_of" "is_rule_of" (defArgs kRule) (defBody kRule) (defScope kRule) .none kV6 dc6 pm6 an6 cd6 ct6), sl6⟩)
    (c6 : PySem.W.codeIn K cd6 "is_rule_of" = true) (k6 : PySem.W.keepIn K (.ref f6) = true)
    (a7 : PySem.W.nsIn K mainGlobals "are_rules_of" = some (some (.ref f7)))
    (l7 : K.lookup f7 = some ⟨oc7, od7, .func (PySem.W.fnOf "are_rules_of" "are_rules_of" (defArgs a_are_rules_of) (defBody a_are_rules_of) (defScope a_are_rules_of) .none kV7 dc7 pm7 an7 cd7 ct7), sl7⟩)
    (c7 : PySem.W.codeIn K cd7 "are_rules_of" = true) (k7 : PySem.W.keepIn K (.ref f7) = true)
    (a8 : PySem.W.nsIn K mainGlobals "is_side" = some (some (.ref f8)))
    (l8 : K.lookup f8 = some ⟨oc8, od8, .func (PySem.W.fnOf "is_side" "is_side" (defArgs a_is_side) (defBody a_is_side) (defScope a_is_side) .none kV8 dc8 pm8 an8 cd8 ct8), sl8⟩)
    (c8 : PySem.W.codeIn K cd8 "is_side" = true) (k8 : PySem.W.keepIn K (.ref f8) = true)
    (a9 : PySem.W.nsIn K mainGlobals "is_standing" = some (some (.ref f9)))
    (l9 : K.lookup f9 = some ⟨oc9, od9, .func (PySem.W.fnOf "is_standing" "is_standing" (defArgs a_is_standing) (defBody a_is_standing) (defScope a_is_standing) .none kV9 dc9 pm9 an9 cd9 ct9), sl9⟩)
    (c9 : PySem.W.codeIn K cd9 "is_standing" = true) (k9 : PySem.W.keepIn K (.ref f9) = true)
    (a10 : PySem.W.nsIn K mainGlobals "_law_pot" = some (some (.ref f10)))
    (l10 : K.lookup f10 = some ⟨oc10, od10, .func (PySem.W.fnOf "_law_pot" "_law_pot" (defArgs sPot) (defBody sPot) (defScope sPot) .none kV10 dc10 pm10 an10 cd10 ct10), sl10⟩)
    (c10 : PySem.W.codeIn K cd10 "_law_pot" = true) (k10 : PySem.W.keepIn K (.ref f10) = true)
    (a11 : PySem.W.nsIn K mainGlobals "_law_take" = some (some (.ref f11)))
    (l11 : K.lookup f11 = some ⟨oc11, od11, .func (PySem.W.fnOf "_law_take" "_law_take" (defArgs sTake) (defBody sTake) (defScope sTake) .none kV11 dc11 pm11 an11 cd11 ct11), sl11⟩)
    (c11 : PySem.W.codeIn K cd11 "_law_take" = true) (k11 : PySem.W.keepIn K (.ref f11) = true)
    (a12 : PySem.W.nsIn K mainGlobals "_law_of" = some (some (.ref f12)))
    (l12 : K.lookup f12 = some ⟨oc12, od12, .func (PySem.W.fnOf "_law_of" "_law_of" (defArgs sOf) (defBody sOf) (defScope sOf) .none kV12 dc12 pm12 an12 cd12 ct12), sl12⟩)
    (c12 : PySem.W.codeIn K cd12 "_law_of" = true) (k12 : PySem.W.keepIn K (.ref f12) = true)
    (a13 : PySem.W.nsIn K mainGlobals "_law_standing" = some (some (.ref f13)))
    (l13 : K.lookup f13 = some ⟨oc13, od13, .func (PySem.W.fnOf "_law_standing" "_law_standing" (defArgs sStand) (defBody sStand) (defScope sStand) .none kV13 dc13 pm13 an13 cd13 ct13), sl13⟩)
    (c13 : PySem.W.codeIn K cd13 "_law_standing" = true) (k13 : PySem.W.keepIn K (.ref f13) = true)
    (a14 : PySem.W.nsIn K mainGlobals "_law_tops" = some (some (.ref f14)))
    (l14 : K.lookup f14 = some ⟨oc14, od14, .func (PySem.W.fnOf "_law_tops" "_law_tops" (defArgs aTops) (defBody aTops) (defScope aTops) .none kV14 dc14 pm14 an14 cd14 ct14), sl14⟩)
    (c14 : PySem.W.codeIn K cd14 "_law_tops" = true) (k14 : PySem.W.keepIn K (.ref f14) = true)
    (a15 : PySem.W.nsIn K mainGlobals "_law_wide_tops" = some (some (.ref f15)))
    (l15 : K.lookup f15 = some ⟨oc15, od15, .func (PySem.W.fnOf "_law_wide_tops" "_law_wide_tops" (defArgs sWide) (defBody sWide) (defScope sWide) .none kV15 dc15 pm15 an15 cd15 ct15), sl15⟩)
    (c15 : PySem.W.codeIn K cd15 "_law_wide_tops" = true) (k15 : PySem.W.keepIn K (.ref f15) = true)
    (a16 : PySem.W.nsIn K mainGlobals "_law_odd" = some (some (.ref f16)))
    (l16 : K.lookup f16 = some ⟨oc16, od16, .func (PySem.W.fnOf "_law_odd" "_law_odd" (defArgs a__law_odd) (defBody a__law_odd) (defScope a__law_odd) .none kV16 dc16 pm16 an16 cd16 ct16), sl16⟩)
    (c16 : PySem.W.codeIn K cd16 "_law_odd" = true) (k16 : PySem.W.keepIn K (.ref f16) = true)
    (a17 : PySem.W.nsIn K mainGlobals "_law_bent" = some (some (.ref f17)))
    (l17 : K.lookup f17 = some ⟨oc17, od17, .func (PySem.W.fnOf "_law_bent" "_law_bent" (defArgs a__law_bent) (defBody a__law_bent) (defScope a__law_bent) .none kV17 dc17 pm17 an17 cd17 ct17), sl17⟩)
    (c17 : PySem.W.codeIn K cd17 "_law_bent" = true) (k17 : PySem.W.keepIn K (.ref f17) = true)
    (a18 : PySem.W.nsIn K mainGlobals "_law_deep" = some (some (.ref f18)))
    (l18 : K.lookup f18 = some ⟨oc18, od18, .func (PySem.W.fnOf "_law_deep" "_law_deep" (defArgs a__law_deep) (defBody a__law_deep) (defScope a__law_deep) .none kV18 dc18 pm18 an18 cd18 ct18), sl18⟩)
    (c18 : PySem.W.codeIn K cd18 "_law_deep" = true) (k18 : PySem.W.keepIn K (.ref f18) = true)
    (a19 : PySem.W.nsIn K mainGlobals "_law_is_number" = some (some (.ref f19)))
    (l19 : K.lookup f19 = some ⟨oc19, od19, .func (PySem.W.fnOf "_law_is_number" "_law_is_number" (defArgs a__law_is_number) (defBody a__law_is_number) (defScope a__law_is_number) .none kV19 dc19 pm19 an19 cd19 ct19), sl19⟩)
    (c19 : PySem.W.codeIn K cd19 "_law_is_number" = true) (k19 : PySem.W.keepIn K (.ref f19) = true)
    (a20 : PySem.W.nsIn K mainGlobals "_law_side_due" = some (some (.ref f20)))
    (l20 : K.lookup f20 = some ⟨oc20, od20, .func (PySem.W.fnOf "_law_side_due" "_law_side_due" (defArgs a__law_side_due) (defBody a__law_side_due) (defScope a__law_side_due) .none kV20 dc20 pm20 an20 cd20 ct20), sl20⟩)
    (c20 : PySem.W.codeIn K cd20 "_law_side_due" = true) (k20 : PySem.W.keepIn K (.ref f20) = true)
    (a21 : PySem.W.nsIn K mainGlobals "_law_standing_due" = some (some (.ref f21)))
    (l21 : K.lookup f21 = some ⟨oc21, od21, .func (PySem.W.fnOf "_law_standing_due" "_law_standing_due" (defArgs a__law_standing_due) (defBody a__law_standing_due) (defScope a__law_standing_due) .none kV21 dc21 pm21 an21 cd21 ct21), sl21⟩)
    (c21 : PySem.W.codeIn K cd21 "_law_standing_due" = true) (k21 : PySem.W.keepIn K (.ref f21) = true)
    (a22 : PySem.W.nsIn K mainGlobals "_law_right" = some (some (.ref f22)))
    (l22 : K.lookup f22 = some ⟨oc22, od22, .func (PySem.W.fnOf "_law_right" "_law_right" (defArgs a__law_right) (defBody a__law_right) (defScope a__law_right) .none kV22 dc22 pm22 an22 cd22 ct22), sl22⟩)
    (c22 : PySem.W.codeIn K cd22 "_law_right" = true) (k22 : PySem.W.keepIn K (.ref f22) = true)
    (a23 : PySem.W.nsIn K mainGlobals "law" = some (some (.ref f23)))
    (l23 : K.lookup f23 = some ⟨oc23, od23, .func (PySem.W.fnOf "law" "law" (defArgs a_law) (defBody a_law) (defScope a_law) .none kV23 dc23 pm23 an23 cd23 ct23), sl23⟩)
    (c23 : PySem.W.codeIn K cd23 "law" = true) (k23 : PySem.W.keepIn K (.ref f23) = true)
    (aC : PySem.W.nsIn K mainGlobals "Plan" = some (some (.ref C))) (aI : PySem.W.findIn K (.ref C) "__init__" = some (some (.ref f0))) (iI : PySem.W.isFn K (.ref f0) = true)
    (lI : K.lookup f0 = some ⟨oc0, od0, .func (PySem.W.fnOf "__init__" "Plan.__init__" (defArgs kInit) (defBody kInit) (defScope kInit) (.ref Td) kV0 dc0 pm0 an0 cd0 ct0), sl0⟩) (cI : PySem.W.codeIn K cd0 "Plan.__init__" = true) (kI : PySem.W.keepIn K (.ref f0) = true)
    (lT : K.lookup Td = some ⟨ocT, odT, .seq #[.ref e0] nT, slT⟩)
    (pg : PySem.W.plainGet K C Str.empty = true) (hd : PySem.W.hasDictIn K C = true) (po : PySem.W.plainOver K C = true) (sa : PySem.W.findIn K (.ref C) "__setattr__" = some (some (.builtin "object.__setattr__"))) (mk : PySem.W.makesIn K C = true) (kc : PySem.W.keepIn K (.ref C) = true)
    (nTo : PySem.W.findIn K (.ref C) "tops" = some none) (nRu : PySem.W.findIn K (.ref C) "rules" = some none)
    (v1 : PySem.W.nsIn K mainGlobals "MOST_THINGS" = some (some (.int 12 tk1))) (v2 : PySem.W.nsIn K mainGlobals "MOST_RULES" = some (some (.int 40 tk2))) (v3 : PySem.W.nsIn K mainGlobals "BEYOND_THIRTY_FIGURES" = some (some (.int 1000000000000000000000000000000 tk3)))
    (v4 : PySem.W.nsIn K mainGlobals "WORDS" = some (some (.ref wa))) (v5 : K.lookup wa = some ⟨.type "tuple", odW, .seq #[.str "from" tk4, .str "to" tk5] nW, slW⟩)
    {odE0 : Option Addr} {slE0 : Array (Option Value)} {nE0 : Nat} (lE0 : K.lookup e0 = some ⟨.type "tuple", odE0, .seq #[] nE0, slE0⟩)
    (z1 : PySem.W.nsIn K mainGlobals "abs" = some none)
    (z2 : PySem.W.nsIn K mainGlobals "all" = some none)
    (z3 : PySem.W.nsIn K mainGlobals "bool" = some none)
    (z4 : PySem.W.nsIn K mainGlobals "int" = some none)
    (z5 : PySem.W.nsIn K mainGlobals "isinstance" = some none)
    (z6 : PySem.W.nsIn K mainGlobals "len" = some none)
    (z7 : PySem.W.nsIn K mainGlobals "list" = some none)
    (z8 : PySem.W.nsIn K mainGlobals "max" = some none)
    (z9 : PySem.W.nsIn K mainGlobals "min" = some none)
    (z10 : PySem.W.nsIn K mainGlobals "range" = some none)
    (z11 : PySem.W.nsIn K mainGlobals "repr" = some none)
    (z12 : PySem.W.nsIn K mainGlobals "str" = some none)
    (z13 : PySem.W.nsIn K mainGlobals "tuple" = some none)
    (z14 : PySem.W.nsIn K mainGlobals "zip" = some none)
    : ∃ fd : FuncData, (∀ (s : Shared) (v : Value), BindsTo s fd ⟨[v], []⟩ [("_law_script", v)]) ∧ ∀ base : Heap, K.In base → base.Ns mainGlobals mg → FnG l.prog w K mg base 9 fa fd ["_law_script"] (spLaw K) := by
  have e := hfa.symm.trans (PySem.W.mg_of X G a23)
  cases e
  have F1 := fun_mk (st := a_is_whole) l1 c1 k1
  have b1 := F1.binds (ps := ["thing"]) fun _ _ _ _ _ _ us hl => match us, hl with | [_], _ => rfl
  have g1 := PySem.W.mg_of X G a1
  have F2 := fun_mk (st := a_is_place) l2 c2 k2
  have b2 := F2.binds (ps := ["top", "thing"]) fun _ _ _ _ _ _ us hl => match us, hl with | [_, _], _ => rfl
  have g2 := PySem.W.mg_of X G a2
  have F3 := fun_mk (st := kTops) l3 c3 k3
  have b3 := F3.binds (ps := ["thing"]) fun _ _ _ _ _ _ us hl => match us, hl with | [_], _ => rfl
  have g3 := PySem.W.mg_of X G a3
  have F4 := fun_mk (st := a_is_side_of) l4 c4 k4
  have b4 := F4.binds (ps := ["tops", "thing"]) fun _ _ _ _ _ _ us hl => match us, hl with | [_, _], _ => rfl
  have g4 := PySem.W.mg_of X G a4
  have F5 := fun_mk (st := kSides) l5 c5 k5
  have b5 := F5.binds (ps := ["tops", "thing"]) fun _ _ _ _ _ _ us hl => match us, hl with | [_, _], _ => rfl
  have g5 := PySem.W.mg_of X G a5
  have F6 := fun_mk (st := kRule) l6 c6 k6
  have b6 := F6.binds (ps := ["tops", "thing"]) fun _ _ _ _ _ _ us hl => match us, hl with | [_, _], _ => rfl
  have g6 := PySem.W.mg_of X G a6
  have F7 := fun_mk (st := a_are_rules_of) l7 c7 k7
  have b7 := F7.binds (ps := ["tops", "thing"]) fun _ _ _ _ _ _ us hl => match us, hl with | [_, _], _ => rfl
  have g7 := PySem.W.mg_of X G a7
  have F8 := fun_mk (st := a_is_side) l8 c8 k8
  have b8 := F8.binds (ps := ["plan", "thing"]) fun _ _ _ _ _ _ us hl => match us, hl with | [_, _], _ => rfl
  have g8 := PySem.W.mg_of X G a8
  have F9 := fun_mk (st := a_is_standing) l9 c9 k9
  have b9 := F9.binds (ps := ["plan", "thing"]) fun _ _ _ _ _ _ us hl => match us, hl with | [_, _], _ => rfl
  have g9 := PySem.W.mg_of X G a9
  have F10 := fun_mk (st := sPot) l10 c10 k10
  have b10 := F10.binds (ps := ["_law_script", "_law_k"]) fun _ _ _ _ _ _ us hl => match us, hl with | [_, _], _ => rfl
  have g10 := PySem.W.mg_of X G a10
  have F11 := fun_mk (st := sTake) l11 c11 k11
  have b11 := F11.binds (ps := ["_law_pot_here", "_law_many"]) fun _ _ _ _ _ _ us hl => match us, hl with | [_, _], _ => rfl
  have g11 := PySem.W.mg_of X G a11
  have F12 := fun_mk (st := sOf) l12 c12 k12
  have b12 := F12.binds (ps := ["_law_pot_here", "_law_some"]) fun _ _ _ _ _ _ us hl => match us, hl with | [_, _], _ => rfl
  have g12 := PySem.W.mg_of X G a12
  have F13 := fun_mk (st := sStand) l13 c13 k13
  have b13 := F13.binds (ps := ["_law_pot_here", "_law_tops_here"]) fun _ _ _ _ _ _ us hl => match us, hl with | [_, _], _ => rfl
  have g13 := PySem.W.mg_of X G a13
  have F14 := fun_mk (st := aTops) l14 c14 k14
  have b14 := F14.binds (ps := ["_law_pot_here"]) fun _ _ _ _ _ _ us hl => match us, hl with | [_], _ => rfl
  have g14 := PySem.W.mg_of X G a14
  have F15 := fun_mk (st := sWide) l15 c15 k15
  have b15 := F15.binds (ps := ["_law_pot_here"]) fun _ _ _ _ _ _ us hl => match us, hl with | [_], _ => rfl
  have g15 := PySem.W.mg_of X G a15
  have F16 := fun_mk (st := a__law_odd) l16 c16 k16
  have b16 := F16.binds (ps := ["_law_pot_here", "_law_part", "_law_tops_here"]) fun _ _ _ _ _ _ us hl => match us, hl with | [_, _, _], _ => rfl
  have g16 := PySem.W.mg_of X G a16
  have F17 := fun_mk (st := a__law_bent) l17 c17 k17
  have b17 := F17.binds (ps := ["_law_pot_here", "_law_thing", "_law_tops_here"]) fun _ _ _ _ _ _ us hl => match us, hl with | [_, _, _], _ => rfl
  have g17 := PySem.W.mg_of X G a17
  have F18 := fun_mk (st := a__law_deep) l18 c18 k18
  have b18 := F18.binds (ps := ["_law_pot_here"]) fun _ _ _ _ _ _ us hl => match us, hl with | [_], _ => rfl
  have g18 := PySem.W.mg_of X G a18
  have F19 := fun_mk (st := a__law_is_number) l19 c19 k19
  have b19 := F19.binds (ps := ["_law_thing", "_law_high"]) fun _ _ _ _ _ _ us hl => match us, hl with | [_, _], _ => rfl
  have g19 := PySem.W.mg_of X G a19
  have F20 := fun_mk (st := a__law_side_due) l20 c20 k20
  have b20 := F20.binds (ps := ["_law_tops_here", "_law_thing"]) fun _ _ _ _ _ _ us hl => match us, hl with | [_, _], _ => rfl
  have g20 := PySem.W.mg_of X G a20
  have F21 := fun_mk (st := a__law_standing_due) l21 c21 k21
  have b21 := F21.binds (ps := ["_law_tops_here", "_law_thing"]) fun _ _ _ _ _ _ us hl => match us, hl with | [_, _], _ => rfl
  have g21 := PySem.W.mg_of X G a21
  have F22 := fun_mk (st := a__law_right) l22 c22 k22
  have b22 := F22.binds (ps := ["_law_plan", "_law_thing"]) fun _ _ _ _ _ _ us hl => match us, hl with | [_, _], _ => rfl
  have g22 := PySem.W.mg_of X G a22
  have F23 := fun_mk (st := a_law) l23 c23 k23
  have m1 := PySem.W.mg_none_of X G z1
  have m2 := PySem.W.mg_none_of X G z2
  have m3 := PySem.W.mg_none_of X G z3
  have m4 := PySem.W.mg_none_of X G z4
  have m5 := PySem.W.mg_none_of X G z5
  have m6 := PySem.W.mg_none_of X G z6
  have m7 := PySem.W.mg_none_of X G z7
  have m8 := PySem.W.mg_none_of X G z8
  have m9 := PySem.W.mg_none_of X G z9
  have m10 := PySem.W.mg_none_of X G z10
  have m11 := PySem.W.mg_none_of X G z11
  have m12 := PySem.W.mg_none_of X G z12
  have m13 := PySem.W.mg_none_of X G z13
  have m14 := PySem.W.mg_none_of X G z14
  have TX : PlanTxt K mg C := ⟨⟨pg, hd, po, sa⟩, nTo, nRu, PySem.W.mg_of X G aC⟩
  have MK : Mk K C f0 := ⟨mk, aI, iI, kc⟩
  have FD : FunD K "__init__" "Plan.__init__" (defArgs kInit) (defBody kInit) (defScope kInit) [V.ref e0] [] f0 (PySem.W.fnOf "__init__" "Plan.__init__" (defArgs kInit) (defBody kInit) (defScope kInit) (.ref Td) kV0 dc0 pm0 an0 cd0 ct0) :=
    ⟨⟨oc0, od0, .ref Td, kV0, dc0, pm0, an0, cd0, ct0, sl0, rfl, lI, cI, .inr ⟨by simp, Td, _, [.ref e0], nT, rfl, lT, rfl, .cons rfl .nil⟩, .inl rfl⟩, kI⟩
  obtain ⟨ds, rds, bI⟩ := FD.binds1 (ps := ["self", "tops", "rules"]) 3 1 (by simp) rfl fun T kV doc pm an cdv ct us its h1 h2 => match us, its, h1, h2 with | [_, _, _], [_], _, _ => ⟨_, rfl, rfl⟩
  cases rds
  have hW : ∀ H, SqT K H wa [.str "from", .str "to"] := fun H => .inr ⟨_, _, _, v5, rfl, rfl, (show 2 ≤ sizeLine by decide), .cons ⟨_, rfl⟩ (.cons ⟨_, rfl⟩ .nil)⟩
  have gv1 := PySem.W.mg_of X G v1
  have gv2 := PySem.W.mg_of X G v2
  have gv3 := PySem.W.mg_of X G v3
  have gv4 := PySem.W.mg_of X G v4
  have hE0 : ∀ H, SqT K H e0 [] := fun H => .inr ⟨_, _, _, lE0, rfl, rfl, Nat.zero_le _, .nil⟩
  have tE0 : ∀ H, TyX K H (.ref e0) (.type "tuple") := fun H => .kTuple lE0 rfl
  obtain ⟨ds0, rds0, bI0⟩ := FD.binds1 (ps := ["self", "tops", "rules"]) 2 0 (by simp) rfl fun T kV doc pm an cdv ct us its h1 h2 => match us, its, h1, h2 with | [_, _], [_], _, _ => ⟨_, rfl, rfl⟩
  refine ⟨PySem.W.fnOf "law" "law" (defArgs a_law) (defBody a_law) (defScope a_law) .none kV23 dc23 pm23 an23 cd23 ct23, fun s v => .of_eq rfl, fun base _ _ => ?_⟩
  have K_is_whole := Kn.mk (x := "is_whole") (base := base) (w := w) (P := l.prog) (ok_is_whole (k := 0) F1 m3 m4 m5) g1 F1.kp b1
  have K_is_place := Kn.mk (x := "is_place") (base := base) (w := w) (P := l.prog) (ok_is_place (k := 0) F2 K_is_whole) g2 F2.kp b2
  have Kwh := Kn.mk (x := "is_whole") (base := base) (w := w) (P := l.prog) (ok_whole (k := 0) F1 m5 m4 m3) g1 F1.kp b1
  have Kpl := Kn.mk (x := "is_place") (base := base) (w := w) (P := l.prog) (ok_place (k := 0) F2 Kwh) g2 F2.kp b2
  have Kto := Kn.mk (x := "are_tops") (base := base) (w := w) (P := l.prog) (ok_tops (k := 0) F3 Kpl m5 m13 m6 m2 gv1 gv3) g3 F3.kp b3
  have K_are_tops := Kto
  have K_is_side_of := Kn.mk (x := "is_side_of") (base := base) (w := w) (P := l.prog) (ok_is_side_of (k := 0) F4 K_is_place gv4 hW m5 m6 m12 m13) g4 F4.kp b4
  have Ksi := Kn.mk (x := "is_side_of") (base := base) (w := w) (P := l.prog) (ok_side (k := 0) F4 Kpl m5 m13 m6 m12 gv4 hW) g4 F4.kp b4
  have Kss := Kn.mk (x := "are_sides_of") (base := base) (w := w) (P := l.prog) (ok_sides (k := 0) F5 Ksi m5 m13 m2) g5 F5.kp b5
  have K_are_sides_of := Kss
  have Kru := Kn.mk (x := "is_rule_of") (base := base) (w := w) (P := l.prog) (ok_rule (k := 0) F6 Kss m6) g6 F6.kp b6
  have K_is_rule_of := Kru
  have K_are_rules_of := Kn.mk (x := "are_rules_of") (base := base) (w := w) (P := l.prog) (ok_are_rules_of (k := 0) F7 Kru gv2 m2 m5 m6 m13) g7 F7.kp b7
  have K_is_side := Kn.mk (x := "is_side") (base := base) (w := w) (P := l.prog) (ok_is_side (k := 0) F8 K_is_side_of TX) g8 F8.kp b8
  have K_is_standing := Kn.mk (x := "is_standing") (base := base) (w := w) (P := l.prog) (ok_is_standing (k := 0) F9 K_is_place TX m2 m5 m6 m13 m14) g9 F9.kp b9
  have Kpot := Kn.mk (x := "_law_pot") (base := base) (w := w) (P := l.prog) (ok_pot (k := 0) F10 m6 m1 m4) g10 F10.kp b10
  have K__law_pot := Kpot
  have Ktake := Kn.mk (x := "_law_take") (base := base) (w := w) (P := l.prog) (ok_take (k := 0) F11) g11 F11.kp b11
  have K__law_take := Ktake
  have Kof := Kn.mk (x := "_law_of") (base := base) (w := w) (P := l.prog) (ok_of (k := 0) F12 Ktake m6) g12 F12.kp b12
  have K__law_of := Kof
  have Kst := Kn.mk (x := "_law_standing") (base := base) (w := w) (P := l.prog) (ok_stand (k := 0) F13 Ktake m13) g13 F13.kp b13
  have K__law_standing := Kst
  have Ktp := Kn.mk (x := "_law_tops") (base := base) (w := w) (P := l.prog) (ok_topsL (k := 0) F14 Ktake Kof m10 m13) g14 F14.kp b14
  have K__law_tops := Ktp
  have Kw := Kn.mk (x := "_law_wide_tops") (base := base) (w := w) (P := l.prog) (ok_wide (k := 0) F15 Ktake Kof m10 m13) g15 F15.kp b15
  have K__law_wide_tops := Kw
  have K__law_odd := Kn.mk (x := "_law_odd") (base := base) (w := w) (P := l.prog) (ok__law_odd (k := 0) F16 K__law_of m4 m5 m6 m7 m12 m13) g16 F16.kp b16
  have K__law_bent := Kn.mk (x := "_law_bent") (base := base) (w := w) (P := l.prog) (ok_bentN F17 K__law_odd K__law_take g17 b17 m5 m6 m13 2) g17 F17.kp b17
  have K__law_deep := Kn.mk (x := "_law_deep") (base := base) (w := w) (P := l.prog) (ok__law_deep (k := 0) F18 K__law_of m10) g18 F18.kp b18
  have K__law_is_number := Kn.mk (x := "_law_is_number") (base := base) (w := w) (P := l.prog) (ok__law_is_number (k := 0) F19 m3 m4 m5) g19 F19.kp b19
  have K__law_side_due := Kn.mk (x := "_law_side_due") (base := base) (w := w) (P := l.prog) (ok__law_side_due (k := 0) F20 K__law_is_number m5 m6 m12 m13) g20 F20.kp b20
  have K__law_standing_due := Kn.mk (x := "_law_standing_due") (base := base) (w := w) (P := l.prog) (ok__law_standing_due (k := 0) F21 K__law_is_number m2 m5 m6 m13 m14) g21 F21.kp b21
  have K__law_right := ok__law_right F22 K_is_side K_is_standing K__law_side_due K__law_standing_due TX m11
  have GI0 := ok_init0 (P := l.prog) (w := w) (base := base) (k := 0) FD TX Kto K_are_rules_of
  exact ok_law F23 K__law_pot K__law_take K__law_of K__law_wide_tops K__law_tops K__law_standing K_is_side K_is_standing K__law_bent K__law_deep K__law_right g22 F22.kp b22 TX MK GI0 bI0 rds0 hE0 tE0 m2 m6 m8 m9 m10
end K02
open PySem PySem.W PyProof.Rows
set_option maxHeartbeats 0 in
theorem PySem.Challenge.cw_notbothout_k02_sides_and_standings_of_an_holds : PySem.Challenge.rw_notbothout_k02_sides_and_standings_of_an.Holds := by
  w_on; o_law; k_head; (case hw => w_witness2)
  k_fill
  refine NB.walkG (l := PySem.Challenge.rw_notbothout_k02_sides_and_standings_of_an) (n := 63) (k := 9) (x := "_law_script") (sp := fun w => K02.spLaw _) rfl (by decide) rfl ⟨rfl, by decide, by decide⟩ (fun w h Y => PySem.W.kIn_of Y) ?F (fun _ _ a ns hl hS => ⟨a, ns, rfl, hS, hl, fun _ => rfl⟩)
  case F =>
    intro w mg fa h KX G hmg
    refine' K02.all_mk KX G hmg ?a1 ?l1 ?c1 ?k1 ?a2 ?l2 ?c2 ?k2 ?a3 ?l3 ?c3 ?k3 ?a4 ?l4 ?c4 ?k4 ?a5 ?l5 ?c5 ?k5 ?a6 ?l6 ?c6 ?k6 ?a7 ?l7 ?c7 ?k7 ?a8 ?l8 ?c8 ?k8 ?a9 ?l9 ?c9 ?k9 ?a10 ?l10 ?c10 ?k10 ?a11 ?l11 ?c11 ?k11 ?a12 ?l12 ?c12 ?k12 ?a13 ?l13 ?c13 ?k13 ?a14 ?l14 ?c14 ?k14 ?a15 ?l15 ?c15 ?k15 ?a16 ?l16 ?c16 ?k16 ?a17 ?l17 ?c17 ?k17 ?a18 ?l18 ?c18 ?k18 ?a19 ?l19 ?c19 ?k19 ?a20 ?l20 ?c20 ?k20 ?a21 ?l21 ?c21 ?k21 ?a22 ?l22 ?c22 ?k22 ?a23 ?l23 ?c23 ?k23 ?aC ?aI ?iI ?lI ?cI ?kI ?lT ?pg ?hd ?po ?sa ?mk ?kc ?nTo ?nRu ?v1 ?v2 ?v3 ?v4 ?v5 ?lE0 ?z1 ?z2 ?z3 ?z4 ?z5 ?z6 ?z7 ?z8 ?z9 ?z10 ?z11 ?z12 ?z13 ?z14
    (case a1 => k_is)
    (case l1 => k_is)
    (case c1 => k_is)
    (case k1 => k_is)
    (case a2 => k_is)
    (case l2 => k_is)
    (case c2 => k_is)
    (case k2 => k_is)
    (case a3 => k_is)
    (case l3 => k_is)
    (case c3 => k_is)
    (case k3 => k_is)
    (case a4 => k_is)
    (case l4 => k_is)
    (case c4 => k_is)
    (case k4 => k_is)
    (case a5 => k_is)
    (case l5 => k_is)
    (case c5 => k_is)
    (case k5 => k_is)
    (case a6 => k_is)
    (case l6 => k_is)
    (case c6 => k_is)
    (case k6 => k_is)
    (case a7 => k_is)
    (case l7 => k_is)
    (case c7 => k_is)
    (case k7 => k_is)
    (case a8 => k_is)
    (case l8 => k_is)
    (case c8 => k_is)
    (case k8 => k_is)
    (case a9 => k_is)
    (case l9 => k_is)
    (case c9 => k_is)
    (case k9 => k_is)
    (case a10 => k_is)
    (case l10 => k_is)
    (case c10 => k_is)
    (case k10 => k_is)
    (case a11 => k_is)
    (case l11 => k_is)
    (case c11 => k_is)
    (case k11 => k_is)
    (case a12 => k_is)
    (case l12 => k_is)
    (case c12 => k_is)
    (case k12 => k_is)
    (case a13 => k_is)
    (case l13 => k_is)
    (case c13 => k_is)
    (case k13 => k_is)
    (case a14 => k_is)
    (case l14 => k_is)
    (case c14 => k_is)
    (case k14 => k_is)
    (case a15 => k_is)
    (case l15 => k_is)
    (case c15 => k_is)
    (case k15 => k_is)
    (case a16 => k_is)
    (case l16 => k_is)
    (case c16 => k_is)
    (case k16 => k_is)
    (case a17 => k_is)
    (case l17 => k_is)
    (case c17 => k_is)
    (case k17 => k_is)
    (case a18 => k_is)
    (case l18 => k_is)
    (case c18 => k_is)
    (case k18 => k_is)
    (case a19 => k_is)
    (case l19 => k_is)
    (case c19 => k_is)
    (case k19 => k_is)
    (case a20 => k_is)
    (case l20 => k_is)
    (case c20 => k_is)
    (case k20 => k_is)
    (case a21 => k_is)
    (case l21 => k_is)
    (case c21 => k_is)
    (case k21 => k_is)
    (case a22 => k_is)
    (case l22 => k_is)
    (case c22 => k_is)
    (case k22 => k_is)
    (case a23 => k_is)
    (case l23 => k_is)
    (case c23 => k_is)
    (case k23 => k_is)
    (case aC => k_is)
    (case aI => k_is)
    (case iI => k_is)
    (case lI => k_is)
    (case cI => k_is)
    (case kI => k_is)
    (case lT => k_is)
    (case pg => k_is)
    (case hd => k_is)
    (case po => k_is)
    (case sa => k_is)
    (case mk => k_is)
    (case kc => k_is)
    (case nTo => k_is)
    (case nRu => k_is)
    (case v1 => k_is)
    (case v2 => k_is)
    (case v3 => k_is)
    (case v4 => k_is)
    (case v5 => k_is)
    (case lE0 => k_is)
    (case z1 => k_is)
    (case z2 => k_is)
    (case z3 => k_is)
    (case z4 => k_is)
    (case z5 => k_is)
    (case z6 => k_is)
    (case z7 => k_is)
    (case z8 => k_is)
    (case z9 => k_is)
    (case z10 => k_is)
    (case z11 => k_is)
    (case z12 => k_is)
    (case z13 => k_is)
    (case z14 => k_is)
